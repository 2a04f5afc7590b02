package search_test

import (
	"reflect"
	"slices"
	"testing"

	"shackle/api"
	"shackle/search"
	"shackle/vfs"
)

func TestExpand(t *testing.T) {
	for _, c := range []struct {
		s, origin, want string
		told            bool
	}{
		{"$ORIGIN/../${LIB}:$X", "/opt/a/prog", "/opt/a/../lib64:$X", true}, {"$ORIGINAL", "/a", "$ORIGINAL", false},
		{"", "/a/b", "", false}, {"plain", "/a/b", "plain", false}, {"$LIB", "/a/b", "lib64", false}, {"${PLATFORM}$PLATFORM", "", "x86_64x86_64", false},
		{"$ORIGIN", "/a", "/", true}, {"$ORIGIN", "a/b", "a", true}, {"$ORIGIN", "a", "", true}, {"$ORIGIN", "", "", true}, {"$ORIGIN", "/a/", "/a", true}, {"$ORIGIN", "//", "/", true}, {"x${ORIGIN}y", "/a/b", "x/ay", true},
		{"$ORIGIN_", "/a/b", "$ORIGIN_", false}, {"$ORIGIN9", "/a/b", "$ORIGIN9", false}, {"$ORIGINa", "/a/b", "$ORIGINa", false}, {"$LIBZ", "", "$LIBZ", false}, {"$LIBA", "", "$LIBA", false}, {"$LIBz", "", "$LIBz", false}, {"$LIB0", "", "$LIB0", false}, {"$LIB@", "", "lib64@", false}, {"$LIB[", "", "lib64[", false}, {"$LIB`", "", "lib64`", false}, {"$LIB/", "", "lib64/", false}, {"$ORIGIN.so", "/a/b", "/a.so", true}, {"$ORIGIN-$LIB:", "/a/b", "/a-lib64:", true},
		{"${ORIGIN}A", "/a/b", "/aA", true}, {"${ORIGIN_}", "/a/b", "${ORIGIN_}", false}, {"${ORIGIN", "/a/b", "${ORIGIN", false}, {"${ ORIGIN}", "/a/b", "${ ORIGIN}", false}, {"${}", "/a/b", "${}", false}, {"${LIB}}", "", "lib64}", false},
		{"$", "/a/b", "$", false}, {"$$LIB", "", "$lib64", false}, {"$$", "", "$$", false}, {"$lib", "", "$lib", false}, {"$LI", "", "$LI", false}, {"$ORIGIN$ORIGIN", "/$LIB/x", "/$LIB/$LIB", true}, {"\xff$LIB\xff", "", "\xfflib64\xff", false}, {"$LIB{", "", "lib64{", false},
	} {
		if s, told := search.Expand(c.s, c.origin); s != c.want || told != c.told {
			t.Errorf("P14.1: Expand(%q, %q): %q, %v", c.s, c.origin, s, told)
		}
	}
}

// rpath, runpath and both are objects with such lists.
func rpath(path, list string) api.Origin {
	return api.Origin{Path: path, Rpath: list, HasRpath: true}
}

func runpath(path, list string) api.Origin {
	return api.Origin{Path: path, Runpath: list, HasRunpath: true}
}

func both(path, r, run string) api.Origin {
	return api.Origin{Path: path, Rpath: r, HasRpath: true, Runpath: run, HasRunpath: true}
}

func TestDirs(t *testing.T) {
	for _, c := range []struct {
		what string
		a    api.Ask
		want []string
	}{
		{"nothing", api.Ask{}, []string{"/lib64", "/usr/lib64"}},
		{"the example", api.Ask{Chain: []api.Origin{rpath("/bin/p", "/r:$ORIGIN")}, Env: "/e;/f"}, []string{"/r", "/bin", "/e", "/f", "/lib64", "/usr/lib64"}},
		{"secure", api.Ask{Chain: []api.Origin{rpath("/bin/p", "/r:$ORIGIN")}, Env: "/e;/f", Secure: true}, []string{"/r", "/lib64", "/usr/lib64"}},
		{"a Runpath besides", api.Ask{Chain: []api.Origin{both("/bin/p", "/r:$ORIGIN", "/u")}, Env: "/e;/f"}, []string{"/e", "/f", "/u", "/lib64", "/usr/lib64"}},
		{"a chain", api.Ask{Chain: []api.Origin{rpath("/a/x", "$ORIGIN/1"), both("/b/x", "/no", "/no"), {Path: "/c/x", Rpath: "/no"}, rpath("/d/x", "$ORIGIN/2:/3")}}, []string{"/a/1", "/d/2", "/3", "/lib64", "/usr/lib64"}},
		{"a Runpath ahead of the chain", api.Ask{Chain: []api.Origin{runpath("/a/x", "$ORIGIN/u"), rpath("/d/x", "/r")}}, []string{"/a/u", "/lib64", "/usr/lib64"}},
		{"a Runpath in the chain", api.Ask{Chain: []api.Origin{{Path: "/a/x"}, runpath("/b/x", "/u"), rpath("/d/x", "/r")}}, []string{"/r", "/lib64", "/usr/lib64"}},
		{"lists that aren't there", api.Ask{Chain: []api.Origin{{Path: "/a/x", Rpath: "/r", Runpath: "/u"}}}, []string{"/lib64", "/usr/lib64"}},
		{"an empty list", api.Ask{Chain: []api.Origin{rpath("/a/x", "")}}, []string{"/", "/lib64", "/usr/lib64"}},
		{"empty parts", api.Ask{Chain: []api.Origin{rpath("/a/x", ":/r:")}, Env: ";/e"}, []string{"/", "/r", "/e", "/lib64", "/usr/lib64"}},
		{"an empty Runpath", api.Ask{Chain: []api.Origin{runpath("/a/x", "")}}, []string{"/", "/lib64", "/usr/lib64"}},
		{"each once", api.Ask{Chain: []api.Origin{rpath("/a/x", "/usr/lib64:/a:$ORIGIN:/r:/a")}, Env: "/r:/lib64:/e"}, []string{"/usr/lib64", "/a", "/r", "/lib64", "/e"}},
		{"; in an Rpath", api.Ask{Chain: []api.Origin{rpath("/a/x", "/a;/b")}}, []string{"/a;/b", "/lib64", "/usr/lib64"}},
		{"; in a Runpath", api.Ask{Chain: []api.Origin{runpath("/a/x", "/a;/b:c")}}, []string{"/a;/b", "c", "/lib64", "/usr/lib64"}},
		{"tokens of Env", api.Ask{Chain: []api.Origin{{Path: "/a/x"}, {Path: "/b/c/x"}}, Env: "$ORIGIN:$LIB"}, []string{"/b/c", "lib64", "/lib64", "/usr/lib64"}},
		{"tokens of Env without a chain", api.Ask{Env: "$ORIGIN/q:$ORIGIN"}, []string{"/q", "", "/lib64", "/usr/lib64"}},
		{"secure, other tokens", api.Ask{Chain: []api.Origin{runpath("/a/x", "/$LIB:${ORIGIN}x:/k:$ORIGINAL")}, Secure: true, Env: "/e"}, []string{"/lib64", "/k", "$ORIGINAL", "/usr/lib64"}},
		{"runes", api.Ask{Env: "/é:/ü;/\xff:"}, []string{"/é", "/ü", "/\xff", "/", "/lib64", "/usr/lib64"}},
		{"cut ahead of tokens", api.Ask{Chain: []api.Origin{rpath("/a:b/x", "$ORIGIN")}}, []string{"/a:b", "/lib64", "/usr/lib64"}},
	} {
		if l := search.Dirs(c.a); !slices.Equal(l, c.want) {
			t.Errorf("P14.2: %s: %q, not %q", c.what, l, c.want)
		}
	}
}

// tree has a file at each path, and the directories above.
func tree(t *testing.T, paths ...string) *vfs.Tree {
	t.Helper()
	var l []api.Node
	seen := map[string]int{}
	for _, p := range paths {
		for i := 1; i < len(p); i++ {
			if dir := p[:i]; p[i] == '/' && seen[dir] == 0 {
				seen[dir] = 1
				l = append(l, api.Node{Path: dir, Kind: api.NodeDir})
			}
		}
		l = append(l, api.Node{Path: p, Data: []byte(p)})
	}
	tr, err := vfs.New(l)
	if err != nil {
		t.Fatal(err)
	}
	return tr
}

func TestFind(t *testing.T) {
	tr := tree(t, "/lib64/a", "/usr/lib64/a", "/usr/lib64/b", "/r/b", "/r/d/x", "/e/c", "/top", "/opt/l/q", "/lib64/dir/x")
	p := []api.Origin{rpath("/opt/p", "/r")}
	for _, c := range []struct {
		a    api.Ask
		want string
	}{
		{api.Ask{Name: "a"}, "/lib64/a"}, {api.Ask{Name: "b"}, "/usr/lib64/b"}, {api.Ask{Name: "b", Chain: p}, "/r/b"}, {api.Ask{Name: "c"}, ""}, {api.Ask{Name: "c", Env: "/none;/e"}, "/e/c"}, {api.Ask{Name: "c", Env: "/e", Secure: true}, ""},
		{api.Ask{Name: "c", Env: "e"}, "/e/c"}, {api.Ask{Name: "top", Env: ":"}, "/top"}, {api.Ask{Name: "top", Env: "$ORIGIN"}, "/top"}, {api.Ask{Name: "dir"}, ""}, {api.Ask{Name: "d", Chain: p}, ""}, {api.Ask{Name: "."}, ""},
		{api.Ask{Name: "/e/c"}, "/e/c"}, {api.Ask{Name: "e/c"}, "/e/c"}, {api.Ask{Name: "/e/../r/b"}, "/r/b"}, {api.Ask{Name: "$ORIGIN/l/q", Chain: p}, "/opt/l/q"}, {api.Ask{Name: "$ORIGIN/l/q", Chain: p, Secure: true}, ""}, {api.Ask{Name: "/$LIB/a", Secure: true}, "/lib64/a"},
		{api.Ask{Name: "$ORIGIN/e/c"}, "/e/c"}, {api.Ask{Name: "/none/x", Env: "/e"}, ""}, {api.Ask{Name: "/b", Chain: p}, ""}, {api.Ask{Name: "r/d"}, ""}, {api.Ask{Name: "/"}, ""}, {api.Ask{Name: "a\x00"}, ""},
		{api.Ask{Name: "$ORIGIN/l/q", Chain: []api.Origin{{Path: "/x/y"}, {Path: "/opt/p"}}}, ""},
	} {
		f, err := search.Find(tr, c.a)
		if c.want == "" && (err != api.ErrFind || !reflect.DeepEqual(f, api.File{})) || c.want != "" && (err != nil || f.Path != c.want || string(f.Data) != c.want) {
			t.Errorf("P14.3: %+v: %q, %v", c.a, f.Path, err)
		}
	}
	for _, c := range []struct {
		t *vfs.Tree
		a api.Ask
	}{{nil, api.Ask{Name: "a"}}, {tr, api.Ask{}}, {nil, api.Ask{}}} {
		if f, err := search.Find(c.t, c.a); err != api.ErrArg || f.Path != "" {
			t.Errorf("P14.3: %+v: %v", c.a, err)
		}
	}
}

// TestChangesNothing: in secure mode Env changes nothing; what stands behind the directory in which a file was found changes nothing.
func TestChangesNothing(t *testing.T) {
	tr := tree(t, "/r/x", "/e/x", "/lib64/y", "/e/y")
	chain := []api.Origin{rpath("/p", "/r")}
	for _, env := range []string{"", "/e", ";", "$ORIGIN", "/e:/r"} {
		a := api.Ask{Chain: chain, Secure: true}
		b := a
		b.Env = env
		if !slices.Equal(search.Dirs(a), search.Dirs(b)) {
			t.Errorf("P14.4: Env %q: %q", env, search.Dirs(b))
		}
		for _, name := range []string{"x", "y", "z"} {
			a.Name, b.Name = name, name
			f, err := search.Find(tr, a)
			g, err2 := search.Find(tr, b)
			if f.Path != g.Path || err != err2 {
				t.Errorf("P14.4: Env %q: %q, not %q", env, g.Path, f.Path)
			}
		}
		b.Secure, b.Name = false, "x"
		if f, err := search.Find(tr, b); f.Path != "/r/x" || err != nil {
			t.Errorf("P14.4: Env %q: %q, %v", env, f.Path, err)
		}
	}
}
