package vfs_test

import (
	"bytes"
	"fmt"
	"reflect"
	"strings"
	"testing"

	"shackle/api"
	"shackle/vfs"
)

func dir(path string) api.Node         { return api.Node{Path: path, Kind: api.NodeDir} }
func file(path string) api.Node        { return api.Node{Path: path, Data: []byte(path)} }
func link(path, to string) api.Node    { return api.Node{Path: path, Kind: api.NodeLink, To: to} }
func another(path, to string) api.Node { return api.Node{Path: path, Kind: api.NodeHard, To: to} }

func tree(t *testing.T, l ...api.Node) *vfs.Tree {
	t.Helper()
	tr, err := vfs.New(l)
	if err != nil {
		t.Fatal(err)
	}
	return tr
}

func isSpot(err error, at uint64, code api.Code) bool {
	s, ok := err.(*api.Spot)
	return ok && s.At == at && s.Err == code
}

// example is the tree of the chapter's examples.
func example(t *testing.T) *vfs.Tree {
	a := api.Node{Path: "/lib/a", Data: []byte{1}, Setuid: true}
	return tree(t, dir("/lib"), a, link("/l", "lib"), another("/b", "/lib/a"), link("/x", "/x"))
}

func TestExamples(t *testing.T) {
	tr := example(t)
	for path, real := range map[string]string{"/l/a": "/lib/a", "/b": "/b", "//lib/./../l/a": "/lib/a"} {
		f, err := tr.Open(path)
		if want := (api.File{Path: real, Ino: 1, Data: []byte{1}, Setuid: true}); err != nil || !reflect.DeepEqual(f, want) {
			t.Errorf("P3.3: Open(%q): %+v, %v", path, f, err)
		}
	}
	for path, want := range map[string]error{"/lib": api.ErrDir, "/": api.ErrDir, "/b/": api.ErrDir, "/c": api.ErrNone, "/x": api.ErrHops, "b": api.ErrName, "": api.ErrName} {
		if f, err := tr.Open(path); err != want || !reflect.DeepEqual(f, api.File{}) {
			t.Errorf("P3.3: Open(%q): %+v, %v", path, f, err)
		}
	}
	for path, want := range map[string]string{"/l/..": "/", "/l": "/lib", "/": "/", "/..": "/", "/../..//lib/.": "/lib"} {
		if got, err := tr.Real(path); got != want || err != nil {
			t.Errorf("P3.2: Real(%q): %q, %v", path, got, err)
		}
	}
	for path, want := range map[string][]string{"/": {"b", "l", "lib", "x"}, "/l": {"a"}, "/l/": {"a"}} {
		if got, err := tr.List(path); !reflect.DeepEqual(got, want) || err != nil {
			t.Errorf("P3.4: List(%q): %q, %v", path, got, err)
		}
	}
}

func TestNew(t *testing.T) {
	long := strings.Repeat("n", 256)
	deep := strings.Repeat("/"+strings.Repeat("n", 255), 16) // 4096 bytes
	var dirs []api.Node
	for i := 256; i < 4096; i += 256 {
		dirs = append(dirs, dir(deep[:i]))
	}
	for _, c := range []struct {
		what string
		l    []api.Node
		at   int
		err  api.Code
	}{
		{"a kind above", []api.Node{{Path: "x", Kind: 4}}, 0, api.ErrArg},
		{"a kind below", []api.Node{file("/a"), {Path: "", Kind: -1}}, 1, api.ErrArg},
		{"no path", []api.Node{dir("")}, 0, api.ErrName},
		{"the root", []api.Node{dir("/")}, 0, api.ErrName},
		{"no slash ahead", []api.Node{dir("a")}, 0, api.ErrName},
		{"a slash behind", []api.Node{dir("/a/")}, 0, api.ErrName},
		{"two slashes", []api.Node{dir("/a"), file("/a//b")}, 1, api.ErrName},
		{"a dot", []api.Node{dir("/a"), file("/a/.")}, 1, api.ErrName},
		{"two dots", []api.Node{dir("/a"), file("/a/../b")}, 1, api.ErrName},
		{"a nought", []api.Node{file("/a\x00b")}, 0, api.ErrName},
		{"a long name", []api.Node{file("/" + long)}, 0, api.ErrName},
		{"a long path", append(dirs, dir(deep), file(deep+"/n")), 16, api.ErrName},
		{"a link to nothing", []api.Node{link("/a", "")}, 0, api.ErrName},
		{"a link with a nought", []api.Node{link("/a", "b\x00")}, 0, api.ErrName},
		{"a long link", []api.Node{link("/a", strings.Repeat("/", 4097))}, 0, api.ErrName},
		{"another name of no clean path", []api.Node{file("/a"), another("/b", "a")}, 1, api.ErrName},
		{"another name of no path", []api.Node{another("/b", "")}, 0, api.ErrName},
		{"another name of the root", []api.Node{another("/c", "/")}, 0, api.ErrName},
		{"another name of the root, behind a directory", []api.Node{dir("/d"), another("/c", "/")}, 1, api.ErrName},
		{"another name of the root, twice", []api.Node{file("/a"), another("/a", "/")}, 1, api.ErrName},
		{"another name of the root, nowhere", []api.Node{another("/d/b", "/")}, 0, api.ErrName},
		{"another name of the root, in a file", []api.Node{file("/a"), another("/a/b", "/")}, 1, api.ErrName},
		{"another name of two slashes", []api.Node{another("/c", "//")}, 0, api.ErrName},
		{"another name, a slash behind", []api.Node{file("/a"), another("/b", "/a/")}, 1, api.ErrName},
		{"another name, two dots", []api.Node{dir("/d"), file("/a"), another("/b", "/d/../a")}, 2, api.ErrName},
		{"the root itself as another name of a file", []api.Node{file("/a"), another("/", "/a")}, 1, api.ErrName},
		{"two of a path", []api.Node{file("/a"), dir("/a")}, 1, api.ErrTwice},
		{"a name ahead of what stands twice", []api.Node{file("/a"), another("/a", "b")}, 1, api.ErrName},
		{"no directory", []api.Node{file("/d/e")}, 0, api.ErrNone},
		{"no directory yet", []api.Node{file("/d/e"), dir("/d")}, 0, api.ErrNone},
		{"in a file", []api.Node{file("/d"), file("/d/e")}, 1, api.ErrDir},
		{"in a link to a directory", []api.Node{dir("/d"), link("/l", "d"), file("/l/e")}, 2, api.ErrDir},
		{"another name of nothing", []api.Node{another("/b", "/a"), file("/a")}, 0, api.ErrNone},
		{"another name of a directory", []api.Node{dir("/a"), another("/b", "/a")}, 1, api.ErrDir},
		{"another name of a link", []api.Node{file("/a"), link("/l", "a"), another("/b", "/l")}, 2, api.ErrDir},
		{"no directory ahead of no file", []api.Node{dir("/a"), another("/d/b", "/a")}, 1, api.ErrNone},
		{"no directory ahead of no file", []api.Node{file("/a"), another("/a/b", "/c")}, 1, api.ErrDir},
	} {
		if tr, err := vfs.New(c.l); tr != nil || !isSpot(err, uint64(c.at), c.err) {
			t.Errorf("P3.1: %s: %v", c.what, err)
		}
	}
}

func TestNewMay(t *testing.T) {
	name := strings.Repeat("n", 255)
	for _, l := range [][]api.Node{
		nil,
		{file("/" + name), file("/..."), file("/ \xff")},
		{link("/a", strings.Repeat("x", 4096)), link("/b", "."), link("/c", "nowhere")},
		{file("/a"), another("/b", "/a"), another("/c", "/b")},
		{link("/a", "/"), dir("/d"), link("/d/b", "//")}, // a link may lead to the root
		{{Path: "/d", Kind: api.NodeDir, To: "/"}, {Path: "/d/f", To: "/"}},
		{{Path: "/d", Kind: api.NodeDir, To: "\x00", Data: []byte{1}}, {Path: "/d/f", To: "\x00"}},
	} {
		if tr, err := vfs.New(l); tr == nil || err != nil {
			t.Errorf("P3.1: %v: %v", l, err)
		}
	}
	var l []api.Node
	for i := range api.MaxNodes {
		l = append(l, file(fmt.Sprint("/", i)))
	}
	tree(t, l...)
	if tr, err := vfs.New(append(l, api.Node{Kind: 9})); tr != nil || err != api.ErrLong {
		t.Errorf("P3.1: too many: %v", err)
	}
}

// TestFollow: how paths and the links in them are followed.
func TestFollow(t *testing.T) {
	tr := tree(t, dir("/a"), dir("/a/b"), file("/a/b/f"), link("/a/up", "../a/./b"), link("/abs", "/a//b/"), link("/a/b/rel", "f"),
		link("/tofile", "a/b/f"), link("/slash", "a/b/f/"), link("/root", "/"), link("/gone", "a/none/x"), link("/dots", "a/b/../.."), link("/two", "abs/rel"), link("/a/b/top", "/tofile"))
	for _, c := range []struct {
		path, real string
		err        error
	}{
		{"/a/up/f", "/a/b/f", nil}, {"/abs/rel", "/a/b/f", nil}, {"/abs/..", "/a", nil}, {"/tofile", "/a/b/f", nil},
		{"/root", "/", nil}, {"/root/a/up/rel", "/a/b/f", nil}, {"/dots/a", "/a", nil}, {"/two", "/a/b/f", nil}, {"/a/b/top", "/a/b/f", nil},
		{"/tofile/", "", api.ErrDir}, {"/tofile/..", "", api.ErrDir}, {"/tofile/.", "", api.ErrDir}, {"/a/b/f/g", "", api.ErrDir},
		{"/slash", "", api.ErrDir}, {"/gone", "", api.ErrNone}, {"/none/..", "", api.ErrNone}, {"/A", "", api.ErrNone},
		{"/a\x00", "", api.ErrName}, {"a/b", "", api.ErrName}, {"/" + strings.Repeat("n", 300), "", api.ErrNone},
		{strings.Repeat("/", 4096), "/", nil}, {strings.Repeat("/", 4097), "", api.ErrName},
	} {
		if got, err := tr.Real(c.path); got != c.real || err != c.err {
			t.Errorf("P3.2: Real(%q): %q, %v", c.path, got, err)
		}
		if f, err := tr.Open(c.path); c.err != nil && (err != c.err || f.Path != "") {
			t.Errorf("P3.3: Open(%q): %q, %v", c.path, f.Path, err)
		}
		if l, err := tr.List(c.path); c.err != nil && (err != c.err || l != nil) {
			t.Errorf("P3.4: List(%q): %q, %v", c.path, l, err)
		}
	}
}

func TestHops(t *testing.T) {
	l := []api.Node{file("/l0")}
	for i := 1; i <= 9; i++ {
		l = append(l, link(fmt.Sprint("/l", i), fmt.Sprint("l", i-1)))
	}
	l = append(l, link("/d", "/"), link("/nine", "/l8"))
	tr := tree(t, l...)
	for path, want := range map[string]error{
		"/l8": nil, "/l9": api.ErrHops, "/nine": api.ErrHops, "/d/l7": nil, "/d/l8": api.ErrHops,
		"/d/d/d/d/d/d/d/d/l0": nil, "/d/d/d/d/d/d/d/d/d/l0": api.ErrHops, "/d/d/d/d/d/d/d/d/none": api.ErrNone,
	} {
		if real, err := tr.Real(path); err != want || err == nil && real != "/l0" {
			t.Errorf("P3.2: Real(%q): %q, %v", path, real, err)
		}
	}
}

func TestList(t *testing.T) {
	tr := tree(t, dir("/d"), file("/d/b"), dir("/d/a"), file("/d/a/z"), link("/d/c", "nowhere"), another("/d/B", "/d/b"), file("/d/\xff"), dir("/dd"), file("/dd/x"))
	for path, want := range map[string][]string{"/d": {"B", "a", "b", "c", "\xff"}, "/d/a": {"z"}, "/": {"d", "dd"}, "/dd/../d/a": {"z"}} {
		if l, err := tr.List(path); !reflect.DeepEqual(l, want) || err != nil {
			t.Errorf("P3.4: List(%q): %q, %v", path, l, err)
		}
	}
	if l, err := tree(t).List("/"); len(l) != 0 || err != nil {
		t.Errorf("P3.4: of nothing: %q, %v", l, err)
	}
	for path, want := range map[string]error{"/d/b": api.ErrDir, "/d/c": api.ErrNone, "d": api.ErrName} {
		if l, err := tr.List(path); l != nil || err != want {
			t.Errorf("P3.4: List(%q): %q, %v", path, l, err)
		}
	}
}

// TestCopies: neither what was handed in nor what was answered is kept.
func TestCopies(t *testing.T) {
	l := []api.Node{{Path: "/a", Data: []byte{1, 2}}}
	tr := tree(t, l...)
	l[0].Data[0] = 9
	l[0].Path = "/b"
	f, err := tr.Open("/a")
	if err != nil || !bytes.Equal(f.Data, []byte{1, 2}) {
		t.Fatalf("P3.1: %v, %v", f, err)
	}
	f.Data[1] = 9
	if g, _ := tr.Open("/a"); !bytes.Equal(g.Data, []byte{1, 2}) {
		t.Errorf("P3.3: %v", g.Data)
	}
}

// TestNames: Real of Real is Real; a path and its Real are one file; two paths are one file just if they are names of one.
func TestNames(t *testing.T) {
	tr := tree(t, dir("/d"), file("/d/a"), file("/d/b"), another("/d/c", "/d/a"), another("/e", "/d/c"), link("/f", "d/c"), link("/g", "d"))
	want := map[string]int{"/d/a": 1, "/d/c": 1, "/e": 1, "/f": 1, "/g/a": 1, "/g/../e": 1, "/d/b": 2, "/g/b": 2}
	for path, ino := range want {
		f, err := tr.Open(path)
		real, err2 := tr.Real(path)
		again, err3 := tr.Real(real)
		g, err4 := tr.Open(real)
		if err != nil || err2 != nil || err3 != nil || err4 != nil {
			t.Fatalf("P3.5: %q: %v, %v, %v, %v", path, err, err2, err3, err4)
		}
		if f.Ino != ino || again != real || f.Path != real || !reflect.DeepEqual(f, g) {
			t.Errorf("P3.5: %q: %+v, %+v, real %q and %q", path, f, g, real, again)
		}
	}
}
