package link_test

import (
	"fmt"
	"reflect"
	"slices"
	"testing"

	"shackle/api"
	"shackle/link"
	"shackle/sample"
	"shackle/vfs"
)

func TestStartArguments(t *testing.T) {
	p := prog()
	p.Ret()
	tr := tree(t, files{path: p})
	with := func(do func(*api.Setup)) api.Setup { s := setup(); do(&s); return s }
	refused(t, "P21.1: no tree", setup(), nil, "", "", api.ErrArg)
	refused(t, "P21.1: fuel below 0", with(func(s *api.Setup) { s.Fuel, s.Path = -1, "/none" }), tr, "", "", api.ErrArg)
	refused(t, "P21.1: quota below 0", with(func(s *api.Setup) { s.Quota, s.Path = -1, "/none" }), tr, "", "", api.ErrArg)
	refused(t, "P21.1: quota above", with(func(s *api.Setup) { s.Quota = api.MaxPages + 1 }), tr, "", "", api.ErrArg)
	for _, p := range []string{"", "/none", "/bin", "/bin/p/", "bin/p"} {
		refused(t, "P21.1: the path "+p, with(func(s *api.Setup) { s.Path, s.Quota = p, 0 }), tr, p, "", api.ErrFind)
	}
	for _, quota := range []int{0, 1, 4} {
		refused(t, "P21.1: no room for the linker's page and the stack", with(func(s *api.Setup) { s.Quota = quota }), tr, "", "", api.ErrFull)
	}
	refused(t, "P21.1: no room for the program", with(func(s *api.Setup) { s.Quota = 6 }), tr, path, "", api.ErrFull)
	refused(t, "P21.1: no room for the first thread", with(func(s *api.Setup) { s.Quota = 7 }), tr, "", "", api.ErrFull)
	k := startWith(t, with(func(s *api.Setup) { s.Quota, s.Fuel = 8, 0 }), files{path: p})
	want := []api.Span{{Addr: main, Pages: 1, Perm: 5}, {Addr: main + 0x1000, Pages: 1, Perm: 6}, {Addr: api.TLSBase, Pages: 1, Perm: 6}, {Addr: api.StackBase, Pages: api.StackPages, Perm: 6}, {Addr: api.LinkerPage, Pages: 1, Perm: 5}}
	if got := k.Memory().Spans(); !reflect.DeepEqual(got, want) || k.Fuel() != 0 {
		t.Errorf("P21.1: %+v", got)
	}
}

func TestStartFiles(t *testing.T) {
	whole := prog("libx.so")
	whole.Ret()
	text := api.Node{Path: path, Data: []byte("text")}
	refused(t, "P21.1: a text", setup(), tree(t, nil, text), path, "", api.ErrRange)
	text.Data = make([]byte, 64)
	refused(t, "P21.1: noughts", setup(), tree(t, nil, text), path, "", api.ErrForm)
	refused(t, "P21.1: no library", setup(), tree(t, files{path: whole}), path, "libx.so", api.ErrFind)
	refused(t, "P21.1: a library's text", setup(), tree(t, files{path: whole}, api.Node{Path: "/lib64/libx.so", Data: make([]byte, 64)}), "/lib64/libx.so", "", api.ErrForm)
	x := lib("libx.so", "liby.so")
	refused(t, "P21.1: no library's library", setup(), tree(t, files{path: whole, "/lib64/libx.so": x}), "/lib64/libx.so", "liby.so", api.ErrFind)
	x = lib("")
	x.Plan.Type = api.Exec
	refused(t, "P21.1: a library of fixed place", setup(), tree(t, files{path: whole, "/lib64/libx.so": x}), "/lib64/libx.so", "", api.ErrForm)
	refused(t, "P21.1: no name", setup(), tree(t, files{path: prog("")}), path, "", api.ErrFind)
	link1 := api.Node{Path: "/start", Kind: api.NodeLink, To: "bin/p"}
	s := setup()
	s.Path = "/start"
	refused(t, "P21.1: the real path", s, tree(t, files{path: whole}, link1), path, "libx.so", api.ErrFind)
	k := startWith(t, s, files{path: whole, "/lib64/libx.so": lib("")}, link1)
	if o := k.Objects(); o[0].Path != path || o[0].Name != "/start" || o[1].Path != "/lib64/libx.so" || o[1].Name != "libx.so" {
		t.Errorf("P21.7: %+v", o)
	}
}

func TestStartObjects(t *testing.T) {
	p := prog("libx.so")
	p.Ret()
	k := start(t, files{path: p, "/lib64/libx.so": lib("libx.so")})
	want := []api.Loaded{{Path: path, Name: path, Base: main, Deps: []int{1}, Count: 1, Global: true}, {Path: "/lib64/libx.so", Name: "libx.so", Base: libs, Count: 1, Global: true}}
	got := k.Objects()
	if len(got) == 2 && len(got[1].Deps) == 0 {
		got[1].Deps = nil
	}
	if !reflect.DeepEqual(got, want) || !slices.Equal(k.Scope(), []int{0, 1}) {
		t.Errorf("P21.1: %+v, scope %v", got, k.Scope())
	}
	p.Plan.Type = api.Exec
	k = start(t, files{path: p, "/lib64/libx.so": lib("libx.so")})
	if o := k.Objects(); o[0].Base != 0 || o[1].Base != libs {
		t.Errorf("P21.1: of fixed place: %+v", o)
	}
	if perm, ok := k.Memory().Perm(0x400000); perm != 5 || !ok {
		t.Errorf("P21.1: permission %d", perm)
	}
}

// TestGather: by breadth, each file once, whatever it is asked for by.
func TestGather(t *testing.T) {
	l := files{
		path: prog("a", "b", "a"), "/lib64/a": lib("A", "c", "B", "p2"), "/lib64/b": lib("B", "d", "A", "b"), "/lib64/c": lib("", "d", "/lib64/other"), "/usr/lib64/d": lib("", "c"), "/lib64/B": lib("wrong"),
	}
	k := start(t, l, api.Node{Path: "/lib64/other", Kind: api.NodeHard, To: "/lib64/a"}, api.Node{Path: "/lib64/p2", Kind: api.NodeLink, To: "../bin/p"})
	want := []string{path + " [1 2] 10000000", "a [3 2 0] 20000000", "b [4 1 2] 20002000", "c [4 1] 20004000", "d [3] 20006000"}
	for i, o := range k.Objects() {
		if got := fmt.Sprintf("%s %v %x", o.Name, o.Deps, o.Base); got != want[i] {
			t.Errorf("P21.1: %s, not %s", got, want[i])
		}
	}
	var opened []int
	for _, a := range k.Audit() {
		if a.Kind == api.Opened {
			opened = append(opened, a.Object)
		}
	}
	if !slices.Equal(opened, []int{0, 1, 2, 3, 4}) {
		t.Errorf("P21.1: opened %v", opened)
	}
}

// TestSearch: what a library needs is looked for by it, by what loaded it, and by LD_LIBRARY_PATH.
func TestSearch(t *testing.T) {
	p, a := prog("a"), lib("", "b")
	p.Plan.HasRpath, p.Plan.Rpath = true, "$ORIGIN/../opt"
	l := files{path: p, "/opt/a": a, "/opt/b": lib("opt"), "/env/b": lib("env"), "/bin/b": lib("bin"), "/lib64/b": lib("default")}
	s := setup()
	s.Library = "/env"
	told := func(want string) {
		t.Helper()
		if o := startWith(t, s, l).Objects(); o[2].Path != want {
			t.Errorf("P21.1: b is %s, not %s", o[2].Path, want)
		}
	}
	told("/opt/b")
	a.Plan.HasRunpath, a.Plan.Runpath = true, "/bin"
	told("/env/b")
	s.Library = ""
	told("/bin/b")
	a.Plan.Runpath = "/none"
	told("/lib64/b")
}

func TestPreload(t *testing.T) {
	l := files{path: prog("c", "a"), "/lib64/a": begins("", 1), "/lib64/b": begins("", 2), "/lib64/c": begins("", 3), "/opt/d": begins("", 4, "a")}
	s := setup()
	s.Preload = ":b  none:/opt/d b::/none "
	k := startWith(t, s, l)
	if o := k.Objects(); names(k) != path+" b /opt/d c a" || !slices.Equal(o[0].Deps, []int{1, 2, 3, 4}) {
		t.Errorf("P21.1: %s, %v", names(k), o[0].Deps)
	}
	expect(t, "P21.1: what is preloaded is begun first", k, 2, 1, 4, 3)
	refused(t, "P21.1: what is preloaded amiss", s, tree(t, l, api.Node{Path: "/lib64/none", Data: []byte("x")}), "/lib64/none", "", api.ErrRange)
	s.Preload = path
	if o := startWith(t, s, l).Objects(); len(o) != 3 || !slices.Equal(o[0].Deps, []int{0, 1, 2}) {
		t.Errorf("P21.1: the program preloaded: %+v", o)
	}
}

// TestSecure: neither LD_LIBRARY_PATH nor tokens, and of what is preloaded what has Setuid alone.
func TestSecure(t *testing.T) {
	l := files{"/opt/x": lib(""), "/lib64/y": begins("", 1), "/lib64/z": begins("", 2), "/bin/x": lib("")}
	b, err := prog("y").File()
	if err != nil {
		t.Fatal(err)
	}
	program := api.Node{Path: path, Data: b, Setuid: true}
	s := setup()
	s.Library, s.Preload = "/opt", "z /lib64/z x sz y"
	sz, err := begins("", 3).File()
	if err != nil {
		t.Fatal(err)
	}
	more := []api.Node{program, {Path: "/lib64/sz", Data: sz, Setuid: true}, {Path: "/opt/sx", Data: sz, Setuid: true}}
	k := startWith(t, s, l, more...)
	if names(k) != path+" sz y" {
		t.Errorf("T4: %s", names(k))
	}
	if _, err := k.Open("x", false, false); !isFault(err, path, "x", api.ErrFind) {
		t.Errorf("T4: %v", err)
	}
	more[0].Setuid = false
	k = startWith(t, s, l, more...)
	if names(k) != path+" z x sz y" {
		t.Errorf("T4: not secure: %s", names(k))
	}
	r := prog("y")
	r.Plan.HasRpath, r.Plan.Rpath = true, "/opt"
	if b, err = r.File(); err != nil {
		t.Fatal(err)
	}
	s.Preload = "sx /opt/sx /lib64/sz"
	more[0] = api.Node{Path: path, Data: b, Setuid: true}
	if k = startWith(t, s, l, more...); names(k) != path+" y" {
		t.Errorf("T4: what has Setuid, elsewhere: %s", names(k))
	}
	more[0].Setuid = false
	if k = startWith(t, s, l, more...); names(k) != path+" sx /lib64/sz y" {
		t.Errorf("T4: not secure: %s", names(k))
	}
	p := prog("x")
	p.Plan.HasRpath, p.Plan.Rpath = true, "$ORIGIN"
	start(t, files{path: p, "/bin/x": lib("")})
	b, _ = p.File()
	refused(t, "T4: ORIGIN", setup(), tree(t, files{"/bin/x": lib("")}, api.Node{Path: path, Data: b, Setuid: true}), path, "x", api.ErrFind)
}

func TestManyObjects(t *testing.T) {
	l := files{path: prog("l1")}
	for i := 1; i < 70; i++ {
		l[fmt.Sprint("/lib64/l", i)] = lib("", fmt.Sprint("l", i+1))
	}
	refused(t, "P21.1: too many objects", setup(), tree(t, l), "/lib64/l64", "", api.ErrLong)
	delete(l, "/lib64/l64")
	l["/lib64/l63"] = lib("")
	l["/lib64/extra"] = lib("")
	k := start(t, l)
	if n := len(k.Objects()); n != 64 {
		t.Errorf("P21.1: %d objects", n)
	}
	if _, err := k.Open("extra", false, false); !isFault(err, "/lib64/extra", "", api.ErrLong) {
		t.Errorf("P21.4: %v", err)
	}
	if h := open(t, k, "l5", false, false); h != 6 {
		t.Errorf("P21.4: handle %d", h)
	}
}

func TestVersions(t *testing.T) {
	p := prog("x")
	p.Import(api.PlanSym{Name: "f", Bind: api.Weak, Version: "V2", File: "X"})
	x := lib("X")
	x.Traps("f", 1).Version = "V1"
	l := files{path: p, "/lib64/x": x}
	refused(t, "P21.1: a version", setup(), tree(t, l), path, "V2", api.ErrVersion)
	x.Traps("f", 2).Version = "V2"
	start(t, l)
	x.Plan.Soname = "Y"
	refused(t, "P21.1: nobody goes by that name", setup(), tree(t, l), path, "V2", api.ErrVersion)
}

// TestThreadLocalStart: the modules of the start, and what is amiss with them.
func TestThreadLocalStart(t *testing.T) {
	withTLS := func(l *sample.Lib, size, align uint64, image ...byte) *sample.Lib {
		l.Plan.HasTLS, l.Plan.TLSSize, l.Plan.TLSAlign, l.Plan.TLS = true, size, align, image
		return l
	}
	p := withTLS(prog("a", "b"), 4, 4, 1, 2)
	k := start(t, files{path: p, "/lib64/a": lib(""), "/lib64/b": withTLS(lib(""), 10, 16, 3)})
	o := k.Objects()
	if o[0].Module != 1 || o[1].Module != 0 || o[2].Module != 2 {
		t.Errorf("P21.1: %+v", o)
	}
	for module, want := range map[int]uint64{1: api.TLSBase + 0x40 - 4, 2: api.TLSBase + 0x40 - 16} {
		if a, err := k.Local(0, module, 0); a != want || err != nil {
			t.Errorf("P21.3: module %d at %x, %v", module, a, err)
		}
	}
	if word(t, k, api.TLSBase+0x30)&0xff != 3 || word(t, k, api.TLSBase+0x3c)&0xffff != 0x0201 {
		t.Error("P21.1: images")
	}
	p.Plan.TLSSize = 1 << 20
	refused(t, "P21.1: too much thread-local storage", setup(), tree(t, files{path: p, "/lib64/a": lib(""), "/lib64/b": withTLS(lib(""), 10, 16, 3)}), "", "", api.ErrTLS)
}

// TestBeginOrder: what an object depends on is begun ahead of it; Init goes ahead of the array.
func TestBeginOrder(t *testing.T) {
	a := begins("", 1, "b")
	a.Plan.HasInit, a.Plan.Init = true, a.Here()
	a.Trap(5)
	a.Ret()
	a.Init()
	a.Trap(6)
	a.Ret()
	p := begins("", 9, "a")
	k := start(t, files{path: p, "/lib64/a": a, "/lib64/b": begins("", 2)})
	expect(t, "P21.1: the order", k, 2, 5, 1, 6, 9)
	var begun []int
	for _, a := range k.Audit() {
		if a.Kind == api.Begun {
			begun = append(begun, a.Object)
		}
	}
	if !slices.Equal(begun, []int{2, 1, 0}) {
		t.Errorf("P21.1: begun %v", begun)
	}
	for _, e := range k.Events() {
		if e.Rdi != 0 || e.IP < main {
			t.Errorf("P21.1: %+v", e)
		}
	}
}

// TestBeginAmiss: what goes wrong in an initialiser is told by its object.
func TestBeginAmiss(t *testing.T) {
	loop, bad, far := lib(""), lib(""), lib("")
	loop.Init()
	loop.Raw(0xeb, 0xfe)
	bad.Init()
	bad.Raw(0x06)
	far.Plan.HasInit, far.Plan.Init = true, 0
	far.Plan.Code[0] = 0xc3
	l := files{path: prog("x"), "/lib64/x": loop}
	refused(t, "P21.1: fuel", setup(), tree(t, l), "/lib64/x", "", api.ErrFuel)
	l["/lib64/x"] = bad
	refused(t, "P21.1: code", setup(), tree(t, l), "/lib64/x", "", api.ErrGuest)
	l["/lib64/x"] = far
	start(t, l)
	far.Plan.Code[0] = 0x06
	far.Init()
	far.Trap(1)
	far.Ret()
	refused(t, "P21.1: Init", setup(), tree(t, l), "/lib64/x", "", api.ErrGuest)
	one := begins("", 1)
	s := setup()
	s.Fuel = 0
	refused(t, "P21.1: no fuel", s, tree(t, files{path: one}), path, "", api.ErrFuel)
	for fuel := range 4 {
		s.Fuel = fuel
		refused(t, "P21.1: too little fuel", s, tree(t, files{path: one}), path, "", api.ErrFuel)
	}
	s.Fuel = 4 // mov, hlt, ret, and the hlt to come back
	k := startWith(t, s, files{path: one})
	if k.Fuel() != 0 {
		t.Errorf("P21.1: %d left", k.Fuel())
	}
}

// TestInitArray: the addresses are those that stand in memory then; 0 is none.
func TestInitArray(t *testing.T) {
	p := begins("", 1)
	p.Init()
	p.Trap(2)
	p.Ret()
	p.Plan.HasInit, p.Plan.Init = true, p.Here()
	// Init writes 0 into the first place of the array: that lies at a distance from the data which Where tells.
	data := p.Word(0)
	p.Reach(data, 0x48, 0x8d, 0x05)
	p.Raw(0x48, 0xc7, 0x80)
	hole := len(p.Plan.Code)
	p.Raw(0, 0, 0, 0, 0, 0, 0, 0)
	p.Ret()
	w := where(t, p)
	for i := range 4 {
		p.Plan.Code[hole+i] = byte((w.Inits - w.Data) >> (8 * i))
	}
	expect(t, "P21.1: as they stand in memory", start(t, files{path: p}), 2)
	object := tree(t, files{path: begins("", 1)})
	f, err := object.Open(path)
	if err != nil {
		t.Fatal(err)
	}
	for what, size := range map[string]uint64{"not mapped": 0x100000, "too long": 0x100001, "far too long": 1 << 63} {
		b := slices.Clone(f.Data)
		if !setTag(b, 27, size) {
			t.Fatal("no INIT_ARRAYSZ")
		}
		refused(t, "P21.1: an array "+what, setup(), tree(t, nil, api.Node{Path: path, Data: b}), path, "", api.ErrGuest)
	}
}

// setTag changes the value of a tag of a file's dynamic section, which lies where its third header says.
func setTag(b []byte, tag, v uint64) bool {
	number := func(at uint64) uint64 {
		n := uint64(0)
		for i := range uint64(8) {
			n |= uint64(b[at+i]) << (8 * i)
		}
		return n
	}
	at := number(64 + 2*56 + 8)
	for ; number(at) != 0; at += 16 {
		if number(at) == tag {
			for i := range uint64(8) {
				b[at+8+i] = byte(v >> (8 * i))
			}
			return true
		}
	}
	return false
}

// TestSealed: behind a start no page may be both written and run, and what is to be sealed can't be written.
func TestSealed(t *testing.T) {
	p := begins("", 1, "x")
	p.Plan.Relro = true
	p.Word(5)
	k := start(t, files{path: p, "/lib64/x": lib("")})
	for _, s := range k.Memory().Spans() {
		if s.Perm&(api.W|api.X) == api.W|api.X {
			t.Errorf("T5: %+v", s)
		}
	}
	w := where(t, p)
	if err := k.Memory().Write(main+w.Inits, []byte{1}); err == nil {
		t.Error("T5: the array of initialisers may be written")
	}
	if err := k.Memory().Write(main+w.Data, []byte{1}); err != nil {
		t.Errorf("T5: %v", err)
	}
}

// TestCopies: what is answered is no part of the link.
func TestCopies(t *testing.T) {
	k := start(t, files{path: begins("", 1, "x"), "/lib64/x": lib("")})
	k.Memory().Poke(main, []byte{9})
	k.Objects()[0].Deps[0] = 9
	k.Objects()[0].Path = "x"
	k.Scope()[0], k.Events()[0], k.Audit()[0] = 9, api.Event{}, api.Audit{}
	if b, _ := k.Memory().Peek(main, 1); b[0] != 0x7f || k.Objects()[0].Deps[0] != 1 || k.Objects()[0].Path != path || k.Scope()[0] != 0 || k.Events()[0].Rax != 1 || k.Audit()[0].Kind != api.Opened {
		t.Error("P21.7: what is answered is the link's own")
	}
}

// TestNoDynamic: a program without a dynamic section is started, too.
func TestNoDynamic(t *testing.T) {
	b := make([]byte, 64+56+1)
	copy(b, "\x7fELF\x02\x01\x01")
	for at, v := range map[int]byte{16: 2, 18: 62, 20: 1, 24: 120, 26: 0x40, 32: 64, 52: 64, 54: 56, 56: 1, 64: 1, 68: 5, 82: 0x40, 96: 121, 104: 121, 113: 0x10, 120: 0xc3} {
		b[at] = v
	}
	tr, err := vfs.New([]api.Node{{Path: "/p", Data: b}})
	if err != nil {
		t.Fatal(err)
	}
	k, err := link.Start(tr, api.Setup{Path: "/p", Quota: 20, Fuel: 9})
	if err != nil {
		t.Fatal(err)
	}
	if v := run(t, k); v != 0 || k.Fuel() != 7 {
		t.Errorf("P21.3: %d, %d left", v, k.Fuel())
	}
}
