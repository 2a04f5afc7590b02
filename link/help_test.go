package link_test

import (
	"slices"
	"sort"
	"strings"
	"testing"

	"shackle/api"
	"shackle/link"
	"shackle/mint"
	"shackle/sample"
	"shackle/vfs"
)

const (
	main = api.MainBase
	libs = api.LibBase
	path = "/bin/p"
)

// files are the files of a tree, by their paths.
type files map[string]*sample.Lib

// nodes is a tree of files with further nodes behind them; the directories above them are there, too.
func nodes(t *testing.T, l files, more ...api.Node) []api.Node {
	t.Helper()
	var paths []string
	for p := range l {
		paths = append(paths, p)
	}
	sort.Strings(paths)
	var out []api.Node
	seen := map[string]int{}
	above := func(p string) {
		for i := 1; i < len(p); i++ {
			if dir := p[:i]; p[i] == '/' && seen[dir] == 0 {
				seen[dir] = 1
				out = append(out, api.Node{Path: dir, Kind: api.NodeDir})
			}
		}
	}
	for _, p := range paths {
		above(p)
		b, err := l[p].File()
		if err != nil {
			t.Fatalf("%s: %v", p, err)
		}
		out = append(out, api.Node{Path: p, Data: b})
	}
	for _, n := range more {
		above(n.Path)
		out = append(out, n)
	}
	return out
}

func tree(t *testing.T, l files, more ...api.Node) *vfs.Tree {
	t.Helper()
	tr, err := vfs.New(nodes(t, l, more...))
	if err != nil {
		t.Fatal(err)
	}
	return tr
}

// setup is a start of the program with enough of everything.
func setup() api.Setup { return api.Setup{Path: path, Quota: 2000, Fuel: 10000} }

// start starts a program that must start.
func start(t *testing.T, l files, more ...api.Node) *link.Link {
	t.Helper()
	return startWith(t, setup(), l, more...)
}

func startWith(t *testing.T, s api.Setup, l files, more ...api.Node) *link.Link {
	t.Helper()
	k, err := link.Start(tree(t, l, more...), s)
	if err != nil {
		t.Fatalf("Start: %v", err)
	}
	return k
}

// isFault tells whether an error is a Fault itself with these.
func isFault(err error, object, name string, code api.Code) bool {
	f, ok := err.(*api.Fault)
	return ok && f.Object == object && f.Name == name && f.Err == code
}

// refused asks a start that must fail for its fault.
func refused(t *testing.T, what string, s api.Setup, tr *vfs.Tree, object, name string, code api.Code) {
	t.Helper()
	if k, err := link.Start(tr, s); k != nil || !isFault(err, object, name, code) {
		t.Errorf("%s: %v", what, err)
	}
}

// traps is the numbers of the traps so far.
func traps(k *link.Link) []uint64 {
	var l []uint64
	for _, e := range k.Events() {
		l = append(l, e.Rax)
	}
	return l
}

// expect holds the traps so far against those that must be.
func expect(t *testing.T, what string, k *link.Link, want ...uint64) {
	t.Helper()
	if got := traps(k); !slices.Equal(got, want) {
		t.Errorf("%s: traps %d, not %d", what, got, want)
	}
}

// run runs the program.
func run(t *testing.T, k *link.Link) uint64 {
	t.Helper()
	v, err := k.Run()
	if err != nil {
		t.Errorf("Run: %v", err)
	}
	return v
}

// open opens a library that must open.
func open(t *testing.T, k *link.Link, name string, global, now bool) int {
	t.Helper()
	h, err := k.Open(name, global, now)
	if err != nil {
		t.Fatalf("Open %s: %v", name, err)
	}
	return h
}

// find is a symbol's address, which must be there.
func find(t *testing.T, k *link.Link, handle int, name, version string) uint64 {
	t.Helper()
	a, err := k.Sym(handle, name, version)
	if err != nil {
		t.Fatalf("Sym %s: %v", name, err)
	}
	return a
}

// call calls an address on the first thread.
func call(t *testing.T, k *link.Link, addr uint64, args ...uint64) uint64 {
	t.Helper()
	v, err := k.Call(0, addr, args...)
	if err != nil {
		t.Errorf("Call of %x: %v", addr, err)
	}
	return v
}

// shut closes a handle that must close.
func shut(t *testing.T, k *link.Link, handle int) {
	t.Helper()
	if err := k.Close(handle); err != nil {
		t.Fatalf("Close: %v", err)
	}
}

// word is 8 bytes of memory.
func word(t *testing.T, k *link.Link, addr uint64) uint64 {
	t.Helper()
	b, err := k.Memory().Peek(addr, 8)
	if err != nil {
		t.Fatalf("memory at %x: %v", addr, err)
	}
	v := uint64(0)
	for i, c := range b {
		v |= uint64(c) << (8 * i)
	}
	return v
}

// names is the objects' names that aren't gone.
func names(k *link.Link) string {
	var l []string
	for _, o := range k.Objects() {
		if !o.Gone {
			l = append(l, o.Name)
		}
	}
	return strings.Join(l, " ")
}

// alike tells what of two links differs, but for the fuel.
func alike(t *testing.T, what string, before, after *link.Link) {
	t.Helper()
	if at, ok := before.Memory().Differ(after.Memory()); ok {
		t.Errorf("%s: memory differs at %x", what, at)
	}
	if !slices.Equal(before.Events(), after.Events()) || !slices.Equal(before.Audit(), after.Audit()) || !slices.Equal(before.Scope(), after.Scope()) {
		t.Errorf("%s: %v, %v, %v; %v, %v, %v", what, before.Events(), before.Audit(), before.Scope(), after.Events(), after.Audit(), after.Scope())
	}
	a, b := before.Objects(), after.Objects()
	if len(a) != len(b) {
		t.Fatalf("%s: %d objects, %d", what, len(a), len(b))
	}
	for i := range a {
		if !slices.Equal(a[i].Deps, b[i].Deps) {
			t.Errorf("%s: object %d: %+v, %+v", what, i, a[i], b[i])
		}
		a[i].Deps, b[i].Deps = nil, nil
		if a[i].Path != b[i].Path || a[i].Base != b[i].Base || a[i].Count != b[i].Count || a[i].Gone != b[i].Gone || a[i].Global != b[i].Global || a[i].Module != b[i].Module || a[i].Name != b[i].Name {
			t.Errorf("%s: object %d: %+v, %+v", what, i, a[i], b[i])
		}
	}
}

// lib is a library that needs others.
func lib(soname string, needed ...string) *sample.Lib {
	l := sample.New(soname)
	l.Plan.Needed = needed
	return l
}

// prog is a program that needs libraries; what is added to it behind that is what it runs.
func prog(needed ...string) *sample.Lib {
	l := lib("", needed...)
	l.Entry()
	return l
}

// begins is a library whose initialiser and terminator trap with a number, and with 100 more.
func begins(soname string, n uint32, needed ...string) *sample.Lib {
	l := lib(soname, needed...)
	l.Init()
	l.Trap(n)
	l.Ret()
	l.Fini()
	l.Trap(n + 100)
	l.Ret()
	return l
}

// where is where the parts of a library lie.
func where(t *testing.T, l *sample.Lib) api.Layout {
	t.Helper()
	w, err := mint.Where(l.Plan)
	if err != nil {
		t.Fatal(err)
	}
	return w
}
