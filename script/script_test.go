package script_test

import (
	"reflect"
	"sort"
	"testing"

	"shackle/api"
	"shackle/sample"
	"shackle/script"
)

const (
	path = "/bin/p"
	main = api.MainBase
	libs = api.LibBase
)

// files are the files of a tree, by their paths.
type files map[string]*sample.Lib

// nodes is a tree of files, with the directories above them, and further nodes behind.
func nodes(t *testing.T, l files, more ...api.Node) []api.Node {
	t.Helper()
	var paths []string
	for p := range l {
		paths = append(paths, p)
	}
	sort.Strings(paths)
	var out []api.Node
	for _, dir := range []string{"/bin", "/lib64", "/opt", "/usr", "/usr/lib64"} {
		out = append(out, api.Node{Path: dir, Kind: api.NodeDir})
	}
	for _, p := range paths {
		b, err := l[p].File()
		if err != nil {
			t.Fatalf("%s: %v", p, err)
		}
		out = append(out, api.Node{Path: p, Data: b})
	}
	return append(out, more...)
}

func setup() api.Setup { return api.Setup{Path: path, Quota: 2000, Fuel: 10000} }

// lib is a library that needs others.
func lib(soname string, needed ...string) *sample.Lib {
	l := sample.New(soname)
	l.Plan.Needed = needed
	return l
}

// prog is a program that needs libraries, traps with 7 and calls functions.
func prog(needed []string, later bool, names ...string) *sample.Lib {
	p := lib("", needed...)
	p.Entry()
	p.Trap(7)
	for _, n := range names {
		if later {
			p.CallLater(n)
		} else {
			p.Call(n)
		}
	}
	p.Ret()
	return p
}

// begins is a library whose initialiser and terminator trap with a number, and with 100 more, and whose function f traps with 200 more.
func begins(n uint32, needed ...string) *sample.Lib {
	l := lib("", needed...)
	l.Init()
	l.Trap(n)
	l.Ret()
	l.Fini()
	l.Trap(n + 100)
	l.Ret()
	l.Traps("f", n+200)
	return l
}

// some is a tree of a program and of a library to be opened, which has thread-local storage.
func some(t *testing.T) []api.Node {
	x := begins(1)
	x.Plan.HasTLS, x.Plan.TLSSize, x.Plan.TLSAlign, x.Plan.TLS = true, 8, 8, []byte{9}
	x.Func("twice")
	x.Raw(0x48, 0x8d, 0x04, 0x3f, 0xc3)
	x.Symbol(api.PlanSym{Name: "word", Bind: api.Global, Type: api.Data, Where: api.InData, Off: x.Word(0x1122334455667788), Size: 8})
	x.Word(0x99)
	x.Func("tp")
	x.Raw(0x64, 0x48, 0x8b, 0x04, 0x25, 0, 0, 0, 0, 0xc3)
	return nodes(t, files{path: prog(nil, false), "/lib64/x": x})
}

func TestActs(t *testing.T) {
	acts := []api.Act{
		{Kind: api.ActOpen, Name: "x"},
		{Kind: api.ActSym, Of: 1, Name: "twice"},
		{Kind: api.ActCall, Of: 2, Arg: 21},
		{Kind: api.ActSym, Of: 1, Name: "word"},
		{Kind: api.ActRead, Of: 4},
		{Kind: api.ActRead, Of: 4, Arg: 8},
		{Kind: api.ActRun},
		{Kind: api.ActThread},
		{Kind: api.ActLocal, Thread: 1, Module: 1},
		{Kind: api.ActRead, Of: 9},
		{Kind: api.ActSym, Of: 1, Name: "tp"},
		{Kind: api.ActCall, Of: 11, Thread: 1},
		{Kind: api.ActRead, N: main},
		{Kind: api.ActRead, N: api.LinkerPage, Arg: 16},
		{Kind: api.ActClose, Of: 1},
		{Kind: api.ActRead, Of: 4},
		{Kind: api.ActSym, N: 1, Name: "f"},
		{Kind: api.ActOpen, Name: "x", Global: true},
		{Kind: api.ActSym, Name: "f"},
		{Kind: api.ActCall, Of: 19},
	}
	start, answers := script.Play(some(t), setup(), acts)
	if start != (api.Told{}) || len(answers) != len(acts) {
		t.Fatalf("P22.1: %+v, %d answers", start, len(answers))
	}
	for i, want := range map[int]api.Told{
		0: {Value: 2}, 2: {Value: 42}, 4: {Value: 0x1122334455667788}, 5: {Value: 0x99}, 6: {Value: 7}, 7: {Value: 1}, 9: {Value: 9}, 11: {Value: api.TLSBase + api.Page},
		12: {Value: 0x00010102464c457f}, 13: {Value: 0xf4}, 14: {}, 15: {Code: int(api.ErrRead)}, 16: {Code: int(api.ErrSymbol), Name: "f"}, 17: {Value: 3}, 19: {Value: 201},
	} {
		if answers[i] != want {
			t.Errorf("P22.1: act %d: %+v, not %+v", i+1, answers[i], want)
		}
	}
	if a := answers[3]; a.Value < libs || a.Code != 0 {
		t.Errorf("P22.1: %+v", a)
	}
}

// TestSpokenOf: what acts speak of.
func TestSpokenOf(t *testing.T) {
	arg := api.Told{Code: int(api.ErrArg)}
	state := api.Told{Code: int(api.ErrState), Name: "s"}
	acts := []api.Act{
		{Kind: api.ActSym, Of: 1, Name: "s"}, {Kind: api.ActSym, Of: 3, Name: "s"}, {Kind: api.ActSym, Of: -1, Name: "s"}, {Kind: api.ActCall, Of: 5, N: main}, {Kind: api.ActRead, Of: 99}, {Kind: api.ActClose, Of: 6},
		{Kind: api.ActSym, N: 65536, Name: "s"}, {Kind: api.ActSym, N: 1<<64 - 1, Name: "s"}, {Kind: api.ActSym, N: 65535, Name: "s"}, {Kind: api.ActSym, N: 1 << 32, Name: "s"}, {Kind: api.ActClose, N: 1 << 63}, {Kind: api.ActClose, N: 0},
		{Kind: api.ActRun, Of: 99}, {Kind: api.ActOpen, Of: -7}, {Kind: api.ActThread, Of: 44}, {Kind: api.ActLocal, Of: 55, Module: 9},
		{Kind: 0}, {Kind: 9}, {Kind: -1, Of: 1}, {Kind: api.ActSym, Of: 1, N: 9, Name: "s"}, {Kind: api.ActCall, N: main, Thread: 3}, {Kind: api.ActCall, N: 5},
	}
	_, got := script.Play(some(t), setup(), acts)
	closed := api.Told{Code: int(api.ErrState)}
	want := []api.Told{arg, arg, arg, arg, arg, arg, state, state, state, state, closed, closed, {Value: 7}, {Value: 1}, {Value: 1}, arg, arg, arg, arg, {Code: int(api.ErrSymbol), Name: "s"}, arg, {Code: int(api.ErrGuest)}}
	for i := range acts {
		if got[i] != want[i] {
			t.Errorf("P22.1: act %d, %+v: %+v, not %+v", i+1, acts[i], got[i], want[i])
		}
	}
}

// TestWithout: what isn't started answers its fault, and ErrState for every act.
func TestWithout(t *testing.T) {
	acts := []api.Act{{Kind: api.ActRun}, {Kind: 99}, {Kind: api.ActSym, Of: 7}}
	state := api.Told{Code: int(api.ErrState)}
	for _, c := range []struct {
		what string
		l    []api.Node
		s    api.Setup
		want api.Told
	}{
		{"no nodes", nil, api.Setup{Path: "/p", Quota: 100, Fuel: 10}, api.Told{Code: 17, Object: "/p"}},
		{"a node that may not be", []api.Node{{Path: "/a"}, {Path: "a"}}, setup(), api.Told{Code: int(api.ErrName)}},
		{"a node of no kind", []api.Node{{Path: "/a", Kind: 9}}, setup(), api.Told{Code: int(api.ErrArg)}},
		{"too many nodes", make([]api.Node, api.MaxNodes+1), setup(), api.Told{Code: int(api.ErrLong)}},
		{"fuel below 0", nil, api.Setup{Path: "/p", Fuel: -1}, api.Told{Code: int(api.ErrArg)}},
		{"no library", nodes(t, files{path: prog([]string{"y"}, false)}), setup(), api.Told{Code: int(api.ErrFind), Object: path, Name: "y"}},
	} {
		start, answers := script.Play(c.l, c.s, acts)
		if start != c.want || !reflect.DeepEqual(answers, []api.Told{state, state, state}) {
			t.Errorf("P22.1: %s: %+v, %+v", c.what, start, answers)
		}
		m, events, audit := script.Image(c.l, c.s, acts)
		if m != nil || len(events) != 0 || len(audit) != 0 {
			t.Errorf("P22.2: %s: %v, %v", c.what, events, audit)
		}
	}
	if start, answers := script.Play(some(t), setup(), nil); start != (api.Told{}) || len(answers) != 0 {
		t.Errorf("P22.1: no acts: %+v, %+v", start, answers)
	}
}

func TestImage(t *testing.T) {
	acts := []api.Act{{Kind: api.ActOpen, Name: "x"}, {Kind: api.ActRun}, {Kind: api.ActClose, Of: 1}, {Kind: api.ActThread}}
	m, events, audit := script.Image(some(t), setup(), acts)
	var traps []uint64
	for _, e := range events {
		traps = append(traps, e.Rax)
	}
	if !reflect.DeepEqual(traps, []uint64{1, 7, 101}) {
		t.Errorf("P22.2: %d", traps)
	}
	want := []api.Audit{{Kind: api.Opened}, {Kind: api.Begun}, {Kind: api.Opened, Object: 1}, {Kind: api.Begun, Object: 1}, {Kind: api.Ended, Object: 1}, {Kind: api.Closed, Object: 1}}
	if !reflect.DeepEqual(audit, want) {
		t.Errorf("P22.2: %+v", audit)
	}
	if _, ok := m.Perm(libs); ok {
		t.Error("P22.2: what was closed is there")
	}
	if b, err := m.Peek(api.TLSBase+api.Page, 8); err != nil || b[1] != 0x10 || b[3] != 0x40 {
		t.Errorf("P22.2: %x, %v", b, err)
	}
}

// TestAgain: what is played twice answers the same; an act more changes no answer ahead of it.
func TestAgain(t *testing.T) {
	l := some(t)
	acts := []api.Act{
		{Kind: api.ActOpen, Name: "x", Global: true}, {Kind: api.ActSym, Name: "f"}, {Kind: api.ActCall, Of: 2}, {Kind: api.ActOpen, Name: "none"}, {Kind: api.ActRun}, {Kind: api.ActThread},
		{Kind: api.ActCall, N: 9}, {Kind: api.ActClose, Of: 1}, {Kind: api.ActClose, Of: 1}, {Kind: api.ActOpen, Name: "x"}, {Kind: api.ActSym, Of: 10, Name: "twice"}, {Kind: api.ActCall, Of: 11, Arg: 4}, {Kind: 77},
	}
	start, all := script.Play(l, setup(), acts)
	for n := range len(acts) + 1 {
		s, got := script.Play(l, setup(), acts[:n])
		if s != start || n > 0 && !reflect.DeepEqual(got, all[:n]) {
			t.Errorf("P22.3: %d acts: %+v, not %+v", n, got, all[:n])
		}
	}
	m, events, audit := script.Image(l, setup(), acts)
	m2, events2, audit2 := script.Image(l, setup(), acts)
	if at, ok := m.Differ(m2); ok || !reflect.DeepEqual(events, events2) || !reflect.DeepEqual(audit, audit2) {
		t.Errorf("P22.3: memory differs at %x", at)
	}
}
