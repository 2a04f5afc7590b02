package script_test

import (
	"fmt"
	"math/rand/v2"
	"reflect"
	"slices"
	"testing"

	"shackle/api"
	"shackle/mint"
	"shackle/sample"
	"shackle/script"
	"shackle/vmem"
)

// traps is the numbers of traps.
func traps(l []api.Event) []uint64 {
	var out []uint64
	for _, e := range l {
		out = append(out, e.Rax)
	}
	return out
}

// played is a whole run: what each act answers, and how all stands behind it.
type played struct {
	start   api.Told
	answers []api.Told
	memory  *vmem.Mem
	traps   []uint64
	audit   []api.Audit
}

func play(l []api.Node, s api.Setup, acts ...api.Act) played {
	var p played
	p.start, p.answers = script.Play(l, s, acts)
	var events []api.Event
	p.memory, events, p.audit = script.Image(l, s, acts)
	p.traps = traps(events)
	return p
}

var runAct = api.Act{Kind: api.ActRun}

func TestTenExamples(t *testing.T) {
	g9 := func() *sample.Lib { l := lib(""); l.Traps("g", 9); return l }
	check := func(n int, p played, start api.Told, answers []api.Told, traps []uint64) {
		t.Helper()
		if p.start != start || !slices.Equal(p.answers, answers) || !slices.Equal(p.traps, traps) {
			t.Errorf("example %d: %+v, %+v, %d", n, p.start, p.answers, p.traps)
		}
	}
	told := func(code api.Code, object, name string) api.Told {
		return api.Told{Code: int(code), Object: object, Name: name}
	}
	check(1, play(nodes(t, nil), setup()), told(api.ErrFind, path, ""), nil, nil)
	check(2, play(nodes(t, nil, api.Node{Path: path, Data: []byte("text")}), setup()), told(api.ErrRange, path, ""), nil, nil)
	check(3, play(nodes(t, files{path: prog([]string{"libx.so"}, false)}), setup()), told(api.ErrFind, path, "libx.so"), nil, nil)
	check(4, play(nodes(t, files{path: prog([]string{"x"}, true, "g"), "/lib64/x": g9()}), setup(), runAct), api.Told{}, []api.Told{{Value: 9}}, []uint64{7, 9})
	alone := nodes(t, files{path: prog([]string{"x"}, true, "g"), "/lib64/x": lib("")})
	now := setup()
	now.Now = true
	check(5, play(alone, now), told(api.ErrSymbol, path, "g"), nil, nil)
	check(5, play(alone, setup(), runAct), api.Told{}, []api.Told{told(api.ErrSymbol, path, "g")}, []uint64{7})
	g1 := lib("")
	g1.Traps("g", 1)
	check(6, play(nodes(t, files{path: prog([]string{"y", "x"}, true, "g"), "/lib64/x": g9(), "/lib64/y": g1}), setup(), runAct), api.Told{}, []api.Told{{Value: 1}}, []uint64{7, 1})
	check(7, play(nodes(t, files{path: prog([]string{"a"}, false), "/lib64/a": begins(1, "b"), "/lib64/b": begins(2)}), setup()), api.Told{}, nil, []uint64{2, 1})
	x := g9()
	x.Fini()
	x.Trap(3)
	x.Ret()
	eight := nodes(t, files{path: prog(nil, false), "/lib64/x": x})
	acts := []api.Act{{Kind: api.ActOpen, Name: "x"}, {Kind: api.ActSym, Of: 1, Name: "g"}, {Kind: api.ActCall, Of: 2}, {Kind: api.ActClose, Of: 1}}
	p := play(eight, setup(), acts...)
	w, err := mint.Where(x.Plan)
	if err != nil {
		t.Fatal(err)
	}
	check(8, p, api.Told{}, []api.Told{{Value: 2}, {Value: libs + w.Code + 1}, {Value: 9}, {}}, []uint64{9, 3})
	if before := play(eight, setup()); p.memory.Used() != before.memory.Used() {
		t.Errorf("example 8: %d pages, not %d", p.memory.Used(), before.memory.Used())
	}
	b, err := prog([]string{"x"}, false).File()
	if err != nil {
		t.Fatal(err)
	}
	s := setup()
	s.Library = "/opt"
	check(9, play(nodes(t, files{"/opt/x": g9()}, api.Node{Path: path, Data: b, Setuid: true}), s), told(api.ErrFind, path, "x"), nil, nil)
	check(9, play(nodes(t, files{"/opt/x": g9()}, api.Node{Path: path, Data: b}), s), api.Told{}, nil, nil)
	s = setup()
	s.Fuel = 0
	check(10, play(nodes(t, files{path: begins(1)}), s), told(api.ErrFuel, path, ""), nil, nil)
}

// town is a program with libraries that need one another, whose functions call one another.
func town(later bool) files {
	call := func(l *sample.Lib, name string) {
		if later {
			l.CallLater(name)
		} else {
			l.Call(name)
		}
	}
	l := files{path: prog([]string{"a", "b"}, later, "fa", "fb", "shared")}
	for i, name := range []string{"a", "b", "c", "d"} {
		x := begins(uint32(10 * (i + 1)))
		x.Plan.Needed = [][]string{{"c"}, {"c", "d"}, {"d"}, nil}[i]
		x.Func("f" + name)
		x.Trap(uint32(i + 1))
		if i < 3 {
			call(x, []string{"fc", "fc", "fd"}[i])
		}
		x.Ret()
		x.Traps("shared", uint32(i+50))
		l["/lib64/"+name] = x
	}
	l["/opt/e"] = begins(90, "a", "d")
	l["/opt/e"].Func("fe")
	call(l["/opt/e"], "fa")
	call(l["/opt/e"], "f")
	l["/opt/e"].Ret()
	return l
}

// townActs opens, asks, calls and closes in it.
func townActs() []api.Act {
	return []api.Act{
		runAct, {Kind: api.ActOpen, Name: "/opt/e"}, {Kind: api.ActSym, Of: 2, Name: "fe"}, {Kind: api.ActCall, Of: 3}, {Kind: api.ActOpen, Name: "none"},
		runAct, {Kind: api.ActClose, Of: 2}, {Kind: api.ActClose, Of: 2}, {Kind: api.ActCall, Of: 3}, runAct,
	}
}

// TestOneAnswer (T1): too few pages and too little fuel are faults of their own, and change nothing else.
func TestOneAnswer(t *testing.T) {
	l := nodes(t, town(true))
	whole := play(l, setup())
	if whole.start != (api.Told{}) || !slices.Equal(whole.traps, []uint64{40, 30, 10, 20}) {
		t.Fatalf("T1: %+v, %d", whole.start, whole.traps)
	}
	s := setup()
	ended, begun := 0, 0
	for s.Fuel = range 20 {
		p := play(l, s)
		if p.start.Code == int(api.ErrFuel) && p.start.Object != "" && p.start.Name == "" && p.memory == nil {
			ended++
			continue
		}
		begun++
		if at, ok := whole.memory.Differ(p.memory); p.start != (api.Told{}) || ok || !slices.Equal(p.traps, whole.traps) || !reflect.DeepEqual(p.audit, whole.audit) {
			t.Errorf("T1: fuel %d: %+v, memory differs at %x", s.Fuel, p.start, at)
		}
	}
	if ended != 16 || begun != 4 { // four initialisers of four steps each
		t.Errorf("T1: %d ended, %d begun", ended, begun)
	}
	s = setup()
	for s.Quota = range whole.memory.Used() + 3 {
		p := play(l, s)
		if s.Quota < whole.memory.Used() {
			if p.start.Code != int(api.ErrFull) || p.start.Name != "" || p.memory != nil {
				t.Errorf("T1: %d pages: %+v", s.Quota, p.start)
			}
			continue
		}
		if at, ok := whole.memory.Differ(p.memory); p.start != (api.Told{}) || ok {
			t.Errorf("T1: %d pages: %+v, memory differs at %x", s.Quota, p.start, at)
		}
	}
}

// TestEveryAct (T2): which are loaded, in which order they begin, which function each import means, in which order functions are run.
func TestEveryAct(t *testing.T) {
	p := play(nodes(t, town(true)), setup(), townActs()...)
	want := []uint64{40, 30, 10, 20, 7, 1, 3, 4, 2, 3, 4, 50, 90, 1, 3, 4, 210, 7, 1, 3, 4, 2, 3, 4, 50, 190, 7, 1, 3, 4, 2, 3, 4, 50}
	if !slices.Equal(p.traps, want) {
		t.Errorf("T2: traps %d, not %d", p.traps, want)
	}
	for i, code := range []api.Code{0, 0, 0, 0, api.ErrFind, 0, 0, api.ErrState, api.ErrGuest, 0} {
		if p.answers[i].Code != int(code) {
			t.Errorf("T2: act %d: %+v", i+1, p.answers[i])
		}
	}
	before := play(nodes(t, town(true)), setup(), runAct)
	if at, ok := before.memory.Differ(p.memory); ok && (at < api.StackBase || at >= api.StackBase+api.StackPages*api.Page) {
		t.Errorf("T2: what nobody asks for any more left something at %x", at)
	}
}

// TestEarlyLate (T3): bound at once and at first calls come to the same traps, and the same memory but for the slots.
func TestEarlyLate(t *testing.T) {
	l := nodes(t, town(true))
	now := setup()
	now.Now = true
	late, early := play(l, setup(), townActs()...), play(l, now, townActs()...)
	if !slices.Equal(late.traps, early.traps) || !reflect.DeepEqual(late.answers, early.answers) {
		t.Errorf("T3: %d, %d; %+v, %+v", late.traps, early.traps, late.answers, early.answers)
	}
	direct := play(nodes(t, town(false)), setup(), townActs()...)
	if !slices.Equal(late.traps, direct.traps) {
		t.Errorf("T3: by tables of addresses: %d", direct.traps)
	}
	slots := map[uint64]uint64{}
	for i, f := range []string{path, "/lib64/a", "/lib64/b", "/lib64/c"} {
		x := town(true)[f]
		w, err := mint.Where(x.Plan)
		if err != nil {
			t.Fatal(err)
		}
		base := []uint64{main, libs, libs + 0x2000, libs + 0x4000}[i]
		for _, r := range append(x.Plan.Plt, api.PlanRel{Off: x.Plan.Pltgot + 8}, api.PlanRel{Off: x.Plan.Pltgot + 16}) {
			slots[base+w.Data+r.Off] = 1
		}
	}
	stack := uint64(api.StackBase)
	for _, s := range late.memory.Spans() {
		a, err := late.memory.Peek(s.Addr, uint64(s.Pages)*api.Page)
		b, err2 := early.memory.Peek(s.Addr, uint64(s.Pages)*api.Page)
		if err != nil || err2 != nil {
			t.Fatalf("T3: %v, %v", err, err2)
		}
		for i := range a {
			at := s.Addr + uint64(i)
			if a[i] != b[i] && slots[at&^7] == 0 && (at < stack || at >= stack+api.StackPages*api.Page) {
				t.Fatalf("T3: memory differs at %x", at)
			}
		}
	}
}

// TestSecureSealed (T4, T5): LD_LIBRARY_PATH and LD_PRELOAD change nothing of a program with Setuid; no page may be written and run.
func TestSecureSealed(t *testing.T) {
	l := nodes(t, town(true))
	for i := range l {
		if l[i].Path == path {
			l[i].Setuid = true
		}
	}
	plain := play(l, setup(), townActs()...)
	s := setup()
	s.Library, s.Preload = "/opt:/lib64", "/opt/e e d /lib64/d $ORIGIN/../opt/e"
	p := play(l, s, townActs()...)
	if at, ok := plain.memory.Differ(p.memory); ok || !slices.Equal(p.traps, plain.traps) || !reflect.DeepEqual(p.audit, plain.audit) {
		t.Errorf("T4: %d, memory differs at %x", p.traps, at)
	}
	sealed := town(true)
	for _, x := range sealed {
		x.Plan.Relro = true
	}
	q := play(nodes(t, sealed), setup(), townActs()...)
	if !slices.Equal(q.traps, plain.traps) {
		t.Errorf("T5: %d", q.traps)
	}
	for _, m := range []*vmem.Mem{p.memory, q.memory} {
		for _, s := range m.Spans() {
			if s.Perm&api.W != 0 && s.Perm&api.X != 0 {
				t.Errorf("T5: %+v", s)
			}
		}
	}
	for i, f := range []string{"/lib64/a", "/lib64/b", "/lib64/c", "/lib64/d"} {
		w, err := mint.Where(sealed[f].Plan)
		if err != nil {
			t.Fatal(err)
		}
		base := uint64(libs)
		for _, before := range []string{"/lib64/a", "/lib64/b", "/lib64/c"}[:i] {
			base += pages(t, sealed[before]) * api.Page
		}
		if err := q.memory.Write(base+w.Inits, []byte{1}); err == nil {
			t.Errorf("T5: the array of %s may be written", f)
		}
	}
}

// pages is how many pages a library takes.
func pages(t *testing.T, l *sample.Lib) uint64 {
	t.Helper()
	w, err := mint.Where(l.Plan)
	if err != nil {
		t.Fatal(err)
	}
	return (w.Data + uint64(len(l.Plan.Data)) + api.Page - 1) / api.Page
}

// TestTables (T6): by whichever table symbols are found, a program runs alike.
func TestTables(t *testing.T) {
	first := play(nodes(t, town(true)), setup(), townActs()...)
	l := town(true)
	for _, x := range l {
		x.Plan.Gnu = true
	}
	second := play(nodes(t, l), setup(), townActs()...)
	if !slices.Equal(first.traps, second.traps) || len(first.answers) != len(second.answers) || !reflect.DeepEqual(first.audit, second.audit) {
		t.Errorf("T6: %d, %d", first.traps, second.traps)
	}
	for i := range first.answers {
		if first.answers[i].Code != second.answers[i].Code {
			t.Errorf("T6: act %d: %+v, %+v", i+1, first.answers[i], second.answers[i])
		}
	}
}

// TestAnyBytes (T7): whatever bytes a program and its libraries have, a start comes to an end that is told.
func TestAnyBytes(t *testing.T) {
	good := nodes(t, town(true))
	c := rand.New(rand.NewPCG(9, 10))
	s := setup()
	s.Fuel = 300
	ends := map[string]int{}
	for range 1500 {
		l := slices.Clone(good)
		i := slices.IndexFunc(l, func(n api.Node) bool { return n.Path == []string{path, "/lib64/a", "/lib64/d"}[c.IntN(3)] })
		if i < 0 {
			continue
		}
		b := slices.Clone(l[i].Data)
		for range 1 + c.IntN(4) {
			b[c.IntN(len(b))] = [...]byte{0, 1, 0x7f, 0xff, byte(c.Uint32())}[c.IntN(5)]
		}
		l[i].Data = b
		start, answers := script.Play(l, s, townActs())
		again, _ := script.Play(l, s, nil)
		if start != again || len(answers) != len(townActs()) {
			t.Fatalf("T7: %+v, then %+v", start, again)
		}
		if start.Code != 0 && start.Value != 0 || start.Code < 0 || start.Code > int(api.ErrName) {
			t.Fatalf("T7: %+v", start)
		}
		ends[fmt.Sprint(start.Code != 0)]++
	}
	if ends["true"] < 50 || ends["false"] < 50 {
		t.Errorf("T7: %v", ends)
	}
}
