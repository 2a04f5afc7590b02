package link

import (
	"slices"

	"shackle/api"
	"shackle/bind"
	"shackle/graph"
	"shackle/place"
)

// keepBit is the bit of Flags1 that keeps an object for good.
const keepBit = 8

// Open opens a library: P21.4.
func (l *Link) Open(name string, global, now bool) (int, error) {
	before := l.state.copy()
	i, err := l.open(name, global, now)
	if err != nil {
		l.state = before
		return 0, err
	}
	return i + 1, nil
}

// Sym is a symbol's address: P21.5.
func (l *Link) Sym(handle int, name, version string) (uint64, error) {
	before := l.state.copy()
	addr, err := l.sym(handle, name, version)
	if err != nil {
		l.state = before
		return 0, err
	}
	return addr, nil
}

// Close closes a library: P21.6.
func (l *Link) Close(handle int) error {
	before := l.state.copy()
	if err := l.close(handle); err != nil {
		l.state = before
		return err
	}
	return nil
}

// open opens an object, and tells its number.
func (l *Link) open(name string, global, now bool) (int, error) {
	i, first := program, len(l.objects)
	if name != "" {
		found, err := l.find(name, program)
		if err != nil {
			return 0, err
		}
		i = found
	}
	if err := l.gather(first); err != nil {
		return 0, err
	}
	if len(l.objects) > first {
		if err := l.settle(i, first, now); err != nil {
			return 0, err
		}
	}
	l.objects[i].count++
	if global {
		for _, n := range graph.Scope(l.deps(), []int{i}) {
			if !slices.Contains(l.global, n) {
				l.global = append(l.global, n)
			}
		}
	}
	return i, l.begin(i)
}

// settle makes the objects from one on, which came with the one that was opened, ready to be begun.
func (l *Link) settle(opened, first int, now bool) error {
	if err := l.versions(); err != nil {
		return err
	}
	own := graph.Scope(l.deps(), []int{opened})
	for i := first; i < len(l.objects); i++ {
		l.objects[i].own = own
		x, ok := module(l.files[i])
		if !ok {
			continue
		}
		n, err := l.store.Add(x)
		if err != nil {
			return fault(l.objects[i].path, "", err)
		}
		l.objects[i].module = n
	}
	return l.relocate(first, now)
}

// handled is the object of a handle, if it is one.
func (l *Link) handled(handle int) (int, bool) {
	if handle < 1 || handle > len(l.objects) {
		return 0, false
	}
	x := l.objects[handle-1]
	return handle - 1, !x.gone && x.count > 0
}

// sym looks for a symbol in the global scope, or in that of a handle.
func (l *Link) sym(handle int, name, version string) (uint64, error) {
	scope := l.global
	if handle != 0 {
		i, ok := l.handled(handle)
		if !ok {
			return 0, fault("", name, api.ErrState)
		}
		scope = graph.Scope(l.deps(), []int{i})
	}
	p, err := bind.Find(l.files, scope, api.Want{Name: name, Version: version})
	if err != nil {
		return 0, fault("", name, err)
	}
	if p.Object < 0 {
		return 0, fault("", name, api.ErrSymbol)
	}
	if y := l.files[p.Object].Syms[p.Sym]; y.Type == api.TLS {
		x := l.objects[p.Object]
		at, err := l.store.Addr(l.mem, firstThread, x.module, y.Value)
		if err != nil {
			return 0, fault(x.path, name, api.ErrTLS)
		}
		return at, nil
	}
	b, err := l.defined(p.Object, p.Sym)
	return b.Addr, err
}

// close closes a handle, and takes away what nobody asks for any more.
func (l *Link) close(handle int) error {
	i, ok := l.handled(handle)
	if !ok || l.objects[i].count <= l.objects[i].lasting {
		return fault("", "", api.ErrState)
	}
	l.objects[i].count--
	leaving := l.leaving()
	order := graph.Begin(l.deps(), leaving)
	for _, n := range slices.Backward(order) {
		if slices.Contains(leaving, n) {
			if err := l.end(n); err != nil {
				return err
			}
		}
	}
	for _, n := range leaving {
		if err := l.remove(n); err != nil {
			return err
		}
	}
	return nil
}

// leaving is the objects that nobody asks for any more.
func (l *Link) leaving() []int {
	counts := make([]int, len(l.objects))
	for i, x := range l.objects {
		counts[i] = x.count
		if !x.gone && l.files[i].Dyn.Flags1&keepBit != 0 {
			counts[i]++
		}
	}
	var away []int
	for i, live := range graph.Live(l.deps(), counts) {
		if !live && !l.objects[i].gone {
			away = append(away, i)
		}
	}
	return away
}

// end runs an object's terminators.
func (l *Link) end(i int) error {
	l.hear(api.Audit{Kind: api.Ended, Object: i})
	x, d := l.objects[i], l.files[i].Dyn
	addrs, err := l.array(i, d.FiniArray, d.FiniArraysz)
	if err != nil {
		return err
	}
	slices.Reverse(addrs)
	if err := l.invokeAll(x.path, addrs); err != nil {
		return err
	}
	if d.HasFini {
		_, err = l.invoke(callee{object: x.path}, x.base+d.Fini)
	}
	return err
}

// remove takes an object away.
func (l *Link) remove(i int) error {
	x := &l.objects[i]
	if err := place.Unmap(l.mem, l.files[i], x.base); err != nil {
		return fault(x.path, "", err)
	}
	if x.module != 0 {
		if err := l.store.Drop(x.module); err != nil {
			return fault(x.path, "", err)
		}
	}
	x.gone = true
	l.files[i] = api.Object{}
	l.global = slices.DeleteFunc(l.global, func(n int) bool { return n == i })
	l.hear(api.Audit{Kind: api.Closed, Object: i})
	return nil
}
