package link

import (
	"slices"

	"shackle/api"
	"shackle/bind"
)

// absolute is the section of a symbol whose value is a number by itself.
const absolute = 0xfff1

// threadLocal is what an object's own thread-local storage means, from its beginning on.
func (l *Link) threadLocal(i int) api.Bound {
	b := api.Bound{Module: l.objects[i].module}
	if below, err := l.store.Offset(b.Module); err == nil {
		b.Static, b.Below = true, below
	}
	return b
}

// defined is what a symbol that an object defines means.
func (l *Link) defined(i, sym int) (api.Bound, error) {
	x, y := &l.objects[i], &l.files[i].Syms[sym]
	if y.Type == api.TLS {
		b := l.threadLocal(i)
		b.Offset, b.Size = y.Value, y.Size
		return b, nil
	}
	b := api.Bound{Addr: y.Value, Size: y.Size}
	if y.Sect != absolute {
		b.Addr += x.base
	}
	if y.Type != api.Ifunc {
		return b, nil
	}
	addr, err := l.invoke(callee{x.path, y.Name}, b.Addr)
	if err != nil {
		return api.Bound{}, err
	}
	b.Addr = addr
	return b, nil
}

// meaning is what a symbol of an object means.
func (l *Link) meaning(i, sym int) (api.Bound, error) {
	o := &l.files[i]
	if sym == 0 || sym >= len(o.Syms) {
		return l.threadLocal(i), nil
	}
	y := &o.Syms[sym]
	if own, _ := bind.Own(*o, sym); own {
		if y.Sect == 0 {
			return api.Bound{}, nil
		}
		return l.defined(i, sym)
	}
	return l.look(i, sym, l.where(i), y.Bind == api.Weak)
}

// elsewhere is what a symbol of an object means in all others: of what isn't there that is nothing to be copied.
func (l *Link) elsewhere(i, sym int) (api.Bound, error) {
	if sym == 0 || sym >= len(l.files[i].Syms) {
		return l.threadLocal(i), nil
	}
	others := slices.DeleteFunc(l.where(i), func(n int) bool { return n == i })
	return l.look(i, sym, others, false)
}

// where is where an object's symbols are looked for. What it came with may be gone ahead of it: that is empty, and means nothing any more.
func (l *Link) where(i int) []int {
	var scope []int
	if l.files[i].Dyn.Symbolic {
		scope = append(scope, i)
	}
	return append(append(scope, l.global...), l.objects[i].own...)
}

// look looks for an object's symbol in a scope; where none is found that may mean nothing.
func (l *Link) look(i, sym int, scope []int, may bool) (api.Bound, error) {
	o := &l.files[i]
	path, name := l.objects[i].path, o.Syms[sym].Name
	want, _ := bind.Wants(*o, sym)
	p, err := bind.Find(l.files, scope, want)
	if err != nil {
		return api.Bound{}, fault(path, name, err)
	}
	if p.Object < 0 {
		if may {
			return api.Bound{}, nil
		}
		return api.Bound{}, fault(path, name, api.ErrSymbol)
	}
	l.hear(api.Audit{Kind: api.Tied, Object: i, Other: p.Object, Name: name})
	return l.defined(p.Object, p.Sym)
}
