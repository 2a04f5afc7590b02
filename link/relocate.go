package link

import (
	"shackle/api"
	"shackle/place"
	"shackle/reloc"
)

// Types of relocations that go by ways of their own.
const (
	relNone      = 0
	relCopy      = 5
	relData      = 6
	relSlot      = 7
	relRelative  = 8
	relIrelative = 37
)

// bindPlace is where the guest goes to have a slot bound.
const bindPlace = api.LinkerPage + 16

// relocate relocates the objects from one on, the last one first.
func (l *Link) relocate(from int, now bool) error {
	for i := len(l.objects) - 1; i >= from; i-- {
		if err := l.relocateOne(i, now); err != nil {
			return err
		}
	}
	return nil
}

// relocateOne relocates an object, at once or not.
func (l *Link) relocateOne(i int, now bool) error {
	x, o := l.objects[i], l.files[i]
	if err := reloc.Packed(l.mem, o, x.base); err != nil {
		return fault(x.path, "", err)
	}
	for _, r := range o.Rels {
		if _, err := l.relocation(i, r); err != nil {
			return err
		}
	}
	later := !now && !l.setup.Now && !o.Dyn.BindNow
	if later {
		if err := l.delay(i); err != nil {
			return err
		}
	}
	for _, r := range o.Plt {
		if later && r.Type == relSlot {
			continue
		}
		if _, err := l.relocation(i, r); err != nil {
			return err
		}
	}
	if err := place.Seal(l.mem, o, x.base); err != nil {
		return fault(x.path, "", err)
	}
	return nil
}

// delay lays what leads to the linker at a slot's first call.
func (l *Link) delay(i int) error {
	x, o := l.objects[i], l.files[i]
	if err := reloc.Slots(l.mem, o, x.base); err != nil {
		return fault(x.path, "", err)
	}
	if o.Dyn.Pltgot == 0 || len(o.Plt) == 0 {
		return nil
	}
	for n, v := range [...]uint64{uint64(i), bindPlace} {
		r := api.Rel{Off: o.Dyn.Pltgot + 8*uint64(n+1), Type: relData}
		if err := reloc.Apply(l.mem, o, x.base, r, api.Bound{Addr: v}); err != nil {
			return fault(x.path, "", err)
		}
	}
	return nil
}

// relocation does a relocation of an object, and tells what its symbol means.
func (l *Link) relocation(i int, r api.Rel) (api.Bound, error) {
	b, err := l.bound(i, r)
	if err != nil {
		return api.Bound{}, err
	}
	if r.Type == relIrelative {
		r.Type = relData
	}
	x := &l.objects[i]
	if err := reloc.Apply(l.mem, l.files[i], x.base, r, b); err != nil {
		return api.Bound{}, fault(x.path, l.symbolName(i, r.Sym), err)
	}
	return b, nil
}

// bound is what a relocation writes goes by.
func (l *Link) bound(i int, r api.Rel) (api.Bound, error) {
	switch r.Type {
	case relNone, relRelative:
		return api.Bound{}, nil
	case relCopy:
		return l.elsewhere(i, r.Sym)
	case relIrelative:
		x := &l.objects[i]
		addr, err := l.invoke(callee{x.path, l.symbolName(i, r.Sym)}, x.base+uint64(r.Add))
		return api.Bound{Addr: addr}, err
	}
	return l.meaning(i, r.Sym)
}

// symbolName is the name of an object's symbol, if there is one.
func (l *Link) symbolName(i, sym int) string {
	if l := l.files[i].Syms; sym < len(l) {
		return l[sym].Name
	}
	return ""
}
