package mint

import (
	"shackle/api"
	"shackle/hash"
	"shackle/little"
	"shackle/rels"
	"shackle/tags"
)

// absolute is the section of a symbol whose value is a number by itself.
const absolute = 0xfff1

// relative is the type of a relocation that writes an address.
const relative = 8

// texts is the table of strings: where each stands is kept.
type texts struct {
	bytes  []byte
	places map[string]uint64
}

// newTexts is a table without strings but the empty one.
func newTexts() *texts {
	return &texts{bytes: []byte{0}, places: map[string]uint64{"": 0}}
}

// place is where a string stands, which is put in, if it isn't there yet.
func (t *texts) place(s string) uint64 {
	at, ok := t.places[s]
	if !ok {
		at = uint64(len(t.bytes))
		t.places[s] = at
		t.bytes = append(append(t.bytes, s...), 0)
	}
	return at
}

// from tells what something is reckoned from, by where it lies.
func (l layout) from() func(where int) uint64 {
	return func(where int) uint64 {
		switch where {
		case api.InCode:
			return l.addr(partCode)
		case api.InData:
			return l.addr(partData)
		}
		return 0
	}
}

// symbols is the table of symbols.
func (m *maker) symbols(l layout) []byte {
	from := l.from()
	b := make([]byte, 24)
	for _, y := range m.plan.Syms {
		sect, value := uint64(y.Where), from(y.Where)+y.Off
		switch y.Where {
		case api.Nowhere:
			value = 0
		case api.Absolute:
			sect = absolute
		}
		b = numbers(b, 4, m.texts.place(y.Name))
		b = append(b, byte(y.Bind*16+y.Type), byte(y.Vis))
		b = numbers(b, 2, sect)
		b = numbers(b, 8, value, y.Size)
	}
	return b
}

// table is the table by which symbols are found.
func (m *maker) table() []byte {
	if m.plan.Gnu {
		return bloomed(m.plan.Syms)
	}
	return chained(m.plan.Syms)
}

// chained is a table of the first kind. Each chain rises, so that symbols of one name are found in their order.
func chained(l []api.PlanSym) []byte {
	buckets := make([]uint64, 1+len(l)/4)
	chains := make([]uint64, 1+len(l))
	for i := len(l); i > 0; i-- {
		k := hash.Sysv(l[i-1].Name) % uint32(len(buckets))
		chains[i], buckets[k] = buckets[k], uint64(i)
	}
	b := numbers(nil, 4, uint64(len(buckets)), uint64(len(chains)))
	return numbers(numbers(b, 4, buckets...), 4, chains...)
}

// bloomed is a table of the second kind. Its symbols stand by their buckets; they keep the plan's order, so they have one bucket.
func bloomed(l []api.PlanSym) []byte {
	const shift = 6
	count := uint32(1)
	for int(count)*8 < len(l) {
		count *= 2
	}
	bloom := make([]uint64, count)
	chain := make([]uint64, len(l))
	for i, y := range l {
		k := hash.Gnu(y.Name)
		bloom[k/64%count] |= 1<<(k%64) | 1<<(k>>shift%64)
		chain[i] = uint64(k &^ 1)
	}
	bucket := uint64(0)
	if len(l) > 0 {
		bucket = 1
		chain[len(l)-1] |= 1
	}
	b := numbers(nil, 4, 1, 1, uint64(count), shift)
	b = numbers(numbers(b, 8, bloom...), 4, bucket)
	return numbers(b, 4, chain...)
}

// rels is the relocations: behind the plan's those that write the addresses of what is called first and last.
func (m *maker) rels(l layout) []byte {
	b := m.list(l, m.plan.Rels)
	code := l.addr(partCode)
	array := func(part int, offs []uint64) {
		for i, off := range offs {
			b = numbers(b, 8, l.addr(part)+8*uint64(i), relative, code+off)
		}
	}
	array(partInits, m.plan.Inits)
	array(partFinis, m.plan.Finis)
	return b
}

// plt is the relocations of the procedure linkage table.
func (m *maker) plt(l layout) []byte { return m.list(l, m.plan.Plt) }

// list is relocations of the plan.
func (m *maker) list(l layout, rels []api.PlanRel) []byte {
	from := l.from()
	var b []byte
	for _, r := range rels {
		b = numbers(b, 8, from(r.Where)+r.Off, uint64(r.Sym)<<32|uint64(r.Type), from(r.From)+uint64(r.Add))
	}
	return b
}

// packed is the packed relocations. Data lies at an even address, and the plan's places rise: so they can be packed.
func (m *maker) packed(l layout) []byte {
	var addrs []uint64
	for _, off := range m.plan.Relr {
		addrs = append(addrs, l.addr(partData)+off)
	}
	words, _ := rels.Pack(addrs)
	return numbers(nil, 8, words...)
}

// entries are those of a dynamic section.
type entries struct{ bytes []byte }

// add adds an entry.
func (e *entries) add(tag, value uint64) {
	e.bytes = append(append(e.bytes, little.Bytes(tag, 8)...), little.Bytes(value, 8)...)
}

// addIf adds an entry, if it is there.
func (e *entries) addIf(there bool, tag, value uint64) {
	if there {
		e.add(tag, value)
	}
}

// dynamic is the dynamic section.
func (m *maker) dynamic(l layout) []byte {
	p, e := m.plan, &entries{}
	text := func(there bool, tag uint64, s string) {
		if there {
			e.add(tag, m.texts.place(s))
		}
	}
	for _, name := range p.Needed {
		text(true, tags.Needed, name)
	}
	text(p.HasSoname, tags.Soname, p.Soname)
	text(p.HasRpath, tags.Rpath, p.Rpath)
	text(p.HasRunpath, tags.Runpath, p.Runpath)
	e.addIf(p.HasInit, tags.Init, l.addr(partCode)+p.Init)
	e.addIf(p.HasFini, tags.Fini, l.addr(partCode)+p.Fini)
	e.addIf(p.HasPltgot, tags.Pltgot, l.addr(partData)+p.Pltgot)
	e.addIf(p.Flags != 0, tags.Flags, p.Flags)
	e.addIf(p.Flags1 != 0, tags.Flags1, p.Flags1)
	e.addIf(p.Gnu, tags.GnuHash, l.addr(partTable))
	e.addIf(!p.Gnu, tags.Hash, l.addr(partTable))
	m.tables(e, l)
	e.add(tags.Syment, 24)
	e.add(tags.Symtab, l.addr(partSyms))
	e.add(tags.Strtab, l.addr(partTexts))
	e.add(tags.Strsz, l.len[partTexts])
	e.add(tags.Null, 0)
	return e.bytes
}

// tables adds the entries of tables that may have no members: then they aren't there.
func (m *maker) tables(e *entries, l layout) {
	p, v := m.plan, m.versions
	table := func(members int, part int, begin, size uint64) {
		e.addIf(members > 0, begin, l.addr(part))
		e.addIf(members > 0, size, l.len[part])
	}
	all := len(p.Rels) + len(p.Inits) + len(p.Finis)
	table(all, partRels, tags.Rela, tags.Relasz)
	table(len(p.Plt), partPlt, tags.Jmprel, tags.Pltrelsz)
	table(len(p.Relr), partPacked, tags.Relr, tags.Relrsz)
	table(len(p.Inits), partInits, tags.InitArray, tags.InitArraysz)
	table(len(p.Finis), partFinis, tags.FiniArray, tags.FiniArraysz)
	e.addIf(all > 0, tags.Relaent, 24)
	e.addIf(len(p.Plt) > 0, tags.Pltrel, 7)
	e.addIf(len(p.Relr) > 0, tags.Relrent, 8)
	e.addIf(v.some, tags.Versym, l.addr(partWords))
	e.addIf(len(v.defs) > 0, tags.Verdef, l.addr(partDefs))
	e.addIf(len(v.defs) > 0, tags.Verdefnum, uint64(1+len(v.defs)))
	e.addIf(len(v.needs) > 0, tags.Verneed, l.addr(partNeeds))
	e.addIf(len(v.needs) > 0, tags.Verneednum, uint64(len(v.needs)))
}
