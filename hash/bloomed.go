package hash

import (
	"math/bits"
	"slices"

	"shackle/api"
	"shackle/little"
)

// bloomed is a table of the second kind, up to its last bucket; its chains are read word by word, from where they begin.
type bloomed struct {
	file
	first, shift uint32
	bloom        []uint64
	buckets      []uint32
	begin        uint64
}

// readBloomed reads a table of the second kind at an address.
func readBloomed(f file, addr uint64) (bloomed, error) {
	front, err := f.words(addr, 4)
	if err != nil {
		return bloomed{}, err
	}
	buckets, first, words, shift := front[0], front[1], front[2], front[3]
	if buckets == 0 || bits.OnesCount32(words) != 1 || shift > 31 {
		return bloomed{}, api.ErrForm
	}
	if buckets > api.MaxSyms || first > api.MaxSyms || words > api.MaxSyms {
		return bloomed{}, api.ErrLong
	}
	size := 16 + 8*uint64(words) + 4*uint64(buckets)
	all, err := f.slice(addr, size)
	if err != nil {
		return bloomed{}, err
	}
	t := bloomed{file: f, first: first, shift: shift, begin: addr + size}
	for i := range int(words) {
		t.bloom = append(t.bloom, little.Number(all[16+8*i:][:8]))
	}
	t.buckets = split(all[16+8*words:])
	if slices.ContainsFunc(t.buckets, func(i uint32) bool { return i != 0 && i < first }) {
		return bloomed{}, api.ErrForm
	}
	return t, nil
}

// chain is the chain word of a symbol.
func (t bloomed) chain(i uint32) (uint32, error) {
	return t.word(t.begin + 4*uint64(i-t.first))
}

// count is how many symbols there are: the chain of the greatest bucket ends with the last one.
func (t bloomed) count() (int, error) {
	i := slices.Max(t.buckets)
	if i == 0 {
		return int(t.first), nil
	}
	for ; ; i++ {
		if i >= api.MaxSyms {
			return 0, api.ErrLong
		}
		word, err := t.chain(i)
		if err != nil {
			return 0, err
		}
		if word&1 != 0 {
			return int(i) + 1, nil
		}
	}
}

// mayHave tells whether the bloom words let a hash through.
func (t bloomed) mayHave(k uint32) bool {
	word := t.bloom[int(k/64)%len(t.bloom)]
	return word>>(k%64)&1 != 0 && word>>((k>>t.shift)%64)&1 != 0
}

// look is the symbols of a name, as its bucket has them.
func (t bloomed) look(l []api.Symbol, name string) ([]int, error) {
	k := Gnu(name)
	i := t.buckets[k%uint32(len(t.buckets))]
	if i == 0 || !t.mayHave(k) {
		return nil, nil
	}
	var told []int
	for ; ; i++ {
		if int(i) >= len(l) {
			return nil, api.ErrRange
		}
		word, err := t.chain(i)
		if err != nil {
			return nil, err
		}
		if word|1 == k|1 && l[i].Name == name {
			told = append(told, int(i))
		}
		if word&1 != 0 {
			return told, nil
		}
	}
}
