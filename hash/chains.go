package hash

import "shackle/api"

// chains is a table of the first kind.
type chains struct{ buckets, chains []uint32 }

// readChains reads a table of the first kind at an address.
func readChains(f file, addr uint64) (chains, error) {
	front, err := f.words(addr, 2)
	if err != nil {
		return chains{}, err
	}
	buckets, symbols := front[0], front[1]
	if buckets == 0 || symbols == 0 {
		return chains{}, api.ErrForm
	}
	if buckets > api.MaxSyms || symbols > api.MaxSyms {
		return chains{}, api.ErrLong
	}
	all, err := f.words(addr, int(2+buckets+symbols))
	if err != nil {
		return chains{}, err
	}
	return chains{all[2 : 2+buckets], all[2+buckets:]}, nil
}

// look is the symbols of a name, as its chain has them.
func (t chains) look(l []api.Symbol, name string) ([]int, error) {
	var told []int
	k := Sysv(name)
	i := int(t.buckets[k%uint32(len(t.buckets))])
	for seen := 0; i != 0; seen++ {
		if i >= len(t.chains) || i >= len(l) {
			return nil, api.ErrRange
		}
		if seen == len(t.chains) {
			return nil, api.ErrForm
		}
		if l[i].Name == name {
			told = append(told, i)
		}
		i = int(t.chains[i])
	}
	return told, nil
}
