package vmem

import "shackle/api"

// content is a page's bytes.
type content [api.Page]byte

// get copies bytes out, from a place on, as many as there are and as have room; it tells how many.
func (c *content) get(off uint64, to []byte) int { return copy(to, c[off:]) }

// put copies bytes in, likewise.
func (c *content) put(off uint64, from []byte) int { return copy(c[off:], from) }

// first is the first place at which two contents differ.
func (c *content) first(o *content) (uint64, bool) {
	for i := range c {
		if c[i] != o[i] {
			return uint64(i), true
		}
	}
	return 0, false
}

// page is a page that is mapped.
type page struct {
	content
	perm int
}

// differ is the first place at which a page differs from another one, which may not be there.
func (p *page) differ(o *page) (uint64, bool) {
	if o == nil || o.perm != p.perm {
		return 0, true
	}
	return p.first(&o.content)
}
