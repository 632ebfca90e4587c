package place

import (
	"maps"
	"slices"
)

// shown is what shows: of each such address the location. No two show the same.
type shown struct {
	locs map[uint8]uint16
}

// At is who shows a location (L1).
func (s *shown) At(loc uint16) (uint8, bool) {
	for addr, has := range s.locs {
		if has == loc {
			return addr, true
		}
	}
	return 0, false
}

// Of is which location an address shows (L1).
func (s *shown) Of(addr uint8) (uint16, bool) {
	loc, ok := s.locs[addr]
	return loc, ok
}

// Locs are all locations that are shown, rising (L1).
func (s *shown) Locs() []uint16 {
	return slices.Sorted(maps.Values(s.locs))
}

// pass has one show what another one showed.
func (s *shown) pass(from, to uint8) {
	s.locs[to] = s.locs[from]
	delete(s.locs, from)
}

// spares is what is spare.
type spares struct {
	spare row
}

// Spares are all addresses that are spare, rising (L1).
func (s *spares) Spares() []uint8 {
	return slices.Clone(s.spare)
}

// row is addresses, rising, each once.
type row []uint8

func (r row) has(addr uint8) bool {
	return slices.Contains(r, addr)
}

func (r *row) put(addr uint8) {
	*r = append(*r, addr)
	slices.Sort(*r)
}

func (r *row) drop(addr uint8) {
	*r = slices.DeleteFunc(*r, func(a uint8) bool { return a == addr })
}
