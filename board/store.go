package board

import (
	"slices"

	"burnish/api"
	"burnish/line"
)

const erased = 255

// What a record says of its page.
const (
	begun = 1
	burnt = 2
)

const recordsOfPage = 2 // that one burning of a page takes

type page [api.PageSize]byte

// record has the page's number, begun or burnt, and their check.
type record [4]byte

// store is all that outlasts a failing power.
type store struct {
	pages   [api.Pages]page
	journal [api.Journal]record
}

// blank is a record that was not written yet.
func blank() record { return record{erased, erased, erased, erased} }

func newStore() store {
	var s store
	for i := range s.journal {
		s.journal[i] = blank()
	}
	for i := range s.pages {
		for j := range s.pages[i] {
			s.pages[i][j] = erased
		}
	}
	return s
}

func isPage(number byte) bool { return number < api.Pages }

// record gives the one record that is right, as the page's bytes are now.
func (s *store) record(number, kind byte) record {
	bytes := []byte{number, kind}
	if kind == burnt {
		bytes = append(bytes, s.pages[number][:]...)
	}
	check := line.Check(bytes)
	return record{number, kind, byte(check >> 8), byte(check)}
}

// isBurnt asks for the last record of a page that is right: any other one is
// neither of these two.
func (s *store) isBurnt(number byte) bool {
	whenBegun, whenBurnt := s.record(number, begun), s.record(number, burnt)
	for _, r := range slices.Backward(s.journal[:]) {
		switch r {
		case whenBegun:
			return false
		case whenBurnt:
			return true
		}
	}
	return false
}

// burntPages has a bit of each page that is burnt, page 0 the lowest.
func (s *store) burntPages() uint16 {
	var pages uint16
	for number := range byte(api.Pages) {
		if s.isBurnt(number) {
			pages |= 1 << number
		}
	}
	return pages
}

// room tells how many records can still be written.
func (s *store) room() int {
	count := 0
	for _, r := range s.journal {
		if r == blank() {
			count++
		}
	}
	return count
}

// write puts a record into the first room that there is; there must be one.
func (s *store) write(r record, p *power) {
	place := &s.journal[slices.Index(s.journal[:], blank())]
	for i := range r {
		p.burn(&place[i], r[i])
	}
}

// burnPage is begun by a record and ended by another, so that a page that is
// left in the middle never counts as burnt.
func (s *store) burnPage(number byte, bytes string, p *power) {
	s.write(s.record(number, begun), p)
	cells := &s.pages[number]
	for i := range cells {
		p.erase(&cells[i])
	}
	for i := range cells {
		p.burn(&cells[i], bytes[i])
	}
	s.write(s.record(number, burnt), p)
}

func (s *store) bytes() string {
	var bytes []byte
	for _, cells := range s.pages {
		bytes = append(bytes, cells[:]...)
	}
	return string(bytes)
}
