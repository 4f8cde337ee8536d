package host

import (
	"slices"

	"burnish/api"
)

// page is one that is wanted, with the bytes that are wanted there.
type page struct {
	number byte
	bytes  string
}

// wantedPages gives the pages of which a byte is laid, with copies of their
// bytes, laid or not.
func wantedPages(i api.Image) []page {
	var pages []page
	for number := range api.Pages {
		begin := number * api.PageSize
		end := begin + api.PageSize
		if slices.Contains(i.Laid[begin:end], true) {
			pages = append(pages, page{byte(number), string(i.Bytes[begin:end])})
		}
	}
	return pages
}

// name is the byte that says in a message which page is meant.
func (p page) name() string { return string([]byte{p.number}) }

// isIn asks a set that has a bit of each page, page 0 the lowest.
func (p page) isIn(pages uint16) bool { return pages>>p.number&1 == 1 }

// isRead tells whether the answer to a READ has the bytes that are wanted.
func (p page) isRead(a answer) bool { return a.isYes && a.bytes == p.bytes }
