package board

import (
	"strings"
	"testing"

	"burnish/api"
	"burnish/line"
)

func journalOf(s *store) string {
	var bytes []byte
	for _, r := range s.journal {
		bytes = append(bytes, r[:]...)
	}
	return string(bytes)
}

func checked(bytes, of string) string {
	check := line.Check([]byte(of))
	return bytes + string([]byte{byte(check >> 8), byte(check)})
}

func recordOf(text string) record { return record([]byte(text)) }

// wantJournal wants these bytes and behind them nothing that is written.
func wantJournal(t *testing.T, s *store, want string) {
	t.Helper()
	want += strings.Repeat("\xFF", api.Journal*4-len(want))
	if got := journalOf(s); got != want {
		t.Errorf("P7: the journal is % X, want % X", got, want)
	}
}

// fails burns a page till the power fails.
func fails(t *testing.T, s *store, number byte, bytes string, strokes, mask int) {
	t.Helper()
	defer func() {
		if _, isOwn := recover().(failure); !isOwn {
			t.Errorf("P8: the power did not fail")
		}
	}()
	p := cutBehind(strokes, mask)
	s.burnPage(number, bytes, &p)
}

func TestStrokesOfAByte(t *testing.T) {
	for was := range 256 {
		for with := range 256 {
			cell, p := byte(was), power{}
			if p.burn(&cell, byte(with)); cell != byte(was&with) {
				t.Fatalf("P8: %X burnt with %X is %X", was, with, cell)
			}
			if p.erase(&cell); cell != 255 {
				t.Fatalf("P8: erased it is %X", cell)
			}
		}
	}
}

func TestJournalHasTwoRecordsOfEachBurning(t *testing.T) {
	s := newStore()
	wantJournal(t, &s, "")
	a, b := strings.Repeat("a", 64), strings.Repeat("b", 64)
	s.burnPage(3, a, &power{})
	first := checked("\x03\x01", "\x03\x01") + checked("\x03\x02", "\x03\x02"+a)
	wantJournal(t, &s, first)
	s.burnPage(15, b, &power{})
	wantJournal(t, &s, first+checked("\x0F\x01", "\x0F\x01")+checked("\x0F\x02", "\x0F\x02"+b))
}

func TestJournalGoesOnBehindWhatWasLeftUnfinished(t *testing.T) {
	a := strings.Repeat("a", 64)
	begins, ends := checked("\x03\x01", "\x03\x01"), checked("\x03\x02", "\x03\x02"+a)
	for _, test := range []struct {
		strokes, mask int
		left          string
	}{
		{0, 0, ""}, {0, 0x03, ""}, {0, 0x80, "\x7F\xFF\xFF\xFF"}, {1, 0, "\x03\xFF\xFF\xFF"}, {2, 0, "\x03\x01\xFF\xFF"},
		{3, 0, begins[:3] + "\xFF"}, {3, 0xFF, begins}, {4, 0, begins}, {132, 0, begins}, {133, 0, begins + "\x03\xFF\xFF\xFF"},
		{135, 0, begins + ends[:3] + "\xFF"}, {135, 0xFF, begins + ends},
	} {
		s := newStore()
		fails(t, &s, 3, a, test.strokes, test.mask)
		wantJournal(t, &s, test.left)
		if want := api.Journal - len(test.left)/4; s.room() != want {
			t.Errorf("P7: %d strokes leave room for %d records, want %d", test.strokes, s.room(), want)
		}
		s.burnPage(3, a, &power{})
		wantJournal(t, &s, test.left+begins+ends)
	}
}

func TestLastRightRecordOfAPageCounts(t *testing.T) {
	a, b := strings.Repeat("a", 64), strings.Repeat("b", 64)
	begins, ends := checked("\x03\x01", "\x03\x01"), checked("\x03\x02", "\x03\x02"+a)
	for i, test := range []struct {
		records string
		want    bool
	}{
		{"", false},
		{begins, false},
		{ends, true},
		{begins + ends, true},
		{ends + begins, false},
		{ends + begins + ends, true},
		{ends + begins[:3] + "\x00", true},
		{begins + ends[:3] + "\x00", false},
		{begins + checked("\x03\x02", "\x03\x02"+b), false},
		{ends + checked("\x03\x02", "\x03\x02"+b), true},
		{begins + checked("\x04\x02", "\x04\x02"+a), false},
		{ends + checked("\x04\x01", "\x04\x01"), true},
		{ends + checked("\x03\x03", "\x03\x03"), true},
		{ends + checked("\x03\x00", "\x03\x00"), true},
		{ends + checked("\x13\x01", "\x13\x01"), true},
		{begins + checked("\x13\x02", "\x13\x02"+a), false},
		{begins + checked("\x03\x02", "\x03\x02"), false},
		{ends + checked("\x03\x01", "\x03\x01"+a), true},
	} {
		s := newStore()
		s.pages[3] = page([]byte(a))
		for n := range len(test.records) / 4 {
			s.journal[n] = recordOf(test.records[4*n : 4*n+4])
		}
		if got := s.isBurnt(3); got != test.want {
			t.Errorf("P8: row %d: burnt is %t", i, got)
		}
	}
}

// A page whose bytes are others than its record says is not burnt, whatever
// changed them.
func TestPageWithOtherBytesIsNotBurnt(t *testing.T) {
	s := newStore()
	s.burnPage(3, strings.Repeat("a", 64), &power{})
	for i := range api.PageSize {
		s.pages[3][i] ^= 1
		if s.isBurnt(3) || s.burntPages() != 0 {
			t.Errorf("P8: burnt with another byte at %d", i)
		}
		s.pages[3][i] ^= 1
	}
	if !s.isBurnt(3) || s.burntPages() != 8 {
		t.Errorf("P8: not burnt with its own bytes")
	}
}
