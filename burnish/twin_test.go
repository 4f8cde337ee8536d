package burnish_test

import (
	"math/rand"
	"testing"

	"burnish/api"
	"burnish/burnish"
)

const (
	flashSize   = 1024
	journalSize = 240
)

// stroke is the erasing or burning of one cell.
type stroke struct {
	place  int
	erases bool
	with   byte
}

// twin is a second reading of P7 and P8: it plans all strokes of a page ahead
// of the first one, and reads all it has heard since Boot anew each time.
type twin struct {
	cells   [flashSize + journalSize]byte // the flash, and the journal behind it
	on      bool
	text    string
	session int // -1: none
	number  int
	answer  string
	strokes int // -1: no cut
	mask    int
}

func newTwin() *twin {
	w := &twin{on: true, session: -1, strokes: -1}
	for i := range w.cells {
		w.cells[i] = 255
	}
	return w
}

func (w *twin) boot() {
	w.on, w.text, w.session, w.number, w.answer, w.strokes = true, "", -1, 0, "", -1
}

func (w *twin) cut(strokes, mask int) {
	if w.on {
		w.strokes, w.mask = max(0, strokes), mask
	}
}

func (w *twin) flash() string         { return string(w.cells[:flashSize]) }
func (w *twin) page(page int) string  { return w.flash()[64*page : 64*page+64] }
func (w *twin) record(n int) string   { return string(w.cells[flashSize+4*n : flashSize+4*n+4]) }
func (w *twin) isBurnt(page int) bool { return w.burnt()>>page&1 == 1 }

// burnt goes through the journal from its beginning: each record that is right
// settles its page.
func (w *twin) burnt() int {
	pages := 0
	for n := range api.Journal {
		r := w.record(n)
		page := int(r[0])
		switch {
		case page >= api.Pages:
		case r[1] == 1 && r[2:] == checkOf(r[:2]):
			pages &^= 1 << page
		case r[1] == 2 && r[2:] == checkOf(r[:2]+w.page(page)):
			pages |= 1 << page
		}
	}
	return pages
}

func (w *twin) blanks() []int {
	var blanks []int
	for n := range api.Journal {
		if w.record(n) == "\xFF\xFF\xFF\xFF" {
			blanks = append(blanks, n)
		}
	}
	return blanks
}

func (w *twin) hear(bytes string) string {
	if !w.on {
		return ""
	}
	answers := ""
	messages := messagesOf(w.text + bytes)[len(messagesOf(w.text)):]
	w.text += bytes
	for _, message := range messages {
		if w.on {
			answers += w.hearMessage(message)
		}
	}
	return answers
}

func (w *twin) hearMessage(message string) string {
	if len(message) < 4 {
		return ""
	}
	if length, known := map[byte]int{1: 4, 2: 69, 3: 5, 4: 4}[message[3]]; !known || len(message) != length {
		return ""
	}
	session, number := int(message[0])*256+int(message[1]), int(message[2])
	if message[3] == 1 {
		w.session = session
	} else if session != w.session {
		return ""
	} else if number == w.number {
		return w.answer
	} else if number != (w.number+1)%256 {
		return ""
	}
	w.number = number
	does := w.do(message)
	if !w.on {
		return ""
	}
	w.answer = frameOf(message[:3] + does)
	return w.answer
}

func (w *twin) do(message string) string {
	switch message[3] {
	case 2:
		return w.burn(int(message[4]), message[5:])
	case 3:
		if page := int(message[4]); page < api.Pages && w.isBurnt(page) {
			return yes + w.page(page)
		}
		return no
	case 4:
		return yes + string([]byte{byte(w.burnt() / 256), byte(w.burnt() % 256)})
	}
	return yes
}

func (w *twin) burn(page int, bytes string) string {
	blanks := w.blanks()
	if page >= api.Pages || len(blanks) < 2 {
		return no
	}
	number := string([]byte{byte(page)})
	plan := planned(flashSize+4*blanks[0], number+"\x01"+checkOf(number+"\x01"))
	for i := range 64 {
		plan = append(plan, stroke{place: 64*page + i, erases: true})
	}
	plan = append(plan, planned(64*page, bytes)...)
	plan = append(plan, planned(flashSize+4*blanks[1], number+"\x02"+checkOf(number+"\x02"+bytes))...)
	for _, s := range plan {
		if w.strike(s); !w.on {
			return ""
		}
	}
	return yes
}

func planned(place int, bytes string) []stroke {
	var plan []stroke
	for i := range len(bytes) {
		plan = append(plan, stroke{place: place + i, with: bytes[i]})
	}
	return plan
}

func (w *twin) strike(s stroke) {
	cell := &w.cells[s.place]
	wanted := *cell & s.with
	if s.erases {
		wanted = 255
	}
	if w.strokes == 0 {
		*cell = between(*cell, wanted, w.mask)
		w.boot()
		w.on = false
		return
	}
	if w.strokes > 0 {
		w.strokes--
	}
	*cell = wanted
}

// asker makes what is said to a board: mostly what it is to do next, and all
// that may go wrong.
type asker struct {
	*rand.Rand
	session int
	number  int
}

func (a *asker) message() string {
	switch a.Intn(12) {
	case 0:
		a.session, a.number = 5+a.Intn(2), a.Intn(256)
		return openOf(a.session, a.number)
	case 1:
		return stateOf(5+a.Intn(3), a.number+a.Intn(4)-1)
	case 2:
		return pageOf(a.session, a.number+a.Intn(3), byte(a.Intn(18)), filled('x'))[:1+a.Intn(69)]
	case 3:
		return request(a.session, a.number+1, byte(a.Intn(8)), byte(a.Intn(4)))
	case 4:
		return pageOf(a.session, a.number, byte(a.Intn(17)), filled('x'))
	}
	a.number++
	switch a.Intn(4) {
	case 0:
		return stateOf(a.session, a.number)
	case 1:
		return readOf(a.session, a.number, byte(a.Intn(5)))
	}
	return pageOf(a.session, a.number, byte(a.Intn(4)), a.bytes())
}

func (a *asker) bytes() string {
	bytes := []byte(filled([]byte{0, 255, 126, 125, 'a'}[a.Intn(5)]))
	if a.Intn(2) == 0 {
		a.Read(bytes)
	}
	return string(bytes)
}

// text gives some frames, now and then with a byte that is spoilt, and its end
// left for the next time.
func (a *asker) text() (string, string) {
	text := ""
	for range 1 + a.Intn(3) {
		text += frameOf(a.message())
	}
	if a.Intn(8) == 0 {
		spoilt := []byte(text)
		spoilt[a.Intn(len(spoilt))] ^= 1 << a.Intn(8)
		text = string(spoilt)
	}
	cut := len(text)
	if a.Intn(3) == 0 {
		cut = a.Intn(len(text))
	}
	return text[:cut], text[cut:]
}

func TestBoardDoesAsItsTwin(t *testing.T) {
	for seed := range int64(150) {
		a := &asker{Rand: rand.New(rand.NewSource(seed)), session: 5}
		board, second := burnish.NewBoard(), newTwin()
		rest := ""
		for range 120 {
			switch a.Intn(14) {
			case 0:
				strokes, mask := a.Intn(320)-10, a.Intn(1024)-512
				board.Cut(strokes, mask)
				second.cut(strokes, mask)
			case 1:
				board.Boot()
				second.boot()
			}
			said, left := a.text()
			said, rest = rest+said, left
			if got, want := board.Hear(said), second.hear(said); got != want {
				t.Fatalf("P7: run %d: % X is answered by % X, want % X", seed, said, got, want)
			}
			if board.Flash() != second.flash() || board.Burnt() != second.burnt() || board.On() != second.on {
				t.Fatalf("P8: run %d: flash % X, burnt %X, on %t, want % X, %X, %t", seed,
					board.Flash(), board.Burnt(), board.On(), second.flash(), second.burnt(), second.on)
			}
		}
	}
}
