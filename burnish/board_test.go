package burnish_test

import (
	"math/rand"
	"strings"
	"testing"

	"burnish/api"
	"burnish/burnish"
)

const (
	yes = "\x01"
	no  = "\x02"
)

const strokesOfPage = 4 + 64 + 64 + 4

// request makes a message to the board.
func request(session int, number int, asked byte, rest ...byte) string {
	return string(append([]byte{byte(session >> 8), byte(session), byte(number), asked}, rest...))
}

func openOf(session, number int) string  { return request(session, number, api.Open) }
func stateOf(session, number int) string { return request(session, number, api.State) }

func readOf(session, number int, page byte) string {
	return request(session, number, api.Read, page)
}

func pageOf(session, number int, page byte, bytes string) string {
	return request(session, number, api.Page, page) + bytes
}

func filled(letter byte) string { return strings.Repeat(string([]byte{letter}), 64) }

// wantAnswer asks by a frame; want is what stands behind the session and the
// number, or nothing.
func wantAnswer(t *testing.T, board *burnish.Board, message, want string) {
	t.Helper()
	frame := ""
	if want != "" {
		frame = frameOf(message[:3] + want)
	}
	if got := board.Hear(frameOf(message)); got != frame {
		t.Fatalf("P7: % X is answered by % X, want % X", message, got, frame)
	}
}

func wantFlash(t *testing.T, board *burnish.Board, pages map[int]string) {
	t.Helper()
	want := ""
	for page := range api.Pages {
		if bytes, ok := pages[page]; ok {
			want += bytes
		} else {
			want += filled(255)
		}
	}
	if got := board.Flash(); got != want {
		t.Fatalf("P8: the flash is % X, want % X", got, want)
	}
}

// opened gives a board with a session whose last number is 0.
func opened(t *testing.T, session int) *burnish.Board {
	t.Helper()
	board := burnish.NewBoard()
	wantAnswer(t, board, openOf(session, 0), yes)
	return board
}

func TestNewBoardIsOnAndHasNothing(t *testing.T) {
	board := burnish.NewBoard()
	if !board.On() || board.Burnt() != 0 {
		t.Errorf("P7: a new board: on is %t, burnt %X", board.On(), board.Burnt())
	}
	wantFlash(t, board, nil)
}

func TestBoardAnswersNothingWithoutASession(t *testing.T) {
	board := burnish.NewBoard()
	for number := range 256 {
		wantAnswer(t, board, stateOf(0, number), "")
		wantAnswer(t, board, readOf(0, number, 0), "")
		wantAnswer(t, board, pageOf(0, number, 0, filled('a')), "")
	}
	wantFlash(t, board, nil)
}

func TestBoardOpensAnySessionWithAnyNumber(t *testing.T) {
	board := burnish.NewBoard()
	for _, session := range []int{0, 1, 255, 256, 0x7E7D, 65535} {
		for number := range 256 {
			wantAnswer(t, board, openOf(session, number), yes)
			wantAnswer(t, board, stateOf(session, number+1), yes+"\x00\x00")
		}
	}
}

// An OPEN is done whatever its number is, be it the last one's.
func TestBoardOpensASessionAgain(t *testing.T) {
	board := opened(t, 5)
	wantAnswer(t, board, readOf(5, 1, 0), no)
	wantAnswer(t, board, openOf(5, 1), yes)
	wantAnswer(t, board, readOf(5, 1, 0), yes)
	wantAnswer(t, board, openOf(5, 77), yes)
	wantAnswer(t, board, stateOf(5, 2), "")
	wantAnswer(t, board, stateOf(5, 78), yes+"\x00\x00")
	wantAnswer(t, board, openOf(5, 0), yes)
	wantAnswer(t, board, openOf(5, 0), yes)
}

func TestBoardAnswersOneSession(t *testing.T) {
	board := opened(t, 0x0105)
	for _, other := range []int{0x0104, 0x0005, 0x0501, 0x0100, 0xFFFF} {
		wantAnswer(t, board, stateOf(other, 0), "")
		wantAnswer(t, board, stateOf(other, 1), "")
		wantAnswer(t, board, pageOf(other, 1, 0, filled('a')), "")
	}
	wantFlash(t, board, nil)
	wantAnswer(t, board, stateOf(0x0105, 1), yes+"\x00\x00")
	wantAnswer(t, board, openOf(6, 1), yes)
	wantAnswer(t, board, stateOf(0x0105, 1), "")
	wantAnswer(t, board, stateOf(0x0105, 2), "")
	wantAnswer(t, board, stateOf(6, 2), yes+"\x00\x00")
}

func TestBoardTakesTheLastNumberAndTheNext(t *testing.T) {
	board := burnish.NewBoard()
	for last := range 256 {
		for number := range 256 {
			want := ""
			switch byte(number) {
			case byte(last):
				want = yes
			case byte(last + 1):
				want = yes + "\x00\x00"
			}
			wantAnswer(t, board, openOf(9, last), yes)
			wantAnswer(t, board, stateOf(9, number), want)
		}
	}
}

// A number that is refused is not the last one.
func TestBoardGoesOnBehindANumberThatItLeftOut(t *testing.T) {
	board := opened(t, 9)
	wantAnswer(t, board, stateOf(9, 2), "")
	wantAnswer(t, board, stateOf(9, 3), "")
	wantAnswer(t, board, stateOf(9, 255), "")
	wantAnswer(t, board, stateOf(9, 1), yes+"\x00\x00")
	wantAnswer(t, board, stateOf(9, 0), "")
}

func TestBoardAnswersTheSameNumberTheSameAgain(t *testing.T) {
	board := opened(t, 5)
	wantAnswer(t, board, pageOf(5, 1, 3, filled('a')), yes)
	wantAnswer(t, board, pageOf(5, 1, 4, filled('b')), yes)
	wantAnswer(t, board, pageOf(5, 1, 16, filled('b')), yes)
	wantAnswer(t, board, stateOf(5, 1), yes)
	wantAnswer(t, board, readOf(5, 1, 3), yes)
	wantAnswer(t, board, readOf(5, 2, 3), yes+filled('a'))
	wantAnswer(t, board, pageOf(5, 2, 3, filled('b')), yes+filled('a'))
	wantAnswer(t, board, stateOf(5, 2), yes+filled('a'))
	wantAnswer(t, board, stateOf(5, 3), yes+"\x00\x08")
	wantAnswer(t, board, readOf(5, 3, 3), yes+"\x00\x08")
	wantAnswer(t, board, readOf(5, 4, 9), no)
	wantAnswer(t, board, readOf(5, 4, 3), no)
	wantAnswer(t, board, stateOf(5, 4), no)
	wantFlash(t, board, map[int]string{3: filled('a')})
}

// What is asked, of each kind, with each length: only four of them are
// messages to the board. The others do not even get the last answer again.
func TestBoardAnswersOnlyWhatIsAsLongAsItMustBe(t *testing.T) {
	lengths := map[int]int{api.Open: 4, api.Page: 69, api.Read: 5, api.State: 4}
	for asked := range 256 {
		for length := 1; length <= api.MaxFrame; length++ {
			if lengths[asked] == length {
				continue
			}
			board := opened(t, 5)
			for number := range 2 {
				message := request(5, number, byte(asked)) + strings.Repeat("\x00", 80)
				wantAnswer(t, board, message[:length], "")
			}
			wantAnswer(t, board, stateOf(5, 1), yes+"\x00\x00")
		}
	}
}

func TestBoardOpensNothingByAnOpenThatIsTooLong(t *testing.T) {
	board := burnish.NewBoard()
	wantAnswer(t, board, openOf(5, 0)+"\x00", "")
	wantAnswer(t, board, openOf(5, 0)[:3], "")
	wantAnswer(t, board, stateOf(5, 1), "")
}

func TestBoardBurnsEachPage(t *testing.T) {
	random := rand.New(rand.NewSource(9))
	board := opened(t, 5)
	pages := map[int]string{}
	burnt, number := 0, 0
	next := func() int { number++; return number }
	for _, page := range random.Perm(api.Pages) {
		bytes := make([]byte, 64)
		random.Read(bytes)
		wantAnswer(t, board, readOf(5, next(), byte(page)), no)
		wantAnswer(t, board, pageOf(5, next(), byte(page), string(bytes)), yes)
		wantAnswer(t, board, readOf(5, next(), byte(page)), yes+string(bytes))
		pages[page] = string(bytes)
		burnt |= 1 << page
		wantFlash(t, board, pages)
		wantAnswer(t, board, stateOf(5, next()), yes+string([]byte{byte(burnt >> 8), byte(burnt)}))
		if board.Burnt() != burnt {
			t.Errorf("P8: burnt is %X, want %X", board.Burnt(), burnt)
		}
	}
}

// A page is erased ahead of its burning: bits that were 0 are 1 again.
func TestBoardBurnsAPageAgain(t *testing.T) {
	board := opened(t, 5)
	for i, letter := range []byte{0x00, 0xFF, 0x55, 0xAA, 0x7E, 0x7D, 0x00, 0x01} {
		wantAnswer(t, board, pageOf(5, 2*i+1, 7, filled(letter)), yes)
		wantAnswer(t, board, readOf(5, 2*i+2, 7), yes+filled(letter))
		wantFlash(t, board, map[int]string{7: filled(letter)})
	}
}

func TestBoardSaysNoToPagesThatThereAreNot(t *testing.T) {
	board := opened(t, 5)
	number := 0
	for page := api.Pages; page < 256; page++ {
		wantAnswer(t, board, pageOf(5, number+1, byte(page), filled('a')), no)
		wantAnswer(t, board, readOf(5, number+2, byte(page)), no)
		number += 2
	}
	wantFlash(t, board, nil)
	if board.Burnt() != 0 {
		t.Errorf("P8: burnt is %X", board.Burnt())
	}
	// They left no records: there is room for as many pages as ever.
	wantRoom(t, board, number, api.Journal/2)
}

// wantRoom burns so many pages, and then no one more.
func wantRoom(t *testing.T, board *burnish.Board, number, pages int) {
	t.Helper()
	for i := range pages {
		number++
		wantAnswer(t, board, pageOf(5, number, byte(i%api.Pages), filled(byte(i))), yes)
	}
	before, burnt := board.Flash(), board.Burnt()
	for range 3 {
		number++
		wantAnswer(t, board, pageOf(5, number, 1, filled('x')), no)
	}
	if board.Flash() != before || board.Burnt() != burnt {
		t.Errorf("P7: a page was burnt without room")
	}
}

func TestBoardSaysNoWithoutRoomInTheJournal(t *testing.T) {
	board := opened(t, 5)
	wantRoom(t, board, 0, 30)
	wantAnswer(t, board, readOf(5, 34, 13), yes+filled(29))
	wantAnswer(t, board, stateOf(5, 35), yes+"\xFF\xFF")
	board.Boot()
	wantAnswer(t, board, openOf(5, 0), yes)
	wantRoom(t, board, 0, 0)
	wantAnswer(t, board, readOf(5, 4, 13), yes+filled(29))
}

// A record that the power left unfinished takes its room; one of which nothing
// was written does not. A single record's room is not enough for a page.
func TestBoardCountsTheRoomThatIsLeft(t *testing.T) {
	for _, test := range []struct{ strokes, mask, pages int }{
		{0, 0, 30}, {0, 0x02, 30}, {0, 0x80, 29}, {0, 0xFF, 29}, {1, 0, 29}, {3, 0, 29}, {3, 0xFF, 29},
		{4, 0, 29}, {131, 0xFF, 29}, {132, 0, 29}, {132, 0xFF, 29}, {133, 0, 29}, {135, 0, 29}, {135, 0xFF, 29},
	} {
		board := opened(t, 5)
		board.Cut(test.strokes, test.mask)
		wantAnswer(t, board, pageOf(5, 1, 2, filled('a')), "")
		board.Boot()
		wantAnswer(t, board, openOf(5, 0), yes)
		wantRoom(t, board, 0, test.pages)
	}
}

func TestBoardAnswersAllMessagesInTheirOrder(t *testing.T) {
	messages := []string{stateOf(5, 1), openOf(5, 0), pageOf(5, 1, 3, filled('~')), "\x00", pageOf(5, 1, 4, filled('a')),
		readOf(5, 2, 3), readOf(5, 2, 3), stateOf(5, 9), readOf(5, 3, 4), stateOf(5, 4)}
	answers := []string{openOf(5, 0)[:3] + yes, "\x00\x05\x01" + yes, "\x00\x05\x01" + yes, "\x00\x05\x02" + yes + filled('~'),
		"\x00\x05\x02" + yes + filled('~'), "\x00\x05\x03" + no, "\x00\x05\x04" + yes + "\x00\x08"}
	text, want := "noise", ""
	for _, message := range messages {
		text += frameOf(message) + "}~spoilt"
	}
	for _, answer := range answers {
		want += frameOf(answer)
	}
	if got := burnish.NewBoard().Hear(text); got != want {
		t.Errorf("P7: all at once: % X, want % X", got, want)
	}
	board, got := burnish.NewBoard(), ""
	for _, part := range bytewise(text) {
		got += board.Hear(part)
	}
	if got != want {
		t.Errorf("P7: byte by byte: % X, want % X", got, want)
	}
	for cut := range len(text) {
		board := burnish.NewBoard()
		if got := board.Hear(text[:cut]) + board.Hear("") + board.Hear(text[cut:]); got != want {
			t.Fatalf("P7: cut at %d: % X, want % X", cut, got, want)
		}
	}
}

func TestBoardAnswersNothingThatIsSpoilt(t *testing.T) {
	board := opened(t, 5)
	text := pageOf(5, 1, 3, filled('a'))
	text += checkOf(text)
	for place := range len(text) {
		spoilt := []byte(text)
		spoilt[place] ^= 4
		if got := board.Hear("~" + escapes.Replace(string(spoilt)) + "~"); got != "" {
			t.Fatalf("P7: spoilt at %d it is answered by % X", place, got)
		}
	}
	wantFlash(t, board, nil)
}

func TestBoardsKnowNothingOfOneAnother(t *testing.T) {
	first, second := opened(t, 5), burnish.NewBoard()
	wantAnswer(t, first, pageOf(5, 1, 0, filled('a')), yes)
	wantAnswer(t, second, stateOf(5, 2), "")
	wantFlash(t, second, nil)
	first.Cut(0, 255)
	wantAnswer(t, second, openOf(6, 0), yes)
	wantAnswer(t, second, pageOf(6, 1, 1, filled('b')), yes)
	wantAnswer(t, first, pageOf(5, 2, 2, filled('c')), "")
	if first.On() || !second.On() || second.Burnt() != 2 {
		t.Errorf("P2: on: %t, %t, burnt: %X", first.On(), second.On(), second.Burnt())
	}
}
