package burnish_test

import (
	"math"
	"testing"

	"burnish/api"
	"burnish/burnish"
)

func wantOn(t *testing.T, board *burnish.Board, want bool) {
	t.Helper()
	if board.On() != want {
		t.Fatalf("P8: on is %t", board.On())
	}
}

func wantBurnt(t *testing.T, board *burnish.Board, want int) {
	t.Helper()
	if got := board.Burnt(); got != want {
		t.Fatalf("P8: burnt is %X, want %X", got, want)
	}
}

// between gives a byte of which the bits that would change are changed where
// the mask has a 1.
func between(was, wanted byte, mask int) byte {
	var out byte
	for bit := range 8 {
		source := was
		if mask>>bit&1 == 1 {
			source = wanted
		}
		out |= source & (1 << bit)
	}
	return out
}

// halfBurnt gives the bytes of a page, filled with was, of which so many
// strokes of its being filled with wanted were done, and one more failed.
func halfBurnt(was, wanted byte, strokes, mask int) string {
	bytes := []byte(filled(was))
	for i := range bytes {
		if strokes > 4+i {
			bytes[i] = 255
		} else if strokes == 4+i {
			bytes[i] = between(was, 255, mask)
		}
		if strokes > 68+i {
			bytes[i] = wanted
		} else if strokes == 68+i {
			bytes[i] = between(255, wanted, mask)
		}
	}
	return string(bytes)
}

func TestPowerFailsAtEachStroke(t *testing.T) {
	for strokes := range strokesOfPage {
		for _, mask := range []int{0, 1, 0x0F, 0x55, 0xAA, 0x80, 0x1FF, -1, -256} {
			board := opened(t, 5)
			wantAnswer(t, board, pageOf(5, 1, 2, filled('a')), yes)
			board.Cut(strokes, mask)
			wantAnswer(t, board, pageOf(5, 2, 2, filled('b')), "")
			wantOn(t, board, false)
			wantFlash(t, board, map[int]string{2: halfBurnt('a', 'b', strokes, mask)})
			board.Boot()
			wantOn(t, board, true)
			wantFlash(t, board, map[int]string{2: halfBurnt('a', 'b', strokes, mask)})
			wantAnswer(t, board, openOf(5, 0), yes)
			wantAnswer(t, board, pageOf(5, 1, 2, filled('c')), yes)
			wantAnswer(t, board, readOf(5, 2, 2), yes+filled('c'))
		}
	}
}

// Between the two whole records no page is burnt, though its bytes be those of
// an older record Burnt; a failing stroke that changes all bits is a whole one.
func TestPageIsBurntOnlyBetweenItsRecords(t *testing.T) {
	for _, letter := range []byte{'a', 'b', 0, 255} {
		for strokes := range strokesOfPage + 1 {
			for _, mask := range []int{0, 255} {
				board := opened(t, 5)
				wantAnswer(t, board, pageOf(5, 1, 2, filled('b')), yes)
				wantAnswer(t, board, pageOf(5, 2, 2, filled(letter)), yes)
				wantBurnt(t, board, 4)
				board.Cut(strokes, mask)
				board.Hear(frameOf(pageOf(5, 3, 2, filled(letter))))
				whole := strokes
				if mask == 255 {
					whole++
				}
				want := 4
				if whole >= 4 && whole < strokesOfPage {
					want = 0
				}
				wantBurnt(t, board, want)
			}
		}
	}
}

// withCheck gives bytes of a page with which the check in its record Burnt has
// a certain byte at a place, 0 or 1.
func withCheck(t *testing.T, page byte, place int, wanted byte) string {
	t.Helper()
	for number := range 65536 {
		bytes := filled('a')[2:] + string([]byte{byte(number >> 8), byte(number)})
		if checkOf(string([]byte{page, 2}) + bytes)[place] == wanted {
			return bytes
		}
	}
	t.Fatal("no bytes have such a check")
	return ""
}

// Where a check's lower byte is 255 the record is right ahead of its last
// stroke: the check's higher byte is written first, and it is that of the
// page's number, of the 2 and of the page's bytes.
func TestRecordIsRightAsSoonAsItsBytesAre(t *testing.T) {
	for page := range byte(api.Pages) {
		for place := range 2 {
			bytes := withCheck(t, page, place, 255)
			for strokes := 132; strokes < strokesOfPage; strokes++ {
				board := opened(t, 5)
				board.Cut(strokes, 0)
				wantAnswer(t, board, pageOf(5, 1, page, bytes), "")
				wanted := checkOf(string([]byte{page, 2}) + bytes)
				written := (string([]byte{page, 2}) + wanted)[:strokes-132] + "\xFF\xFF\xFF\xFF"
				want := 0
				if written[:4] == string([]byte{page, 2})+wanted {
					want = 1 << page
				}
				wantBurnt(t, board, want)
			}
		}
	}
}

// What other pages' records say does not matter to a page.
func TestPageStaysBurntWhenAnotherFails(t *testing.T) {
	for strokes := range strokesOfPage {
		board := opened(t, 5)
		wantAnswer(t, board, pageOf(5, 1, 2, filled('a')), yes)
		wantAnswer(t, board, pageOf(5, 2, 3, filled('a')), yes)
		board.Cut(strokes, 0)
		wantAnswer(t, board, pageOf(5, 3, 3, filled('a')), "")
		board.Boot()
		wantAnswer(t, board, openOf(5, 0), yes)
		wantAnswer(t, board, readOf(5, 1, 2), yes+filled('a'))
		if strokes >= 4 {
			wantAnswer(t, board, readOf(5, 2, 3), no)
			wantBurnt(t, board, 4)
		}
	}
}

func TestCutCountsStrokesAlone(t *testing.T) {
	board := opened(t, 5)
	board.Cut(strokesOfPage, 255)
	for i := range 20 {
		wantAnswer(t, board, stateOf(5, i+1), yes+"\x00\x00")
		wantAnswer(t, board, openOf(5, i), yes)
		wantAnswer(t, board, readOf(5, i+1, 3), no)
		wantAnswer(t, board, pageOf(5, i+2, 16, filled('a')), no)
		wantAnswer(t, board, openOf(5, i+1), yes)
	}
	wantAnswer(t, board, pageOf(5, 21, 3, filled(255)), yes)
	wantOn(t, board, true)
	for range 20 {
		wantAnswer(t, board, pageOf(5, 21, 3, filled('a')), yes)
	}
	wantAnswer(t, board, readOf(5, 22, 3), yes+filled(255))
	wantOn(t, board, true)
	wantAnswer(t, board, pageOf(5, 23, 3, filled('a')), "")
	wantOn(t, board, false)
	wantFlash(t, board, nil)
}

func TestCutLiesAheadOverManyPages(t *testing.T) {
	board := opened(t, 5)
	board.Cut(3*strokesOfPage+70, 0)
	for page := range byte(3) {
		wantAnswer(t, board, pageOf(5, int(page)+1, page, filled('a')), yes)
	}
	wantAnswer(t, board, pageOf(5, 4, 3, filled('b')), "")
	wantOn(t, board, false)
	wantFlash(t, board, map[int]string{0: filled('a'), 1: filled('a'), 2: filled('a'), 3: "bb" + filled(255)[2:]})
	wantBurnt(t, board, 7)
}

func TestCutBelowZeroIsNoStroke(t *testing.T) {
	for _, strokes := range []int{0, -1, -137, math.MinInt} {
		board := opened(t, 5)
		board.Cut(strokes, 255)
		wantOn(t, board, true)
		wantAnswer(t, board, stateOf(5, 1), yes+"\x00\x00")
		wantAnswer(t, board, pageOf(5, 2, 3, filled('a')), "")
		wantOn(t, board, false)
		wantFlash(t, board, nil)
	}
}

func TestCutOfManyStrokes(t *testing.T) {
	board := opened(t, 5)
	board.Cut(math.MaxInt, 255)
	wantRoom(t, board, 0, 30)
}

// The later cut holds, be it nearer or farther.
func TestCutTakesTheEarlierOnesPlace(t *testing.T) {
	board := opened(t, 5)
	board.Cut(4, 0)
	board.Cut(strokesOfPage+4, 255)
	wantAnswer(t, board, pageOf(5, 1, 3, filled('a')), yes)
	board.Cut(1000, 0)
	board.Cut(4, 255)
	wantAnswer(t, board, pageOf(5, 2, 3, filled('b')), "")
	wantFlash(t, board, map[int]string{3: "\xFF" + filled('a')[1:]})
}

func TestBootTakesTheCutBack(t *testing.T) {
	board := burnish.NewBoard()
	board.Cut(0, 0)
	board.Boot()
	wantAnswer(t, board, openOf(5, 0), yes)
	wantRoom(t, board, 0, 30)
}

// A cut that came true is gone, too; one that an off board is told is none.
func TestCutOfABoardThatIsOff(t *testing.T) {
	board := opened(t, 5)
	board.Cut(2, 255)
	wantAnswer(t, board, pageOf(5, 1, 3, filled('a')), "")
	board.Cut(500, 0)
	wantOn(t, board, false)
	board.Cut(0, 0)
	board.Boot()
	wantAnswer(t, board, openOf(5, 0), yes)
	wantRoom(t, board, 0, 29)
}

func TestBoardThatIsOffDoesNothing(t *testing.T) {
	board := opened(t, 5)
	wantAnswer(t, board, pageOf(5, 1, 3, filled('a')), yes)
	board.Cut(0, 0)
	wantAnswer(t, board, pageOf(5, 2, 4, filled('b')), "")
	for _, message := range []string{stateOf(5, 2), stateOf(5, 1), openOf(5, 0), pageOf(5, 2, 4, filled('b')), readOf(5, 1, 3)} {
		wantAnswer(t, board, message, "")
	}
	wantOn(t, board, false)
	wantFlash(t, board, map[int]string{3: filled('a')})
	wantBurnt(t, board, 8)
	// Of what came while it was off nothing is kept, not even a border.
	half := frameOf(openOf(5, 0))
	board.Hear(half[:4])
	board.Boot()
	if got := board.Hear(half[4:]); got != "" {
		t.Errorf("P8: a board that was off answers % X", got)
	}
}

func TestBoardForgetsWhatItKnewWithoutPower(t *testing.T) {
	board := opened(t, 5)
	board.Cut(0, 0)
	rest := frameOf(openOf(5, 7))
	if got := board.Hear(frameOf(pageOf(5, 1, 4, filled('b'))) + rest[:4]); got != "" {
		t.Errorf("P8: % X", got)
	}
	board.Boot()
	if got := board.Hear(rest[4:]); got != "" {
		t.Errorf("P8: what was heard ahead of the failing power is kept: % X", got)
	}
	for number := range 256 {
		wantAnswer(t, board, stateOf(5, number), "")
	}
}

func TestBootOfABoardThatIsOn(t *testing.T) {
	board := opened(t, 5)
	wantAnswer(t, board, pageOf(5, 1, 3, filled('a')), yes)
	half := frameOf(openOf(5, 1))
	board.Hear(half[:4])
	board.Boot()
	wantOn(t, board, true)
	if got := board.Hear(half[4 : len(half)-1]); got != "" {
		t.Errorf("P8: a frame that was begun ahead of Boot: % X", got)
	}
	if got := board.Hear("~"); got != "" {
		t.Errorf("P8: a frame that was begun ahead of Boot: % X", got)
	}
	for number := range 256 {
		wantAnswer(t, board, stateOf(5, number), "")
		wantAnswer(t, board, stateOf(0, number), "")
	}
	wantFlash(t, board, map[int]string{3: filled('a')})
	wantAnswer(t, board, openOf(5, 0), yes)
	wantAnswer(t, board, readOf(5, 1, 3), yes+filled('a'))
}

// Answers that were made ahead of the failing power come out; what stands
// behind in the same bytes is neither answered nor done, nor remembered.
func TestAnswersAheadOfAFailingPower(t *testing.T) {
	board := burnish.NewBoard()
	board.Cut(strokesOfPage+20, 0)
	text := frameOf(openOf(5, 0)) + frameOf(pageOf(5, 1, 0, filled('a'))) + frameOf(stateOf(5, 2)) +
		frameOf(pageOf(5, 3, 1, filled('b'))) + frameOf(openOf(6, 0)) + frameOf(pageOf(6, 1, 2, filled('c')))
	want := frameOf("\x00\x05\x00"+yes) + frameOf("\x00\x05\x01"+yes) + frameOf("\x00\x05\x02"+yes+"\x00\x01")
	if got := board.Hear(text); got != want {
		t.Errorf("P7: % X, want % X", got, want)
	}
	wantOn(t, board, false)
	wantFlash(t, board, map[int]string{0: filled('a')})
	board.Boot()
	wantAnswer(t, board, stateOf(6, 1), "")
	wantAnswer(t, board, stateOf(5, 3), "")
	wantBurnt(t, board, 1)
}

func TestLookingAtABoardChangesNothing(t *testing.T) {
	board := opened(t, 5)
	board.Cut(strokesOfPage, 0)
	frame := frameOf(pageOf(5, 1, 9, filled('a')))
	for i, part := range bytewise(frame) {
		board.On()
		board.Flash()
		board.Burnt()
		want := ""
		if i == len(frame)-1 {
			want = frameOf("\x00\x05\x01" + yes)
		}
		if got := board.Hear(part); got != want {
			t.Fatalf("P2: at %d: % X", i, got)
		}
	}
	wantAnswer(t, board, readOf(5, 2, 9), yes+filled('a'))
	wantBurnt(t, board, 1<<9)
	wantBurnt(t, board, 1<<9)
	wantOn(t, board, true)
}

func TestBurntHasABitOfEachPage(t *testing.T) {
	for page := range api.Pages {
		board := opened(t, 5)
		wantAnswer(t, board, pageOf(5, 1, byte(page), filled(byte(page))), yes)
		wantBurnt(t, board, 1<<page)
	}
}
