package burnish_test

import (
	"math"
	"math/rand"
	"reflect"
	"slices"
	"strings"
	"sync"
	"testing"

	"burnish/api"
	"burnish/burnish"
)

func oddNumbers() []int {
	return []int{0, 1, -1, 2, 127, 128, -128, 255, 256, 1023, 1024, 65535, 65536, -65536, math.MinInt, math.MaxInt}
}

func oddTexts() []string {
	texts := []string{"", "\n", "\x00", "~", "}~", "~~", "a: nop", "sjmp far", "ORG 1024\nnop", "\xA5", "é", "\xFF\xFE",
		strings.Repeat("~", 5000), strings.Repeat("\xFF", 5000), strings.Repeat("nop\n", 5000), strings.Repeat("(", 5000)}
	for first := range 256 {
		texts = append(texts, string([]byte{byte(first)}), string([]byte{byte(first), 0xFF}), string([]byte{byte(first), 0xFF, 0x80}))
	}
	return texts
}

func oddImages() []api.Image {
	whole := api.Image{Bytes: make([]byte, 1024), Laid: make([]bool, 1024), Starts: make([]bool, 1024)}
	for i := range 1024 {
		whole.Bytes[i], whole.Laid[i], whole.Starts[i] = byte(i), i%3 == 0, i%2 == 0
	}
	short := whole
	short.Bytes = whole.Bytes[:1023]
	return []api.Image{whole, short, {}, {Bytes: whole.Bytes, Laid: whole.Laid}, {Laid: whole.Laid, Starts: whole.Starts}}
}

// A call that panics or does not end fails this test; with no instruction,
// nothing is answered.
func TestDecodeEndsWhateverItIsGiven(t *testing.T) {
	for _, text := range oddTexts() {
		for _, number := range oddNumbers() {
			line, size := burnish.Decode(text, number)
			if size < 0 || size > 3 || size > len(text) || (line == "") != (size == 0) {
				t.Errorf("P1: Decode(% X, %d) = %q, %d", text, number, line, size)
			}
		}
	}
}

// Words and signs in any order: the answer is an image, or an error of P4 with
// a line that there is.
func TestAssembleEndsWhateverItIsGiven(t *testing.T) {
	random := rand.New(rand.NewSource(2))
	parts := strings.Split("mov|a|,|#|@|r0|+|-|$|x|x:|:|equ|org|db|dw|ds|1|0x10|65535|99999|/|c|\n|\n|;| | |sjmp|nop|dptr|ninechars|(|\xFF|~|1x", "|")
	for range 5000 {
		text := ""
		for range random.Intn(12) {
			text += parts[random.Intn(len(parts))] + " "[:random.Intn(2)]
		}
		image, errno, line := burnish.Assemble(text)
		if errno == api.OK {
			if line != 0 || len(image.Bytes) != 1024 || len(image.Laid) != 1024 || len(image.Starts) != 1024 {
				t.Fatalf("P1: Assemble(%q): no whole answer, line %d", text, line)
			}
			continue
		}
		lines := strings.Count(text, "\n") + 1
		if errno < api.ErrSyntax || errno > api.ErrOverlap || line < 1 || line > lines || !reflect.DeepEqual(image, api.Image{}) {
			t.Fatalf("P1: Assemble(%q): %d, %d", text, errno, line)
		}
	}
}

func TestCallsEndWhateverTheyAreGiven(t *testing.T) {
	for _, text := range oddTexts() {
		burnish.Assemble(text)
		burnish.Frame(text)
		burnish.Listen().Hear(text)
		tryBoard(burnish.NewBoard(), text)
	}
	for _, image := range oddImages() {
		burnish.Listing(image)
		for _, number := range oddNumbers() {
			if host, errno := burnish.NewHost(image, number); errno == api.OK {
				tryHost(host)
			}
		}
	}
}

func tryBoard(board *burnish.Board, text string) {
	board.Hear(text)
	for _, number := range oddNumbers() {
		board.Cut(number, number)
		board.Hear(text)
		board.Boot()
	}
	board.On()
	board.Flash()
	board.Burnt()
}

func tryHost(host *burnish.Host) {
	for _, text := range oddTexts()[:16] {
		host.Say()
		host.Hear(text)
		host.Tick()
		host.State()
	}
}

// What was asked ahead, in whatever order, and what is asked beside it, must
// not be seen in an answer.
func TestDecodeDependsOnItsArgumentsAlone(t *testing.T) {
	texts := oddTexts()
	ask := func(text string) decoded { return decode(text, len(text)) }
	want := make([]decoded, len(texts))
	for i, text := range texts {
		want[i] = ask(text)
	}
	for i := len(texts) - 1; i >= 0; i-- {
		if got := ask(texts[i]); got != want[i] {
			t.Errorf("P2: Decode(% X) = %v, and at first %v", texts[i], got, want[i])
		}
	}
	var askers sync.WaitGroup
	for range 8 {
		askers.Go(func() {
			for i, text := range texts {
				if got := ask(text); got != want[i] {
					t.Errorf("P2: Decode(% X) = %v, and alone %v", text, got, want[i])
				}
			}
		})
	}
	askers.Wait()
}

func TestOtherCallsAnswerTheSameAgain(t *testing.T) {
	for _, text := range oddTexts() {
		image1, errno1, line1 := burnish.Assemble(text)
		frame1, frameErrno1 := burnish.Frame(text)
		image2, errno2, line2 := burnish.Assemble(text)
		frame2, frameErrno2 := burnish.Frame(text)
		if !reflect.DeepEqual(image1, image2) || errno1 != errno2 || line1 != line2 {
			t.Errorf("P2: Assemble(%.20q) answers one thing, then another", text)
		}
		if frame1 != frame2 || frameErrno1 != frameErrno2 {
			t.Errorf("P2: Frame(%.20q) answers one thing, then another", text)
		}
	}
}

func TestAssembleBesideOthers(t *testing.T) {
	sources := []string{"", "x: nop\nsjmp x", "x equ 5\ndb x", "sjmp x", "x:\nx:", "org 1024"}
	var askers sync.WaitGroup
	for _, source := range sources {
		image, errno, line := burnish.Assemble(source)
		for range 4 {
			askers.Go(func() {
				for range 20 {
					imageAgain, errnoAgain, lineAgain := burnish.Assemble(source)
					if !reflect.DeepEqual(image, imageAgain) || errno != errnoAgain || line != lineAgain {
						t.Errorf("P2: Assemble(%q) answers another thing beside others", source)
					}
				}
			})
		}
	}
	askers.Wait()
}

func copyOf(i api.Image) api.Image {
	return api.Image{Bytes: slices.Clone(i.Bytes), Laid: slices.Clone(i.Laid), Starts: slices.Clone(i.Starts)}
}

func TestImagesAreNotWrittenInto(t *testing.T) {
	for n, image := range oddImages() {
		before := copyOf(image)
		burnish.Listing(image)
		if host, errno := burnish.NewHost(image, 1); errno == api.OK {
			tryHost(host)
		}
		if !reflect.DeepEqual(image, before) {
			t.Errorf("P2: image %d was written into", n)
		}
	}
}

func TestListsAreNewMemory(t *testing.T) {
	image := oddImages()[0]
	first, _ := burnish.Listing(image)
	want := slices.Clone(first)
	spare := first[:cap(first)]
	for i := range spare {
		spare[i] = "spoilt"
	}
	if again, _ := burnish.Listing(image); !slices.Equal(again, want) {
		t.Errorf("P2: what was written into a listing is seen in the next one")
	}
}
