package burnish_test

import (
	"fmt"
	"math/rand"
	"slices"
	"strings"
	"testing"

	"burnish/api"
	"burnish/burnish"
)

func wantListing(t *testing.T, image api.Image, want ...string) {
	t.Helper()
	if got, errno := burnish.Listing(image); errno != api.OK || !slices.Equal(got, want) {
		t.Errorf("P5: Listing = %q, %d, want %q", got, errno, want)
	}
}

func blank() api.Image {
	image := api.Image{Bytes: make([]byte, 1024), Laid: make([]bool, 1024), Starts: make([]bool, 1024)}
	for i := range image.Bytes {
		image.Bytes[i] = 255
	}
	return image
}

// lay puts bytes at a place, and lets an instruction begin there.
func lay(image api.Image, at int, bytes ...byte) {
	for i, b := range bytes {
		image.Bytes[at+i], image.Laid[at+i] = b, true
	}
	image.Starts[at] = true
}

func TestListingOfASource(t *testing.T) {
	image, _, _ := burnish.Assemble("org 16\nl: cjne a,#5,l\nmov 1,2\ndb 3\norg 1023\nret\norg 0\nx: sjmp x")
	wantListing(t, image, "0000 SJMP 0x0000", "0010 CJNE A,#0x05,0x0010", "0013 MOV 0x01,0x02", "03FF RET")
}

func TestListingOfNothing(t *testing.T) {
	wantListing(t, blank())
	image := blank()
	lay(image, 5, 0)
	image.Starts[5] = false
	wantListing(t, image)
}

func TestListingPlaces(t *testing.T) {
	image, want := blank(), []string(nil)
	for at := range 1024 {
		lay(image, at, 0x22)
		want = append(want, fmt.Sprintf("%04X RET", at))
	}
	wantListing(t, image, want...)
}

func TestListingOfWhatIsNone(t *testing.T) {
	image := blank()
	lay(image, 0, 0xA5, 0, 0)
	wantListing(t, image, "0000 ?")

	image = blank()
	image.Starts[7] = true
	image.Bytes[7] = 0
	wantListing(t, image, "0007 ?")

	image = blank()
	lay(image, 10, 0x02, 0x12)
	image.Bytes[12] = 0x34
	wantListing(t, image, "000A ?")

	// A byte that is not laid ends it, though others are laid behind.
	image = blank()
	lay(image, 10, 0x02, 0x12, 0x34, 0x56)
	image.Laid[11] = false
	wantListing(t, image, "000A ?")
	image.Laid[10], image.Laid[11] = false, true
	wantListing(t, image, "000A ?")
}

func TestListingAtTheEnd(t *testing.T) {
	image := blank()
	lay(image, 0, 0x00)
	lay(image, 1022, 0x80)
	lay(image, 1023, 0x80)
	wantListing(t, image, "0000 NOP", "03FE SJMP 0x0380", "03FF ?")
	lay(image, 1021, 0x02, 0x12, 0x34)
	lay(image, 1022, 0x12, 0x34)
	wantListing(t, image, "0000 NOP", "03FD LJMP 0x1234", "03FE ?", "03FF ?")
}

// Instructions that begin within others are listed too.
func TestListingWithin(t *testing.T) {
	image := blank()
	lay(image, 4, 0x75, 0x74, 0x73)
	lay(image, 5, 0x74)
	lay(image, 6, 0x73)
	wantListing(t, image, "0004 MOV 0x74,#0x73", "0005 MOV A,#0x73", "0006 JMP @A+DPTR")
}

func TestListingOfWrongImages(t *testing.T) {
	whole := blank()
	lay(whole, 0, 0)
	for _, size := range []int{0, 1, 64, 1023, 1025, 2048} {
		bytes, bools := make([]byte, size), make([]bool, size)
		for _, image := range []api.Image{
			{Bytes: bytes, Laid: whole.Laid, Starts: whole.Starts},
			{Bytes: whole.Bytes, Laid: bools, Starts: whole.Starts},
			{Bytes: whole.Bytes, Laid: whole.Laid, Starts: bools},
			{Bytes: bytes, Laid: bools, Starts: bools},
		} {
			if lines, errno := burnish.Listing(image); errno != api.ErrImage || len(lines) > 0 {
				t.Errorf("P5: Listing of %d, %d, %d = %q, %d", len(image.Bytes), len(image.Laid), len(image.Starts), lines, errno)
			}
		}
	}
	if lines, errno := burnish.Listing(api.Image{}); errno != api.ErrImage || len(lines) > 0 {
		t.Errorf("P5: Listing of nothing = %q, %d", lines, errno)
	}
}

// What is listed is what was assembled: any instructions, one behind the other.
func TestListingIsAsItWasMeant(t *testing.T) {
	random := rand.New(rand.NewSource(1))
	for range 300 {
		place := random.Intn(900)
		source := fmt.Sprintf("org %d\n", place)
		var want []string
		for range random.Intn(40) {
			bytes := string([]byte{byte(random.Intn(256)), byte(random.Intn(256)), byte(random.Intn(256))})
			line, size := burnish.Decode(bytes, place)
			if size == 0 {
				continue
			}
			source += line + "\n"
			want = append(want, fmt.Sprintf("%04X %s", place, line))
			place += size
		}
		image, errno, at := burnish.Assemble(source)
		if errno != api.OK {
			t.Fatalf("P4: %d, %d: %q", errno, at, strings.Split(source, "\n")[at-1])
		}
		wantListing(t, image, want...)
	}
}
