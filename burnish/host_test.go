package burnish_test

import (
	"math/rand"
	"reflect"
	"slices"
	"strings"
	"testing"

	"burnish/api"
	"burnish/burnish"
)

// exchange is a message of a host, and what stands in its answer behind the
// session and the number.
type exchange struct{ asked, answer string }

func newHost(t *testing.T, image api.Image, session int) *burnish.Host {
	t.Helper()
	host, errno := burnish.NewHost(image, session)
	if host == nil || errno != api.OK {
		t.Fatalf("P9: NewHost: %d", errno)
	}
	return host
}

// imageOf has bytes of all kinds; of the pages one byte each is laid.
func imageOf(seed int64, pages ...int) api.Image {
	random := rand.New(rand.NewSource(seed))
	image := blank()
	random.Read(image.Bytes)
	for _, page := range pages {
		image.Laid[64*page+random.Intn(64)] = true
	}
	return image
}

func bytesOf(image api.Image, page byte) string {
	return string(image.Bytes[64*int(page) : 64*int(page)+64])
}

func wantState(t *testing.T, host *burnish.Host, want int) {
	t.Helper()
	if got := host.State(); got != want {
		t.Fatalf("P9: the host's state is %d, want %d", got, want)
	}
}

// wantSaid wants the message's frame, once.
func wantSaid(t *testing.T, host *burnish.Host, message string) {
	t.Helper()
	if got := host.Say(); got != frameOf(message) {
		t.Fatalf("P9: the host says % X, want the frame of % X", got, message)
	}
	wantSilence(t, host)
}

func wantSilence(t *testing.T, host *burnish.Host) {
	t.Helper()
	for range 2 {
		if got := host.Say(); got != "" {
			t.Fatalf("P10: the host says % X, want nothing", got)
		}
	}
}

// wantEnd wants a host that is done or has failed to say, take and do nothing
// more.
func wantEnd(t *testing.T, host *burnish.Host, state int, last string) {
	t.Helper()
	for range 2 * api.MaxTries * api.Patience {
		wantState(t, host, state)
		wantSilence(t, host)
		host.Tick()
		for _, answer := range []string{yes, no, yes + "\x00\x00", yes + filled(0)} {
			host.Hear(frameOf(last[:3] + answer))
			host.Hear(frameOf(last[:2] + string([]byte{last[2] + 1}) + answer))
		}
	}
}

// wantTalk wants a host to ask just these things, and then to be as it is to
// be. If it is to be going, it waits for the answer to a thing more.
func wantTalk(t *testing.T, host *burnish.Host, state int, talk ...exchange) {
	t.Helper()
	for _, e := range talk {
		wantState(t, host, api.Going)
		wantSaid(t, host, e.asked)
		host.Hear(frameOf(e.asked[:3] + e.answer))
	}
	if state == api.Going {
		wantState(t, host, api.Going)
		return
	}
	wantEnd(t, host, state, talk[len(talk)-1].asked)
}

func TestHostBurnsAndReadsPageByPage(t *testing.T) {
	image := imageOf(1, 2, 5, 6, 9, 15)
	// 2 and 15 are not burnt; 5 is as it is wanted, 6 is another, 9 was burnt
	// by the state and is no more; 3 is burnt, but not wanted.
	wantTalk(t, newHost(t, image, 0x1234), api.Done,
		exchange{openOf(0x1234, 0), yes},
		exchange{stateOf(0x1234, 1), yes + "\x02\x68"},
		exchange{pageOf(0x1234, 2, 2, bytesOf(image, 2)), yes},
		exchange{readOf(0x1234, 3, 2), yes + bytesOf(image, 2)},
		exchange{readOf(0x1234, 4, 5), yes + bytesOf(image, 5)},
		exchange{readOf(0x1234, 5, 6), yes + bytesOf(image, 5)},
		exchange{pageOf(0x1234, 6, 6, bytesOf(image, 6)), yes},
		exchange{readOf(0x1234, 7, 6), yes + bytesOf(image, 6)},
		exchange{readOf(0x1234, 8, 9), no},
		exchange{pageOf(0x1234, 9, 9, bytesOf(image, 9)), yes},
		exchange{readOf(0x1234, 10, 9), yes + bytesOf(image, 9)},
		exchange{pageOf(0x1234, 11, 15, bytesOf(image, 15)), yes},
		exchange{readOf(0x1234, 12, 15), yes + bytesOf(image, 15)},
	)
}

func TestHostWantsAllPages(t *testing.T) {
	image := imageOf(2, 0, 1, 2, 3, 4, 5, 6, 7, 8, 9, 10, 11, 12, 13, 14, 15)
	for burnt := range 2 {
		state := yes + strings.Repeat(string([]byte{byte(-burnt)}), 2)
		talk := []exchange{{openOf(7, 0), yes}, {stateOf(7, 1), state}}
		number := 2
		for page := range byte(api.Pages) {
			if burnt == 1 {
				talk = append(talk, exchange{readOf(7, number, page), no})
				number++
			}
			talk = append(talk, exchange{pageOf(7, number, page, bytesOf(image, page)), yes},
				exchange{readOf(7, number+1, page), yes + bytesOf(image, page)})
			number += 2
		}
		wantTalk(t, newHost(t, image, 7), api.Done, talk...)
	}
}

// A byte laid anywhere makes its page wanted, and no other; what instructions
// begin does not count.
func TestHostWantsThePageOfEachLaidByte(t *testing.T) {
	for place := range 1024 {
		image := imageOf(int64(place))
		image.Laid[place] = true
		for i := range image.Starts {
			image.Starts[i] = i != place
		}
		page := byte(place / 64)
		wantTalk(t, newHost(t, image, 7), api.Done,
			exchange{openOf(7, 0), yes},
			exchange{stateOf(7, 1), yes + "\x00\x00"},
			exchange{pageOf(7, 2, page, bytesOf(image, page)), yes},
			exchange{readOf(7, 3, page), yes + bytesOf(image, page)})
	}
}

// The state has page 0 in the lowest bit, and the higher byte first.
func TestHostReadsAPageThatIsBurntByTheState(t *testing.T) {
	for page := range byte(api.Pages) {
		image := imageOf(3, int(page))
		bit := 1 << page
		only := string([]byte{byte(bit >> 8), byte(bit)})
		others := string([]byte{^only[0], ^only[1]})
		begin := exchange{openOf(7, 0), yes}
		wantTalk(t, newHost(t, image, 7), api.Done, begin, exchange{stateOf(7, 1), yes + only},
			exchange{readOf(7, 2, page), yes + bytesOf(image, page)})
		wantTalk(t, newHost(t, image, 7), api.Done, begin, exchange{stateOf(7, 1), yes + others},
			exchange{pageOf(7, 2, page, bytesOf(image, page)), yes},
			exchange{readOf(7, 3, page), yes + bytesOf(image, page)})
	}
}

func TestHostThatWantsNothingIsDoneBehindTheState(t *testing.T) {
	image := imageOf(4)
	for _, state := range []string{"\x00\x00", "\xFF\xFF", "\x00\x01"} {
		wantTalk(t, newHost(t, image, 7), api.Done, exchange{openOf(7, 0), yes}, exchange{stateOf(7, 1), yes + state})
	}
}

func TestHostsSessionIsTheLowest16Bits(t *testing.T) {
	for _, session := range append(oddNumbers(), 0x7E7D, 0x12345, -2) {
		wantTalk(t, newHost(t, imageOf(5), session), api.Done,
			exchange{openOf(session&0xFFFF, 0), yes},
			exchange{stateOf(session&0xFFFF, 1), yes + "\x00\x00"})
	}
}

func TestHostFailsByANo(t *testing.T) {
	image := imageOf(6, 3)
	open, state, found := exchange{openOf(7, 0), yes}, exchange{stateOf(7, 1), yes + "\x00\x00"}, exchange{stateOf(7, 1), yes + "\x00\x08"}
	wantTalk(t, newHost(t, image, 7), api.Failed, exchange{openOf(7, 0), no})
	wantTalk(t, newHost(t, image, 7), api.Failed, open, exchange{stateOf(7, 1), no})
	wantTalk(t, newHost(t, image, 7), api.Failed, open, state, exchange{pageOf(7, 2, 3, bytesOf(image, 3)), no})
	wantTalk(t, newHost(t, image, 7), api.Failed, open, state, exchange{pageOf(7, 2, 3, bytesOf(image, 3)), yes}, exchange{readOf(7, 3, 3), no})
	wantTalk(t, newHost(t, image, 7), api.Failed, open, found, exchange{readOf(7, 2, 3), no}, exchange{pageOf(7, 3, 3, bytesOf(image, 3)), no})
	wantTalk(t, newHost(t, image, 7), api.Failed, open, found, exchange{readOf(7, 2, 3), no},
		exchange{pageOf(7, 3, 3, bytesOf(image, 3)), yes}, exchange{readOf(7, 4, 3), no})
	wantTalk(t, newHost(t, image, 7), api.Failed, open, found, exchange{readOf(7, 2, 3), yes + filled('x')},
		exchange{pageOf(7, 3, 3, bytesOf(image, 3)), yes}, exchange{readOf(7, 4, 3), no})
}

// One other bit at any place, laid or not, is not as it is wanted.
func TestHostTellsEachByteThatIsRead(t *testing.T) {
	image := imageOf(7, 3)
	open, page := exchange{openOf(7, 0), yes}, bytesOf(image, 3)
	for place := range 64 {
		other := []byte(page)
		other[place] ^= 1 << (place % 8)
		wantTalk(t, newHost(t, image, 7), api.Failed, open, exchange{stateOf(7, 1), yes + "\x00\x00"},
			exchange{pageOf(7, 2, 3, page), yes}, exchange{readOf(7, 3, 3), yes + string(other)})
		wantTalk(t, newHost(t, image, 7), api.Failed, open, exchange{stateOf(7, 1), yes + "\x00\x08"},
			exchange{readOf(7, 2, 3), yes + string(other)},
			exchange{pageOf(7, 3, 3, page), yes}, exchange{readOf(7, 4, 3), yes + string(other)})
	}
}

// Each page has its own second time; a host that has failed asks for no other
// page.
func TestHostTriesEachPageOnceMore(t *testing.T) {
	image := imageOf(8, 0, 1, 2)
	talk := []exchange{{openOf(7, 0), yes}, {stateOf(7, 1), yes + "\x00\x07"}}
	for page := range byte(2) {
		number := 2 + 3*int(page)
		talk = append(talk, exchange{readOf(7, number, page), yes + filled('x')},
			exchange{pageOf(7, number+1, page, bytesOf(image, page)), yes},
			exchange{readOf(7, number+2, page), yes + bytesOf(image, page)})
	}
	wantTalk(t, newHost(t, image, 7), api.Going, talk...)
	talk[len(talk)-1].answer = yes + bytesOf(image, 0)
	wantTalk(t, newHost(t, image, 7), api.Failed, talk...)
}

func TestNoHostOfWrongImages(t *testing.T) {
	whole := imageOf(9, 1)
	for _, size := range []int{0, 1, 64, 1023, 1025, 2048} {
		bytes, bools := make([]byte, size), make([]bool, size)
		for _, image := range []api.Image{
			{Bytes: bytes, Laid: whole.Laid, Starts: whole.Starts},
			{Bytes: whole.Bytes, Laid: bools, Starts: whole.Starts},
			{Bytes: whole.Bytes, Laid: whole.Laid, Starts: bools},
			{Bytes: bytes, Laid: bools, Starts: bools},
		} {
			if host, errno := burnish.NewHost(image, 7); host != nil || errno != api.ErrImage {
				t.Errorf("P9: NewHost of %d, %d, %d: %v, %d", len(image.Bytes), len(image.Laid), len(image.Starts), host, errno)
			}
		}
	}
	if host, errno := burnish.NewHost(api.Image{}, 7); host != nil || errno != api.ErrImage {
		t.Errorf("P9: NewHost of nothing: %v, %d", host, errno)
	}
}

// hostAt gives a host that has said so many of four things, OPEN, STATE, PAGE
// and READ, and waits for the answer to the last one; and that exchange.
func hostAt(t *testing.T, asked int) (*burnish.Host, exchange) {
	t.Helper()
	image := imageOf(10, 3)
	talk := []exchange{
		{openOf(0x0105, 0), yes},
		{stateOf(0x0105, 1), yes + "\x00\x00"},
		{pageOf(0x0105, 2, 3, bytesOf(image, 3)), yes},
		{readOf(0x0105, 3, 3), yes + bytesOf(image, 3)},
	}
	host := newHost(t, image, 0x0105)
	wantTalk(t, host, api.Going, talk[:asked-1]...)
	last := talk[asked-1]
	wantSaid(t, host, last.asked)
	return host, last
}

// wantNotTaken lets a host hear what is no answer, and then the answer.
func wantNotTaken(t *testing.T, host *burnish.Host, last exchange, texts ...string) {
	t.Helper()
	for _, text := range texts {
		host.Hear(text)
		if got := host.Say(); got != "" || host.State() != api.Going {
			t.Fatalf("P10: % X was taken: the host says % X, its state is %d", text, got, host.State())
		}
	}
	host.Hear(frameOf(last.asked[:3] + last.answer))
	if host.Say() == "" && host.State() == api.Going {
		t.Fatalf("P10: the answer was not taken behind % X", texts)
	}
}

func TestHostTakesOnlyItsSessionAndNumber(t *testing.T) {
	for asked := 1; asked <= 4; asked++ {
		host, last := hostAt(t, asked)
		number := int(last.asked[2])
		var texts []string
		for _, answer := range []string{last.answer, no, yes} {
			for _, session := range []int{0, 1, 5, 0x0100, 0x0104, 0x0106, 0x0501, 0x0005, 0xFFFF} {
				texts = append(texts, frameOf(request(session, number, answer[0])+answer[1:]))
			}
			for other := range 256 {
				if other != number {
					texts = append(texts, frameOf(request(0x0105, other, answer[0])+answer[1:]))
				}
			}
		}
		wantNotTaken(t, host, last, texts...)
	}
}

// All lengths, with each byte where Yes or No is to stand: but for the Yes
// that is as long as it must be, and a No alone, all is nothing.
func TestHostTakesOnlyWhatIsAsLongAsItMustBe(t *testing.T) {
	for asked := 1; asked <= 4; asked++ {
		host, last := hostAt(t, asked)
		texts := []string{frameOf(last.asked[:1]), frameOf(last.asked[:2]), frameOf(last.asked[:3])}
		for said := range 256 {
			for length := 4; length <= api.MaxFrame; length++ {
				if said == api.Yes && length == 3+len(last.answer) || said == api.No && length == 4 {
					continue
				}
				message := last.asked[:3] + string([]byte{byte(said)}) + last.answer[1:] + filled(0) + filled(0)
				texts = append(texts, frameOf(message[:length]))
			}
		}
		wantNotTaken(t, host, last, texts...)
	}
}

func TestHostTakesEachNo(t *testing.T) {
	for asked := 1; asked <= 4; asked++ {
		host, last := hostAt(t, asked)
		host.Hear(frameOf(last.asked[:3] + no))
		wantEnd(t, host, api.Failed, last.asked)
	}
}

func TestHostTakesNothingThatIsSpoilt(t *testing.T) {
	for asked := 1; asked <= 4; asked++ {
		host, last := hostAt(t, asked)
		frame := frameOf(last.asked[:3] + last.answer)
		texts := []string{"", frame[1 : len(frame)-1], "x~", "~~", "}", "}~", frame[:len(frame)-1] + "x"}
		for place := 1; place < len(frame)-1; place++ {
			spoilt := []byte(frame)
			spoilt[place] ^= 1
			texts = append(texts, string(spoilt), frame[:place]+frame[place+1:], "~"+frame[:place]+"x~")
		}
		wantNotTaken(t, host, last, texts...)
	}
}

// What a host has said itself is no answer to it, but for an OPEN, which looks
// like a Yes.
func TestHostTakesNothingThatWasAsked(t *testing.T) {
	for asked := 2; asked <= 4; asked++ {
		host, last := hostAt(t, asked)
		wantNotTaken(t, host, last, frameOf(last.asked))
	}
}

func TestHostHearsInParts(t *testing.T) {
	for asked := 1; asked <= 4; asked++ {
		_, last := hostAt(t, asked)
		frame := frameOf(last.asked[:3] + last.answer)
		for cut := range len(frame) {
			host, _ := hostAt(t, asked)
			wantNotTaken(t, host, exchange{last.asked, last.answer}, "x", frame[:cut])
			host, _ = hostAt(t, asked)
			host.Hear(frame[:cut])
			host.Tick()
			host.Hear(frame[cut:])
			if host.Say() == "" && host.State() == api.Going {
				t.Fatalf("P10: the answer was not taken, cut at %d", cut)
			}
		}
	}
}

// All answers at once, each of them doubled, with noise between: each is an
// answer to what is asked by the one ahead.
func TestHostTakesSeveralAnswersAtOnce(t *testing.T) {
	image := imageOf(11, 3)
	text := "noise"
	for _, e := range []exchange{{openOf(7, 0), yes}, {stateOf(7, 1), yes + "\x00\x08"}, {readOf(7, 2, 3), no},
		{pageOf(7, 3, 3, bytesOf(image, 3)), yes}, {readOf(7, 4, 3), yes + bytesOf(image, 3)}} {
		host := newHost(t, image, 7)
		host.Hear(text)
		wantSaid(t, host, e.asked)
		frame := frameOf(e.asked[:3] + e.answer)
		text += frame + frame + "noise" + frame[1:] + "~noise"
	}
	host := newHost(t, image, 7)
	host.Hear(text)
	wantEnd(t, host, api.Done, readOf(7, 4, 3))
}

// Behind a No that fails, a Yes to the same thing is nothing.
func TestHostThatFailedTakesNoneOfTheSameBytes(t *testing.T) {
	host := newHost(t, imageOf(12), 7)
	host.Hear(frameOf("\x00\x07\x00"+no) + frameOf("\x00\x07\x00"+yes) + frameOf("\x00\x07\x01"+yes+"\x00\x00"))
	wantEnd(t, host, api.Failed, openOf(7, 0))
}

// At each of the four things: said again behind each Patience ticks, MaxTries
// times in all; then the host fails.
func TestHostSaysAgainAndFails(t *testing.T) {
	for asked := 1; asked <= 4; asked++ {
		host, last := hostAt(t, asked)
		for try := 1; try <= api.MaxTries; try++ {
			for range api.Patience - 1 {
				host.Tick()
				wantSilence(t, host)
				wantState(t, host, api.Going)
			}
			host.Tick()
			if try < api.MaxTries {
				wantState(t, host, api.Going)
				wantSaid(t, host, last.asked)
			}
		}
		wantEnd(t, host, api.Failed, last.asked)
	}
}

func TestHostTakesAnAnswerTillTheLastTick(t *testing.T) {
	for asked := 1; asked <= 4; asked++ {
		for ticks := range api.MaxTries * api.Patience {
			host, last := hostAt(t, asked)
			for range ticks {
				host.Tick()
			}
			host.Hear(frameOf(last.asked[:3] + last.answer))
			if asked == 4 {
				wantEnd(t, host, api.Done, last.asked)
				continue
			}
			// What is asked next has its own tries and ticks.
			for range api.MaxTries*api.Patience - 1 {
				host.Tick()
				wantState(t, host, api.Going)
			}
			host.Tick()
			wantEnd(t, host, api.Failed, last.asked)
		}
	}
}

// What is nothing does not make the host more patient.
func TestHostTicksOnWhateverItHears(t *testing.T) {
	host, last := hostAt(t, 2)
	for tick := 1; tick <= api.MaxTries*api.Patience; tick++ {
		host.Hear(frameOf(openOf(0x0105, 0)) + frameOf(last.asked[:3]+last.answer+"x") + "~noise~")
		host.Tick()
		if tick%api.Patience == 0 && tick < api.MaxTries*api.Patience {
			wantSaid(t, host, last.asked)
		}
		wantSilence(t, host)
	}
	wantEnd(t, host, api.Failed, last.asked)
}

// Ticks count from when a thing is asked, not from when it is fetched.
func TestWhatIsNotFetchedCountsAsSaid(t *testing.T) {
	for fetched := range api.MaxTries * api.Patience {
		host := newHost(t, imageOf(13), 7)
		for tick := range api.MaxTries * api.Patience {
			if tick == fetched {
				wantSaid(t, host, openOf(7, 0))
			}
			wantState(t, host, api.Going)
			host.Tick()
		}
		wantEnd(t, host, api.Failed, openOf(7, 0))
	}
	host := newHost(t, imageOf(13), 7)
	for range api.MaxTries * api.Patience {
		wantState(t, host, api.Going)
		host.Tick()
	}
	wantEnd(t, host, api.Failed, openOf(7, 0))
}

// A thing that was not fetched is not said any more when it is answered.
func TestHostSaysOnlyWhatIsAskedLast(t *testing.T) {
	for ticks := range 2 * api.Patience {
		host := newHost(t, imageOf(14), 7)
		for range ticks {
			host.Tick()
		}
		host.Hear(frameOf("\x00\x07\x00" + yes))
		wantSaid(t, host, stateOf(7, 1))
	}
}

func TestLookingAtAHostChangesNothing(t *testing.T) {
	host, last := hostAt(t, 2)
	frame := frameOf(last.asked[:3] + last.answer)
	for _, part := range bytewise(frame) {
		wantState(t, host, api.Going)
		wantState(t, host, api.Going)
		host.Hear(part)
	}
	for range api.Patience {
		wantState(t, host, api.Going)
		wantState(t, host, api.Going)
		host.Tick()
	}
	wantSaid(t, host, pageOf(0x0105, 2, 3, bytesOf(imageOf(10, 3), 3)))
}

func TestHostKeepsNoImage(t *testing.T) {
	image, want := imageOf(15, 0, 3), imageOf(15, 0, 3)
	host := newHost(t, image, 7)
	if !reflect.DeepEqual(image, want) {
		t.Errorf("P2: NewHost wrote into the image")
	}
	spoil := func() {
		for i := range image.Bytes {
			image.Bytes[i] ^= 0x55
			image.Laid[i] = !image.Laid[i]
		}
	}
	spoil()
	wantTalk(t, host, api.Going, exchange{openOf(7, 0), yes}, exchange{stateOf(7, 1), yes + "\x00\x00"})
	spoil()
	wantTalk(t, host, api.Going, exchange{pageOf(7, 2, 0, bytesOf(want, 0)), yes})
	spoil()
	spoilt := copyOf(image)
	wantTalk(t, host, api.Done, exchange{readOf(7, 3, 0), yes + bytesOf(want, 0)},
		exchange{pageOf(7, 4, 3, bytesOf(want, 3)), yes}, exchange{readOf(7, 5, 3), yes + bytesOf(want, 3)})
	if !reflect.DeepEqual(image, spoilt) {
		t.Errorf("P2: a host wrote into the image")
	}
}

// Hosts of one image and one session, side by side, each at another place of
// the same talk.
func TestHostsKnowNothingOfOneAnother(t *testing.T) {
	image := imageOf(16, 3)
	talk := []exchange{{openOf(7, 0), yes}, {stateOf(7, 1), yes + "\x00\x00"},
		{pageOf(7, 2, 3, bytesOf(image, 3)), yes}, {readOf(7, 3, 3), yes + bytesOf(image, 3)}}
	var hosts []*burnish.Host
	for range talk {
		hosts = append(hosts, newHost(t, image, 7))
	}
	idle := newHost(t, image, 7)
	for step := range 2*len(talk) - 1 {
		for i, host := range slices.Backward(hosts) {
			if at := step - i; at >= 0 && at < len(talk) {
				wantSaid(t, host, talk[at].asked)
				host.Hear(frameOf(talk[at].asked[:3] + talk[at].answer))
			}
		}
	}
	for _, host := range hosts {
		wantEnd(t, host, api.Done, talk[3].asked)
	}
	wantTalk(t, idle, api.Done, talk...)
}
