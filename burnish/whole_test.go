package burnish_test

import (
	"math/rand"
	"slices"
	"testing"

	"burnish/api"
	"burnish/burnish"
)

// wire is a line that loses, doubles and spoils what is sent, and is late with
// the rest; a good one does nothing of that.
type wire struct {
	*rand.Rand
	isGood  bool
	inOrder bool
	parcels []parcel
}

type parcel struct {
	due  int
	text string
}

func (w *wire) send(now int, text string) {
	if w.isGood {
		w.parcels = append(w.parcels, parcel{now, text})
		return
	}
	for range []int{1, 1, 1, 1, 1, 2, 3, 0}[w.Intn(8)] {
		due := now + w.Intn(6)*w.Intn(3)
		if n := len(w.parcels); w.inOrder && n > 0 {
			due = max(due, w.parcels[n-1].due)
		}
		w.parcels = append(w.parcels, parcel{due, w.spoil(text)})
	}
}

func (w *wire) spoil(text string) string {
	if w.Intn(6) > 0 {
		return text
	}
	place := w.Intn(len(text))
	spoilt := []byte(text)
	switch w.Intn(3) {
	case 0:
		spoilt[place] ^= 1 << w.Intn(8)
	case 1:
		spoilt = slices.Delete(spoilt, place, place+1)
	case 2:
		spoilt = slices.Insert(spoilt, place, text[place])
	}
	return string(spoilt)
}

// arriving gives what is due, as one text; a line that is not in order brings
// it in any order.
func (w *wire) arriving(now int) string {
	if !w.isGood && !w.inOrder {
		w.Shuffle(len(w.parcels), func(i, j int) { w.parcels[i], w.parcels[j] = w.parcels[j], w.parcels[i] })
	}
	text := ""
	w.parcels = slices.DeleteFunc(w.parcels, func(p parcel) bool {
		if p.due <= now {
			text += p.text
		}
		return p.due <= now
	})
	return text
}

// world is a board, all hosts that ever speak to it, and the lines between
// them. Beside the board and each host an ear hears what they hear, to tell
// whether a spoilt message has its check by accident.
type world struct {
	*rand.Rand
	image     api.Image
	board     *burnish.Board
	boardsEar *burnish.Ear
	hosts     []*burnish.Host
	hostsEars []*burnish.Ear
	session   int // the next one
	toBoard   wire
	toHosts   wire
	said      map[string]bool // all messages
	asked     map[byte]bool   // the pages of all PAGEs
	now       int
	accident  bool
}

func newWorld(seed int64, image api.Image, inOrder bool) *world {
	random := rand.New(rand.NewSource(seed))
	return &world{
		Rand: random, image: image,
		board: burnish.NewBoard(), boardsEar: burnish.Listen(),
		toBoard: wire{Rand: random, inOrder: inOrder}, toHosts: wire{Rand: random},
		session: 0x7D00, said: map[string]bool{}, asked: map[byte]bool{},
	}
}

// beginHost gives each host a session of its own.
func (w *world) beginHost() *burnish.Host {
	host, _ := burnish.NewHost(w.image, w.session)
	w.session++
	w.hosts = append(w.hosts, host)
	w.hostsEars = append(w.hostsEars, burnish.Listen())
	return host
}

func (w *world) note(text string) {
	for _, message := range messagesOf(text) {
		w.said[message] = true
		if len(message) == 69 {
			w.asked[message[4]] = true
		}
	}
}

func (w *world) listen(ear *burnish.Ear, text string) {
	for _, message := range ear.Hear(text) {
		w.accident = w.accident || !w.said[message]
	}
}

// carry lets all hosts say what they have to say, and brings what is due.
func (w *world) carry() {
	w.now++
	for _, host := range w.hosts {
		if text := host.Say(); text != "" {
			w.note(text)
			w.toBoard.send(w.now, text)
		}
	}
	text := w.toBoard.arriving(w.now)
	w.listen(w.boardsEar, text)
	if answers := w.board.Hear(text); answers != "" {
		w.note(answers)
		w.toHosts.send(w.now, answers)
	}
	text = w.toHosts.arriving(w.now)
	for i, host := range w.hosts {
		w.listen(w.hostsEars[i], text)
		host.Hear(text)
	}
}

// disturb lets the power fail, the board boot, and hosts begin.
func (w *world) disturb() {
	if w.Intn(60) == 0 {
		w.board.Cut(w.Intn(300), w.Intn(256))
	}
	if w.Intn(100) == 0 || !w.board.On() && w.Intn(6) == 0 {
		w.board.Boot()
	}
	if w.Intn(80) == 0 || w.countOf(api.Going) == 0 {
		w.beginHost()
	}
}

func (w *world) tick() {
	for _, host := range w.hosts {
		if w.Intn(3) == 0 {
			host.Tick()
		}
	}
}

func (w *world) countOf(state int) int {
	count := 0
	for _, host := range w.hosts {
		if host.State() == state {
			count++
		}
	}
	return count
}

func (w *world) isWanted(page byte) bool {
	return slices.Contains(w.image.Laid[64*int(page):64*int(page)+64], true)
}

// check wants what P11 says of each page.
func (w *world) check(t *testing.T, isOneDone bool) {
	t.Helper()
	flash, burnt := w.board.Flash(), w.board.Burnt()
	for page := range byte(api.Pages) {
		bytes, isBurnt := flash[64*int(page):64*int(page)+64], burnt>>page&1 == 1
		switch {
		case !w.asked[page] && (bytes != filled(255) || isBurnt):
			t.Fatalf("P11: no PAGE asked for page %d, and it is % X, burnt %t", page, bytes, isBurnt)
		case isBurnt && bytes != bytesOf(w.image, page):
			t.Fatalf("P11: page %d counts as burnt with % X", page, bytes)
		case isOneDone && w.isWanted(page) && !isBurnt:
			t.Fatalf("P11: a host is done, and page %d is not burnt", page)
		}
	}
}

// run lets the world go on for so many steps, and wants P11 at each.
func (w *world) run(t *testing.T, steps int) {
	t.Helper()
	for range steps {
		w.disturb()
		w.carry()
		if w.accident {
			return
		}
		w.check(t, w.toBoard.inOrder && w.countOf(api.Done) > 0)
		w.tick()
	}
}

func randomPages(seed int64) []int {
	random := rand.New(rand.NewSource(seed))
	return random.Perm(api.Pages)[:1+random.Intn(5)]
}

func TestWhatHappensOnABadLine(t *testing.T) {
	done, failed, good, accidents := 0, 0, 0, 0
	for seed := range int64(300) {
		w := newWorld(seed, imageOf(seed, randomPages(seed)...), true)
		w.run(t, 250)
		if w.accident {
			accidents++
			continue
		}
		done += w.countOf(api.Done)
		failed += w.countOf(api.Failed)
		if w.isDoneOnAGoodLine(t) {
			good++
		}
	}
	if done < 300 || failed < 300 || good < 250 || accidents > 3 {
		t.Errorf("P11: %d are done, %d failed, %d are done on a good line, %d accidents: too little was tried", done, failed, good, accidents)
	}
}

// What comes late may come behind what was said later: pages are still burnt
// whole or not at all.
func TestWhatHappensOutOfOrder(t *testing.T) {
	for seed := range int64(300) {
		w := newWorld(seed, imageOf(seed, randomPages(seed)...), false)
		w.run(t, 250)
	}
}

// isDoneOnAGoodLine lets all that is late come, and one host more speak alone:
// it is done, if the journal has room.
func (w *world) isDoneOnAGoodLine(t *testing.T) bool {
	t.Helper()
	w.toBoard.isGood, w.toHosts.isGood = true, true
	w.hosts, w.hostsEars = nil, nil
	w.now += 100
	w.carry()
	w.board.Boot()
	host := w.beginHost()
	for range 2 + 3*api.Pages {
		w.carry()
	}
	if host.State() == api.Done {
		w.check(t, true)
		return true
	}
	wantState(t, host, api.Failed)
	w.wantNoRoom(t)
	return false
}

func (w *world) wantNoRoom(t *testing.T) {
	t.Helper()
	wantAnswer(t, w.board, openOf(1, 0), yes)
	wantAnswer(t, w.board, pageOf(1, 1, 0, bytesOf(w.image, 0)), no)
}

// longestTalk is how many ticks a host can be going: that many things are
// asked at most, each for so long.
const longestTalk = (2 + 3*api.Pages) * api.MaxTries * api.Patience

// meet lets a host and a board speak on a good line till the host ends.
func meet(host *burnish.Host, board *burnish.Board) {
	for range longestTalk {
		host.Hear(board.Hear(host.Say()))
		host.Tick()
	}
}

func wantBurntAs(t *testing.T, board *burnish.Board, image api.Image, pages ...int) {
	t.Helper()
	burnt := 0
	flash := map[int]string{}
	for _, page := range pages {
		burnt |= 1 << page
		flash[page] = bytesOf(image, byte(page))
	}
	wantBurnt(t, board, burnt)
	wantFlash(t, board, flash)
}

func TestSourceIsBurnt(t *testing.T) {
	image, errno, _ := burnish.Assemble("org 60\nstart: mov dptr,#table\nsjmp start\norg 1000\ntable: db 1,2,3\ndw start")
	if errno != api.OK {
		t.Fatalf("P4: %d", errno)
	}
	board := burnish.NewBoard()
	for session := range 3 {
		host := newHost(t, image, session)
		meet(host, board)
		wantState(t, host, api.Done)
		wantBurntAs(t, board, image, 0, 1, 15)
	}
	// Hosts that found all pages burnt left no records.
	wantAnswer(t, board, openOf(5, 0), yes)
	wantRoom(t, board, 0, 27)
}

// A board that has another image is burnt anew where that differs.
func TestAnotherImageIsBurntOverTheFirst(t *testing.T) {
	board := burnish.NewBoard()
	first, second := imageOf(20, 0, 3, 4), imageOf(21, 3, 4, 9)
	copy(second.Bytes[4*64:5*64], first.Bytes[4*64:5*64])
	for session, image := range []api.Image{first, second} {
		host := newHost(t, image, session)
		meet(host, board)
		wantState(t, host, api.Done)
	}
	wantBurnt(t, board, 1<<0|1<<3|1<<4|1<<9)
	wantFlash(t, board, map[int]string{0: bytesOf(first, 0), 3: bytesOf(second, 3), 4: bytesOf(first, 4), 9: bytesOf(second, 9)})
	wantAnswer(t, board, openOf(5, 0), yes)
	wantRoom(t, board, 0, 25)
}

// At each stroke of a host's two pages the power fails, with masks of all
// kinds; the next host burns what is missing.
func TestPowerFailsAtEachStrokeOfAHost(t *testing.T) {
	image := imageOf(22, 6, 11)
	for strokes := range 2*strokesOfPage + 1 {
		for _, mask := range []int{0, 255, 0x55, 0xAA, 0x0F, 0xFE, 0x7F, 1} {
			board := burnish.NewBoard()
			board.Cut(strokes, mask)
			host := newHost(t, image, 1)
			meet(host, board)
			if isOn := strokes == 2*strokesOfPage; board.On() != isOn || (host.State() == api.Done) != isOn {
				t.Fatalf("P11: %d strokes: on is %t, the host's state %d", strokes, board.On(), host.State())
			}
			if flash := board.Flash(); board.Burnt()>>6&1 == 1 && flash[6*64:7*64] != bytesOf(image, 6) {
				t.Fatalf("P11: %d strokes: page 6 counts as burnt with % X", strokes, flash[6*64:7*64])
			}
			board.Boot()
			host = newHost(t, image, 2)
			meet(host, board)
			wantState(t, host, api.Done)
			wantBurntAs(t, board, image, 6, 11)
		}
	}
}

// A host whose board begins anew fails: the board knows its session no more.
func TestHostFailsWhenItsBoardBoots(t *testing.T) {
	image := imageOf(23, 6)
	for steps := 1; steps < 4; steps++ {
		board, host := burnish.NewBoard(), newHost(t, image, 1)
		for range steps {
			host.Hear(board.Hear(host.Say()))
		}
		board.Boot()
		meet(host, board)
		wantState(t, host, api.Failed)
	}
}

// Of all that goes over the line, in both ways, one thing after the other is
// lost, and so often: with fewer than MaxTries the host is done.
func TestHostIsDoneThoughEachThingIsLost(t *testing.T) {
	image := imageOf(24, 6, 11)
	const things = 2 * (2 + 2*2)
	for lost := range things {
		for times := range api.MaxTries + 1 {
			board, host := burnish.NewBoard(), newHost(t, image, 1)
			losing(host, board, lost, times)
			want := api.Done
			if times == api.MaxTries {
				want = api.Failed
			}
			if host.State() != want {
				t.Fatalf("P11: thing %d is lost %d times: the host's state is %d", lost, times, host.State())
			}
			if want == api.Done {
				wantBurntAs(t, board, image, 6, 11)
			}
		}
	}
}

// losing lets them speak; of each exchange, in order, the host's message and
// the board's answer are one thing each, and one of these is lost so often.
func losing(host *burnish.Host, board *burnish.Board, lost, times int) {
	exchanges := 0
	for range longestTalk {
		said := host.Say()
		isLosing := said != "" && exchanges == lost/2 && times > 0
		if isLosing {
			times--
		}
		answer := ""
		if !isLosing || lost%2 == 1 {
			answer = board.Hear(said)
		}
		if answer != "" && !isLosing {
			host.Hear(answer)
			exchanges++
		}
		host.Tick()
	}
}
