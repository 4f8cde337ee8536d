package burnish_test

import (
	"math/rand"
	"slices"
	"testing"

	"burnish/api"
	"burnish/burnish"
)

// hostTwin is a second reading of P9 and P10: it goes through the whole talk
// from its beginning each time, with the answers that it has.
type hostTwin struct {
	image   api.Image
	session int
	text    string   // all that it has heard
	answers []string // that were taken
	ticks   int      // since the last one
	said    int      // which of the tries was fetched, from 1 on
}

// asking gives the message whose answer is missing, or the state in which the
// talk ends.
func (w *hostTwin) asking() (string, int) {
	number := 0
	missing := ""
	ask := func(what byte, rest ...byte) (string, bool) {
		if number == len(w.answers) {
			missing = request(w.session, number, what, rest...)
			return "", false
		}
		number++
		return w.answers[number-1], true
	}
	state, isTold := w.talk(ask)
	if !isTold {
		return missing, api.Going
	}
	return "", state
}

// talk is P9 as it stands there; it breaks off where an answer is missing.
func (w *hostTwin) talk(ask func(what byte, rest ...byte) (string, bool)) (int, bool) {
	for _, what := range []byte{api.Open, api.State} {
		if answer, ok := ask(what); !ok || answer == no {
			return api.Failed, ok
		}
	}
	burnt := int(w.answers[1][1])*256 + int(w.answers[1][2])
	for page := range byte(api.Pages) {
		if !slices.Contains(w.image.Laid[64*int(page):64*int(page)+64], true) {
			continue
		}
		wanted := bytesOf(w.image, page)
		if burnt>>page&1 == 1 {
			answer, ok := ask(api.Read, page)
			if !ok {
				return api.Failed, false
			}
			if answer == yes+wanted {
				continue
			}
		}
		if answer, ok := ask(api.Page, append([]byte{page}, wanted...)...); !ok || answer == no {
			return api.Failed, ok
		}
		if answer, ok := ask(api.Read, page); !ok || answer != yes+wanted {
			return api.Failed, ok
		}
	}
	return api.Done, true
}

func (w *hostTwin) state() int {
	if w.ticks >= api.MaxTries*api.Patience {
		return api.Failed
	}
	_, state := w.asking()
	return state
}

func (w *hostTwin) say() string {
	try := 1 + w.ticks/api.Patience
	if w.state() != api.Going || try == w.said {
		return ""
	}
	w.said = try
	missing, _ := w.asking()
	return frameOf(missing)
}

func (w *hostTwin) tick() {
	if w.state() == api.Going {
		w.ticks++
	}
}

func (w *hostTwin) hear(bytes string) {
	messages := messagesOf(w.text + bytes)[len(messagesOf(w.text)):]
	w.text += bytes
	for _, message := range messages {
		asked, _ := w.asking()
		if w.state() == api.Going && isAnswerTo(asked, message) {
			w.answers = append(w.answers, message[3:])
			w.ticks, w.said = 0, 0
		}
	}
}

func isAnswerTo(asked, message string) bool {
	if len(message) < 4 || message[:3] != asked[:3] {
		return false
	}
	length := map[byte]int{1: 4, 2: 4, 3: 68, 4: 6}[asked[3]]
	return message[3:] == no || message[3:4] == yes && len(message) == length
}

// answerer makes what a host hears: mostly a right answer, and all that may go
// wrong.
type answerer struct {
	*rand.Rand
	image api.Image
}

func (a *answerer) answer(asked string) string {
	message := asked[:3]
	switch {
	case a.Intn(40) == 0:
		message += no
	case asked[3] == api.State:
		message += yes + string([]byte{byte(a.Intn(256)), byte(a.Intn(256))})
	case asked[3] == api.Read && a.Intn(8) == 0:
		message += []string{no, yes + filled('x')}[a.Intn(2)]
	case asked[3] == api.Read:
		message += yes + bytesOf(a.image, asked[4])
	default:
		message += yes
	}
	changed := []byte(message)
	switch a.Intn(20) {
	case 0:
		changed[a.Intn(4)] ^= 1
	case 1:
		changed = append(changed, 0)
	case 2:
		changed = changed[:len(changed)-1]
	case 3:
		changed[2]++
	}
	return string(changed)
}

// text gives some answers, now and then with a byte that is spoilt, and its
// end left for the next time.
func (a *answerer) text(asked string) (string, string) {
	text := "noise~"
	for range a.Intn(3) {
		text += frameOf(a.answer(asked))
	}
	if a.Intn(8) == 0 {
		spoilt := []byte(text)
		spoilt[a.Intn(len(spoilt))] ^= 1 << a.Intn(8)
		text = string(spoilt)
	}
	cut := len(text)
	if a.Intn(3) == 0 {
		cut = a.Intn(len(text))
	}
	return text[:cut], text[cut:]
}

func TestHostDoesAsItsTwin(t *testing.T) {
	ends := map[int]int{}
	for seed := range int64(400) {
		random := rand.New(rand.NewSource(seed))
		image := imageOf(seed, random.Perm(api.Pages)[:random.Intn(6)]...)
		a := &answerer{random, image}
		session := random.Intn(65536)
		host, second := newHost(t, image, session), &hostTwin{image: image, session: session}
		rest := ""
		for range 150 {
			if asked, _ := second.asking(); asked != "" && random.Intn(2) == 0 {
				said, left := a.text(asked)
				said, rest = rest+said, left
				host.Hear(said)
				second.hear(said)
			}
			if random.Intn(3) == 0 {
				host.Tick()
				second.tick()
			}
			if random.Intn(2) == 0 {
				if got, want := host.Say(), second.say(); got != want {
					t.Fatalf("P10: run %d: the host says % X, want % X", seed, got, want)
				}
			}
			if host.State() != second.state() {
				t.Fatalf("P9: run %d: state %d, want %d, behind % X", seed, host.State(), second.state(), second.answers)
			}
		}
		ends[host.State()]++
	}
	if ends[api.Done] < 50 || ends[api.Failed] < 50 {
		t.Errorf("P9: too few ended: %v", ends)
	}
}

// With nothing but odd texts the host ends by its ticks alone.
func TestHostEndsWhateverItHears(t *testing.T) {
	for _, text := range oddTexts() {
		host, _ := burnish.NewHost(oddImages()[0], 1)
		for tick := range api.MaxTries * api.Patience {
			if host.State() != api.Going {
				t.Fatalf("P10: behind %d ticks the state is %d", tick, host.State())
			}
			host.Hear(text)
			host.Say()
			host.Tick()
		}
		wantEnd(t, host, api.Failed, openOf(1, 0))
	}
}
