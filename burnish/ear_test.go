package burnish_test

import (
	"math/rand"
	"slices"
	"strings"
	"testing"

	"burnish/api"
	"burnish/burnish"
)

// messagesOf reads a whole text at once: what stands between two borders is a
// message or nothing, whatever stands beside it.
func messagesOf(text string) []string {
	var messages []string
	pieces := strings.Split(text, "~")
	for i := 1; i < len(pieces)-1; i++ {
		if message, ok := messageOf(pieces[i]); ok {
			messages = append(messages, message)
		}
	}
	return messages
}

func messageOf(piece string) (string, bool) {
	parts := strings.Split(piece, "}")
	text := parts[0]
	for _, part := range parts[1:] {
		switch {
		case strings.HasPrefix(part, "^"):
			text += "~" + part[1:]
		case strings.HasPrefix(part, "]"):
			text += "}" + part[1:]
		default:
			return "", false
		}
	}
	if len(text) < 3 || len(text) > api.MaxFrame+2 {
		return "", false
	}
	message := text[:len(text)-2]
	return message, checkOf(message) == text[len(text)-2:]
}

// wantHeard lets one ear hear all at once, one byte by byte, and one in two
// parts, cut at every place.
func wantHeard(t *testing.T, text string, want ...string) {
	t.Helper()
	if got := burnish.Listen().Hear(text); !slices.Equal(got, want) {
		t.Errorf("P6: of % X is heard % X, want % X", text, got, want)
	}
	if got := slices.Concat(hearParts(bytewise(text))...); !slices.Equal(got, want) {
		t.Errorf("P6: of % X is heard, byte by byte, % X, want % X", text, got, want)
	}
	for cut := range len(text) {
		if got := slices.Concat(hearParts([]string{text[:cut], "", text[cut:]})...); !slices.Equal(got, want) {
			t.Errorf("P6: of % X, cut at %d, is heard % X, want % X", text, cut, got, want)
		}
	}
}

// bytewise splits by bytes: strings.Split would keep some of them together.
func bytewise(text string) []string {
	parts := make([]string, len(text))
	for i := range parts {
		parts[i] = text[i : i+1]
	}
	return parts
}

func hearParts(parts []string) [][]string {
	ear := burnish.Listen()
	heard := make([][]string, len(parts))
	for i, part := range parts {
		heard[i] = ear.Hear(part)
	}
	return heard
}

func TestEarHearsFrames(t *testing.T) {
	one, two := frameOf("one"), frameOf("two")
	wantHeard(t, "")
	wantHeard(t, one, "one")
	wantHeard(t, one+two, "one", "two")
	wantHeard(t, one+one, "one", "one")
	wantHeard(t, one+two[1:], "one", "two")
	wantHeard(t, "~~~"+one+"~~~"+two+"~~", "one", "two")
	wantHeard(t, frameOf("\x00"), "\x00")
	wantHeard(t, frameOf("\x7E\x7D\x5E\x5D"), "\x7E\x7D\x5E\x5D")
	wantHeard(t, frameOf("^]"), "^]")
}

func TestEarHearsWhatFrameMakes(t *testing.T) {
	random := rand.New(rand.NewSource(7))
	ear := burnish.Listen()
	for length := 1; length <= api.MaxFrame; length++ {
		for range 20 {
			message := make([]byte, length)
			random.Read(message)
			frame, _ := burnish.Frame(string(message))
			if got := ear.Hear(frame); !slices.Equal(got, []string{string(message)}) {
				t.Fatalf("P6: of the frame of % X is heard % X", message, got)
			}
		}
	}
}

func TestEarTakesNothingAheadOfTheFirstBorder(t *testing.T) {
	one, two := frameOf("one"), frameOf("two")
	wantHeard(t, one[1:])
	wantHeard(t, one[1:]+two, "two")
	wantHeard(t, one[1:]+two[1:], "two")
	wantHeard(t, "noise"+one, "one")
	wantHeard(t, "}"+one, "one")
	wantHeard(t, strings.Repeat("x", 500)+one, "one")
}

func TestEarTakesNothingThatHasNoEnd(t *testing.T) {
	one := frameOf("one")
	wantHeard(t, one[:len(one)-1])
	wantHeard(t, one[:len(one)-1]+"x")
	wantHeard(t, one[:3]+one, "one")
	wantHeard(t, one[:len(one)-2]+one, "one")
}

// Of no bytes the check is FF FF.
func TestEarTakesNothingThatIsTooShort(t *testing.T) {
	one := frameOf("one")
	wantHeard(t, "~\xFF\xFF~")
	wantHeard(t, "~\xFF~")
	wantHeard(t, "~~")
	wantHeard(t, "~\xFF\xFF~\xFF~~"+one, "one")
}

func TestEarTakesNothingThatIsTooLong(t *testing.T) {
	one := frameOf("one")
	for _, letter := range []string{"x", "~", "}"} {
		longest := strings.Repeat(letter, api.MaxFrame)
		wantHeard(t, frameOf(longest)+one, longest, "one")
		for _, length := range []int{81, 82, 83, 84, 162, 300} {
			wantHeard(t, frameOf(strings.Repeat(letter, length))+one, "one")
		}
	}
	// The last bytes of one that is too long are no message, though their
	// check is right; nor are the first ones.
	wantHeard(t, "~"+strings.Repeat("x", 82)+one[1:])
	wantHeard(t, one[:len(one)-1]+strings.Repeat("x", 90)+"~"+one, "one")
}

// What is spoilt by a 125 would have its check, were the byte behind it taken.
func TestEarTakesNothingThatAnEscapeSpoils(t *testing.T) {
	check := checkOf("one")
	for follower := range 256 {
		if follower == 93 || follower == 94 {
			continue
		}
		message := string([]byte{'o', byte(follower ^ 32), 'e'})
		wantHeard(t, "~o}"+string([]byte{byte(follower)})+"e"+checkOf(message)+"~")
	}
	wantHeard(t, "~}"+frameOf("one"), "one")
	wantHeard(t, "~one"+check+"}~")
	wantHeard(t, "~one"+check+"}~"+frameOf("two")[1:], "two")
	wantHeard(t, "~o}}ne"+check+"~")
	wantHeard(t, "~o}}^ne"+checkOf("o~ne")+"~")
	wantHeard(t, "~o}}]ne"+checkOf("o}ne")+"~")
	wantHeard(t, "~}xone"+check+"~")
	wantHeard(t, "~}x"+frameOf("one"), "one")
}

// Where an ear has as many bytes as it may, what is behind them still counts.
func TestEarTakesNothingWithAnEscapeBehindTheLongest(t *testing.T) {
	longest := strings.Repeat("x", api.MaxFrame)
	wantHeard(t, "~"+longest+checkOf(longest)+"}~"+frameOf("one"), "one")
	wantHeard(t, "~"+longest+checkOf(longest)+"}^~"+frameOf("one"), "one")
}

func TestEarTakesNothingWithAnotherCheck(t *testing.T) {
	text := "one" + checkOf("one")
	for place := range len(text) {
		for bit := range 8 {
			spoilt := []byte(text)
			spoilt[place] ^= 1 << bit
			wantHeard(t, "~"+escapes.Replace(string(spoilt))+"~"+frameOf("two"), "two")
		}
	}
	check := checkOf("one")
	wantHeard(t, "~one"+check[1:]+check[:1]+"~")
}

// Each part gives what is whole by it, not earlier and not again.
func TestEarGivesMessagesWhenTheyAreWhole(t *testing.T) {
	one, two := frameOf("one"), frameOf("two")
	heard := hearParts([]string{one[:2], one[2:4], one[4:] + two[1:3], two[3 : len(two)-1], "~" + one + two, "", "~"})
	want := [][]string{{}, {}, {"one"}, {}, {"two", "one", "two"}, {}, {}}
	for i := range want {
		if !slices.Equal(heard[i], want[i]) {
			t.Errorf("P6: part %d: % X, want % X", i, heard[i], want[i])
		}
	}
}

func TestEarOnABadLine(t *testing.T) {
	random := rand.New(rand.NewSource(8))
	for range 3000 {
		text := badLine(random)
		ear := burnish.Listen()
		for begin := 0; begin < len(text); {
			end := begin + 1 + random.Intn(len(text)-begin)
			want := messagesOf(text[:end])[len(messagesOf(text[:begin])):]
			if got := ear.Hear(text[begin:end]); !slices.Equal(got, want) {
				t.Fatalf("P6: of % X, from %d to %d is heard % X, want % X", text, begin, end, got, want)
			}
			begin = end
		}
	}
}

// badLine gives frames of which bytes are lost, doubled and spoilt, mostly by
// those that mean something.
func badLine(random *rand.Rand) string {
	const signs = "~}^]\x00\xFF"
	var text []byte
	for range 1 + random.Intn(6) {
		message := make([]byte, 1+random.Intn(api.MaxFrame+4))
		for i := range message {
			message[i] = signs[random.Intn(len(signs))]
		}
		text = append(text, frameOf(string(message))...)
	}
	for range random.Intn(5) {
		place := random.Intn(len(text))
		switch random.Intn(3) {
		case 0:
			text = slices.Delete(text, place, place+1)
		case 1:
			text = slices.Insert(text, place, text[place])
		case 2:
			text[place] = signs[random.Intn(len(signs))]
		}
	}
	return string(text)
}

func TestEarsKnowNothingOfOneAnother(t *testing.T) {
	one, two := frameOf("one"), frameOf("two")
	first, second := burnish.Listen(), burnish.Listen()
	first.Hear(one[:3])
	if got := second.Hear(two[3:]); len(got) != 0 {
		t.Errorf("P2: an ear heard % X of what another one began", got)
	}
	second.Hear(two[:4])
	if got := first.Hear(one[3:]); !slices.Equal(got, []string{"one"}) {
		t.Errorf("P2: heard % X, and another ear beside it", got)
	}
	if got := second.Hear(two[4:]); !slices.Equal(got, []string{"two"}) {
		t.Errorf("P2: heard % X, and another ear ahead of it", got)
	}
}

func TestEarsListsAreNewMemory(t *testing.T) {
	ear := burnish.Listen()
	text := strings.Repeat(frameOf("one"), 5)
	first := ear.Hear(text)
	spare := first[:cap(first)]
	second := ear.Hear(text)
	for i := range spare {
		spare[i] = "spoilt"
	}
	want := slices.Repeat([]string{"one"}, 5)
	if third := ear.Hear(text); !slices.Equal(second, want) || !slices.Equal(third, want) {
		t.Errorf("P2: what was written into a list is seen in others: %q, %q", second, third)
	}
}
