package instruction

import "testing"

func TestNoCodeStandsTwice(t *testing.T) {
	for code := range 256 {
		count := 0
		for _, r := range rows() {
			if byte(code)&^r.free == r.code {
				count++
			}
		}
		want := 1
		if code == 0xA5 {
			want = 0
		}
		if count != want {
			t.Errorf("P3: code %02X stands in %d rows, want %d", code, count, want)
		}
	}
}

func TestOperandsHaveNamesOfKinds(t *testing.T) {
	kinds := kindsByName()
	for _, r := range rows() {
		_, operands := r.parts(r.code, kinds)
		for _, o := range operands {
			if _, known := kinds[o.name]; !known {
				t.Errorf("P3: %q: %q is no kind", r.text, o.name)
			}
		}
	}
}

func TestEveryKindHasItsWay(t *testing.T) {
	if len(kindsByName()) != int(kindCount) {
		t.Errorf("P3: %d names for %d kinds", len(kindsByName()), kindCount)
	}
	for k, w := range ways() {
		if w.adds == nil || w.read == nil || w.written == nil {
			t.Errorf("P3: kind %d has no way", k)
		}
	}
}
