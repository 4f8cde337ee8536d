package assembler

const million = 1000000

// term is a name's value, the place ($), or a number.
type term struct {
	minus  bool
	name   string
	here   bool
	number int
}

type expression []term

func (t term) value(names map[string]int, place int) int {
	switch {
	case t.name != "":
		return names[t.name]
	case t.here:
		return place
	}
	return t.number
}

// value adds up the terms; false, if it goes beyond a million on the way.
func (e expression) value(names map[string]int, place int) (int, bool) {
	sum := 0
	for _, t := range e {
		if t.minus {
			sum -= t.value(names, place)
		} else {
			sum += t.value(names, place)
		}
		if sum < -million || sum > million {
			return 0, false
		}
	}
	return sum, true
}
