package board

// power lasts for ever in its zero value: no cut lies ahead.
type power struct {
	isCut   bool
	strokes int  // that are left till it fails
	mask    byte // of the bits that the failing stroke changes all the same
}

// failure is what a board gives up with when its power fails, wherever it is;
// only Hear sees it.
type failure struct{}

// cutBehind gives a power that fails behind so many strokes.
func cutBehind(strokes, mask int) power {
	return power{isCut: true, strokes: max(strokes, 0), mask: byte(mask)}
}

func (p *power) erase(cell *byte) { p.stroke(cell, erased) }

func (p *power) burn(cell *byte, with byte) { p.stroke(cell, *cell&with) }

// stroke makes a byte what it is to be, or leaves it between both and gives
// up.
func (p *power) stroke(cell *byte, wanted byte) {
	if !p.isCut {
		*cell = wanted
		return
	}
	if p.strokes == 0 {
		*cell ^= (*cell ^ wanted) & p.mask
		panic(failure{})
	}
	p.strokes--
	*cell = wanted
}
