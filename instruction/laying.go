package instruction

// laying makes an instruction's bytes, operand by operand.
type laying struct {
	code   byte
	added  []byte
	behind uint16 // the place behind the instruction
	wrong  bool   // whether an operand's number may not stand there
}

func (l *laying) nothing(int) {}

func (l *laying) register(number int) { l.code |= byte(number) }

func (l *laying) shortNumber(number int) {
	l.keepWithin(number, -128, 255)
	l.addByte(number)
}

func (l *laying) longNumber(number int) {
	l.keepWithin(number, -32768, 65535)
	l.addWord(number)
}

func (l *laying) address(number int) {
	l.keepWithin(number, 0, 255)
	l.addByte(number)
}

func (l *laying) place(place int) {
	l.keepWithin(place, 0, 65535)
	l.addWord(place)
}

func (l *laying) nearPlace(place int) {
	l.keepWithin(place, 0, 65535)
	// In 16 bits, for places wrap round.
	distance := int16(uint16(place) - l.behind)
	l.keepWithin(int(distance), -128, 127)
	l.addByte(int(distance))
}

func (l *laying) placeInPage(place int) {
	first := int(l.behind & pageBits)
	l.keepWithin(place, first, first+placesOfPage-1)
	l.code |= byte(place>>8) << 5
	l.addByte(place)
}

func (l *laying) keepWithin(number, lowest, highest int) {
	if number < lowest || number > highest {
		l.wrong = true
	}
}

func (l *laying) addByte(number int) { l.added = append(l.added, byte(number)) }

func (l *laying) addWord(number int) {
	l.addByte(number >> 8)
	l.addByte(number)
}
