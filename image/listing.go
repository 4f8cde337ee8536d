package image

import (
	"burnish/api"
	"burnish/instruction"
)

// Listing gives a line for each place where an instruction begins.
func Listing(i api.Image) ([]string, api.Errno) {
	if !IsWhole(i) {
		return nil, api.ErrImage
	}
	var lines []string
	for at, starts := range i.Starts {
		if starts {
			lines = append(lines, line(i, at))
		}
	}
	return lines, api.OK
}

func line(i api.Image, at int) string {
	text, size := instruction.Decode(laidFrom(i, at), at)
	if size == 0 {
		text = "?"
	}
	return instruction.Hex(uint16(at), 4) + " " + text
}

// laidFrom gives the bytes from a place on as far as they are laid, no more
// than an instruction can have.
func laidFrom(i api.Image, at int) string {
	end := at
	for end < Size && end < at+instruction.MaxSize && i.Laid[end] {
		end++
	}
	return string(i.Bytes[at:end])
}
