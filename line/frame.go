package line

import "burnish/api"

const (
	border  = 126 // begins and ends a frame
	escape  = 125 // says that the byte behind it is written otherwise
	changed = 32  // by which the byte behind an escape differs from what is meant
)

// Frame gives the frame of a message: ErrBytes, if that has not 1 to MaxFrame
// bytes.
func Frame(message string) (string, api.Errno) {
	if len(message) < 1 || len(message) > api.MaxFrame {
		return "", api.ErrBytes
	}
	frame := []byte{border}
	for _, b := range checked(message) {
		frame = appendWritten(frame, b)
	}
	return string(append(frame, border)), api.OK
}

func appendWritten(frame []byte, b byte) []byte {
	if needsEscape(b) {
		return append(frame, escape, b^changed)
	}
	return append(frame, b)
}

func needsEscape(b byte) bool { return b == border || b == escape }
