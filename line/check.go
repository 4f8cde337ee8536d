// Package line: frames, as they go over the line, and ears that hear them.
package line

const (
	checkStart = 65535
	checkMix   = 4129
	checkSize  = 2 // bytes of a check
)

// Check gives the check of bytes (CRC-16).
func Check(bytes []byte) uint16 {
	check := uint16(checkStart)
	for _, b := range bytes {
		check ^= uint16(b) << 8
		for range 8 {
			check = doubled(check)
		}
	}
	return check
}

func doubled(check uint16) uint16 {
	if check >= 32768 {
		return check<<1 ^ checkMix
	}
	return check << 1
}

// checked gives new bytes: those of the message, and its check.
func checked(message string) []byte {
	check := Check([]byte(message))
	return append([]byte(message), byte(check>>8), byte(check))
}

// hasCheck tells whether the bytes are a message of one byte or more with its
// check at the end.
func hasCheck(bytes []byte) bool {
	end := len(bytes) - checkSize
	if end < 1 {
		return false
	}
	return Check(bytes[:end]) == uint16(bytes[end])<<8|uint16(bytes[end+1])
}
