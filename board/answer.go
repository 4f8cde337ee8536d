package board

import (
	"burnish/api"
	"burnish/line"
)

const (
	callerSize = 3 // bytes: the session and the number, with which an answer begins, too
	headSize   = callerSize + 1
)

const (
	yes = string(rune(api.Yes))
	no  = string(rune(api.No))
)

// isAsking tells whether a message asks for something there is, and is as long
// as that.
func isAsking(message string) bool {
	if len(message) < headSize {
		return false
	}
	switch rest := len(message) - headSize; message[callerSize] {
	case api.Open, api.State:
		return rest == 0
	case api.Page:
		return rest == 1+api.PageSize
	case api.Read:
		return rest == 1
	}
	return false
}

// answer gives the frame of the answer to a message, or nothing.
func (b *Board) answer(message string) string {
	if !isAsking(message) {
		return ""
	}
	session := uint16(message[0])<<8 | uint16(message[1])
	number, asked := message[2], message[3]
	switch {
	case asked == api.Open:
		b.talk.isOpen, b.talk.session = true, session
	case !b.talk.isOpen || session != b.talk.session:
		return ""
	case number == b.talk.number:
		return b.talk.answer
	case number != b.talk.number+1:
		return ""
	}
	b.talk.number = number
	b.talk.answer, _ = line.Frame(message[:callerSize] + b.do(asked, message[headSize:]))
	return b.talk.answer
}

// do gives what stands in an answer behind the session and the number.
func (b *Board) do(asked byte, rest string) string {
	switch asked {
	case api.Page:
		return b.doPage(rest[0], rest[1:])
	case api.Read:
		return b.doRead(rest[0])
	case api.State:
		pages := b.store.burntPages()
		return yes + string([]byte{byte(pages >> 8), byte(pages)})
	}
	return yes
}

func (b *Board) doPage(number byte, bytes string) string {
	if !isPage(number) || b.store.room() < recordsOfPage {
		return no
	}
	b.store.burnPage(number, bytes, &b.power)
	return yes
}

func (b *Board) doRead(number byte) string {
	if !isPage(number) || !b.store.isBurnt(number) {
		return no
	}
	return yes + string(b.store.pages[number][:])
}
