package host

import "burnish/api"

// ask makes a message, and keeps what is to be done with its answer.
func (h *Host) ask(number, what byte, rest string, take func(answer)) {
	head := []byte{byte(h.session >> 8), byte(h.session), number, what}
	h.asked = string(head) + rest
	h.take = take
	h.tries = 0
	h.say()
}

func (h *Host) askNext(what byte, rest string, take func(answer)) {
	h.ask(h.asked[callerSize-1]+1, what, rest, take)
}

func (h *Host) askPage() {
	h.askNext(api.Page, h.left[0].name()+h.left[0].bytes, h.takePage)
}

func (h *Host) askRead(take func(answer)) {
	h.askNext(api.Read, h.left[0].name(), take)
}

// goOn asks for the first page that is left, or is done.
func (h *Host) goOn() {
	switch {
	case len(h.left) == 0:
		h.end(api.Done)
	case h.left[0].isIn(h.burnt):
		h.askRead(h.takeFound)
	default:
		h.askPage()
	}
}

func (h *Host) takeOpen(a answer) {
	if !a.isYes {
		h.end(api.Failed)
		return
	}
	h.askNext(api.State, "", h.takeState)
}

func (h *Host) takeState(a answer) {
	if !a.isYes {
		h.end(api.Failed)
		return
	}
	h.burnt = uint16(a.bytes[0])<<8 | uint16(a.bytes[1])
	h.goOn()
}

func (h *Host) takePage(a answer) {
	if !a.isYes {
		h.end(api.Failed)
		return
	}
	h.askRead(h.takeBurnt)
}

// takeFound takes the answer to a READ without a PAGE ahead of it: there is
// still the way to burn the page.
func (h *Host) takeFound(a answer) {
	if !h.left[0].isRead(a) {
		h.askPage()
		return
	}
	h.endPage()
}

// takeBurnt takes the answer to a READ behind a PAGE.
func (h *Host) takeBurnt(a answer) {
	if !h.left[0].isRead(a) {
		h.end(api.Failed)
		return
	}
	h.endPage()
}

func (h *Host) endPage() {
	h.left = h.left[1:]
	h.goOn()
}
