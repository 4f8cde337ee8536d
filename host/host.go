// Package host: a host that lets a board burn the pages of an image, and reads
// them all, over a line that may lose what is said.
package host

import (
	"burnish/api"
	"burnish/image"
	"burnish/line"
)

// Host asks for one thing after the other. Its take belongs to the host at
// this address, so that a host is not to be copied.
type Host struct {
	state   int
	session uint16
	left    []page // that were not read as they are wanted yet, in order
	burnt   uint16 // a bit of each page that was burnt by the board's State
	ear     line.Ear
	asked   string       // the message that was asked last
	take    func(answer) // does what follows from its answer; nil, if none is waited for
	isSaid  bool
	tries   int // how often it was asked or said again
	ticks   int // since then
}

// Begin lets a new host ask for the first thing.
func (h *Host) Begin(i api.Image, session int) api.Errno {
	if !image.IsWhole(i) {
		return api.ErrImage
	}
	h.session = uint16(session)
	h.left = wantedPages(i)
	h.ask(0, api.Open, "", h.takeOpen)
	return api.OK
}

// Say gives the frame that is to be sent now, once.
func (h *Host) Say() string {
	if h.take == nil || h.isSaid {
		return ""
	}
	h.isSaid = true
	frame, _ := line.Frame(h.asked)
	return frame
}

// Hear takes each answer to what is asked last by then: what is asked by one
// message may be answered by the next.
func (h *Host) Hear(bytes string) {
	for _, message := range h.ear.Hear(bytes) {
		if h.take == nil {
			return
		}
		if a, ok := answerTo(h.asked, message); ok {
			h.take(a)
		}
	}
}

// Tick says again what was not answered for too long, but not for ever.
func (h *Host) Tick() {
	if h.take == nil {
		return
	}
	h.ticks++
	switch {
	case h.ticks < api.Patience:
	case h.tries < api.MaxTries:
		h.say()
	default:
		h.end(api.Failed)
	}
}

// State tells whether the host is going, done or failed.
func (h *Host) State() int { return h.state }

// say counts as a try, whether it is fetched or not.
func (h *Host) say() {
	h.isSaid = false
	h.tries++
	h.ticks = 0
}

func (h *Host) end(state int) {
	h.state = state
	h.take = nil
}
