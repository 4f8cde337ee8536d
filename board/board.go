// Package board: a board that burns the pages that it is asked to burn, and
// tells which of them are burnt whole, however often its power fails.
package board

import (
	"strings"

	"burnish/line"
)

// Board has a store, which outlasts a failing power, and a talk, which does
// not.
type Board struct {
	isOn  bool
	power power
	store store
	talk  talk
}

// talk is what a board knows of those who speak to it.
type talk struct {
	ear     line.Ear
	isOpen  bool
	session uint16
	number  byte   // the last one
	answer  string // to the last number, as a frame
}

// New gives a board that is on, with nothing burnt.
func New() Board { return Board{isOn: true, store: newStore()} }

// Hear gives the frames of all answers to the messages that are whole by these
// bytes, as far as the power lasts.
func (b *Board) Hear(bytes string) (answers string) {
	if !b.isOn {
		return ""
	}
	var frames strings.Builder
	defer func() {
		caught := recover()
		if caught == nil {
			return
		}
		if _, isOwn := caught.(failure); !isOwn {
			panic(caught)
		}
		b.begin(false)
		answers = frames.String()
	}()
	for _, message := range b.talk.ear.Hear(bytes) {
		frames.WriteString(b.answer(message))
	}
	return frames.String()
}

// begin lets the board be on or off, and forget all but its store.
func (b *Board) begin(isOn bool) {
	b.isOn = isOn
	b.power = power{}
	b.talk = talk{}
}

// Cut lets the power fail behind so many strokes.
func (b *Board) Cut(strokes, mask int) {
	if b.isOn {
		b.power = cutBehind(strokes, mask)
	}
}

// Boot lets the board be on, whether it was or not.
func (b *Board) Boot() { b.begin(true) }

// On tells whether the board is on.
func (b *Board) On() bool { return b.isOn }

// Flash gives the bytes of all pages.
func (b *Board) Flash() string { return b.store.bytes() }

// Burnt has a bit of each page that is burnt, page 0 the lowest.
func (b *Board) Burnt() int { return int(b.store.burntPages()) }
