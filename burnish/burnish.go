// Package burnish: programs for a small board, assembled, sent over a bad line, and burnt: see DOC.md.
package burnish

import (
	"burnish/api"
	"burnish/assembler"
	"burnish/board"
	"burnish/host"
	"burnish/image"
	"burnish/instruction"
	"burnish/line"
)

// Decode tells the instruction with which bytes begin (P3).
func Decode(code string, at int) (string, int) { return instruction.Decode(code, at) }

// Assemble makes an image out of a source (P4).
func Assemble(source string) (api.Image, api.Errno, int) { return assembler.Assemble(source) }

// Listing lists an image's instructions (P5).
func Listing(i api.Image) ([]string, api.Errno) { return image.Listing(i) }

// Frame makes a frame of a message (P6).
func Frame(message string) (string, api.Errno) { return line.Frame(message) }

// Ear hears frames.
type Ear struct{ ear line.Ear }

// Listen gives an ear that has heard nothing.
func Listen() *Ear { return new(Ear) }

// Hear gives the messages that are whole (P6).
func (e *Ear) Hear(bytes string) []string { return e.ear.Hear(bytes) }

// Board burns pages.
type Board struct{ board board.Board }

// NewBoard gives a board without a program (P7).
func NewBoard() *Board { return &Board{board.New()} }

// Hear answers messages (P7).
func (b *Board) Hear(bytes string) string { return b.board.Hear(bytes) }

// Cut lets the power fail (P8).
func (b *Board) Cut(strokes int, mask int) { b.board.Cut(strokes, mask) }

// Boot lets the board begin (P8).
func (b *Board) Boot() { b.board.Boot() }

// On tells whether the board is on (P8).
func (b *Board) On() bool { return b.board.On() }

// Flash tells all bytes (P8).
func (b *Board) Flash() string { return b.board.Flash() }

// Burnt tells which pages are burnt (P8).
func (b *Board) Burnt() int { return b.board.Burnt() }

// Host sends an image.
type Host struct{ host host.Host }

// NewHost begins to send an image (P9).
func NewHost(i api.Image, session int) (*Host, api.Errno) {
	h := new(Host)
	if errno := h.host.Begin(i, session); errno != api.OK {
		return nil, errno
	}
	return h, api.OK
}

// Say tells what is to be sent (P10).
func (h *Host) Say() string { return h.host.Say() }

// Hear takes answers (P10).
func (h *Host) Hear(bytes string) { h.host.Hear(bytes) }

// Tick says that time has passed (P10).
func (h *Host) Tick() { h.host.Tick() }

// State tells how far the host is (P9).
func (h *Host) State() int { return h.host.State() }
