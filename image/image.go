// Package image makes, checks and lists images.
package image

import "burnish/api"

// Size is how many bytes an image has.
const Size = api.Pages * api.PageSize

// Blank gives an image in which nothing is laid.
func Blank() api.Image {
	blank := api.Image{
		Bytes:  make([]byte, Size),
		Laid:   make([]bool, Size),
		Starts: make([]bool, Size),
	}
	for i := range blank.Bytes {
		blank.Bytes[i] = 255
	}
	return blank
}

// IsWhole tells whether an image has all its bytes, and what there is to know
// of each.
func IsWhole(i api.Image) bool {
	return len(i.Bytes) == Size && len(i.Laid) == Size && len(i.Starts) == Size
}
