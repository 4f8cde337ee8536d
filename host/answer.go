package host

import (
	"strings"

	"burnish/api"
)

const callerSize = 3 // bytes: the session and the number, with which an answer begins, too

// answer is what stands behind the session and the number.
type answer struct {
	isYes bool
	bytes string
}

// answerTo reads a message as the answer to what was asked, if it is that.
func answerTo(asked, message string) (answer, bool) {
	text, isTo := strings.CutPrefix(message, asked[:callerSize])
	if !isTo || text == "" {
		return answer{}, false
	}
	said, bytes := text[0], text[1:]
	switch {
	case said == api.Yes && len(bytes) == sizeOfYes(asked[callerSize]):
		return answer{true, bytes}, true
	case said == api.No && bytes == "":
		return answer{}, true
	}
	return answer{}, false
}

// sizeOfYes tells how many bytes stand behind a Yes.
func sizeOfYes(what byte) int {
	switch what {
	case api.Read:
		return api.PageSize
	case api.State:
		return api.Pages / 8
	}
	return 0
}
