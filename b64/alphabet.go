package b64

import "targum/api"

// mostLetters is how many the greatest alphabet has.
const mostLetters = 64

// alphabet is letters, each for a number of width binary digits: as many of the array as there are such numbers.
type alphabet struct {
	width   uint
	letters [mostLetters]rune
}

func sixtyFour() alphabet {
	return alphabet{width: 6, letters: [mostLetters]rune{
		'A', 'B', 'C', 'D', 'E', 'F', 'G', 'H', 'I', 'J', 'K', 'L', 'M', 'N', 'O', 'P', 'Q', 'R', 'S', 'T', 'U', 'V', 'W', 'X', 'Y', 'Z',
		'a', 'b', 'c', 'd', 'e', 'f', 'g', 'h', 'i', 'j', 'k', 'l', 'm', 'n', 'o', 'p', 'q', 'r', 's', 't', 'u', 'v', 'w', 'x', 'y', 'z',
		'0', '1', '2', '3', '4', '5', '6', '7', '8', '9', '-', '_',
	}}
}

func sixteen() alphabet {
	return alphabet{width: 4, letters: [mostLetters]rune{
		'0', '1', '2', '3', '4', '5', '6', '7', '8', '9', 'a', 'b', 'c', 'd', 'e', 'f',
	}}
}

// lettersFor answers how many letters that many bytes have.
func (a alphabet) lettersFor(bytes int) int {
	return (bytes*byteWidth + int(a.width) - 1) / int(a.width)
}

// write answers the letters of bytes.
func (a alphabet) write(s string) (string, api.Errno) {
	if len(s) > api.MaxCode {
		return "", api.ErrCode
	}
	r := reader{from: byteWidth, to: a.width}
	out := make([]byte, 0, a.lettersFor(len(s)))
	for n := range r.digits([]byte(s)...) {
		out = append(out, byte(a.letters[n]))
	}
	if r.count > 0 {
		out = append(out, byte(a.letters[r.fill(a.width)]))
	}
	return string(out), api.OK
}

// read answers the bytes of letters.
func (a alphabet) read(s string) (string, api.Errno) {
	// Held against the limit first: a text that is too long is refused without a look into it.
	if len(s) > a.lettersFor(api.MaxCode) {
		return "", api.ErrCode
	}
	numbers, ok := a.numbers(s)
	if !ok {
		return "", api.ErrCode
	}
	r := reader{from: a.width, to: byteWidth}
	out := make([]byte, 0, len(s))
	for n := range r.digits(numbers...) {
		out = append(out, n)
	}
	// What is left only made the last letter full: a whole letter would not have been written, nor anything but 0.
	if r.count >= a.width || r.held != 0 {
		return "", api.ErrCode
	}
	return string(out), api.OK
}

// numbers answers those that the letters of a text stand for; false, if one of its characters is no letter.
func (a alphabet) numbers(s string) ([]byte, bool) {
	out := make([]byte, 0, len(s))
letters:
	for _, c := range s {
		for n := range 1 << a.width {
			if a.letters[n] == c {
				out = append(out, byte(n))
				continue letters
			}
		}
		return nil, false
	}
	return out, true
}
