package head

import "iter"

// How many binary digits a byte has, and how many of a head's first byte are the info's.
const (
	byteBits = 8
	infoBits = 5
)

// The infos that are not their own argument: those of arguments in 1, 2, 4 and 8 bytes, three that make no head, and the open one.
const (
	info1 = 24 + iota
	info2
	info4
	info8
	_
	_
	_
	infoOpen
)

// size is one of heads: the info, and how many bytes the argument has behind the first one.
type size struct {
	info  int
	bytes int
}

// sizes are those of heads whose argument has bytes of its own, the fewest first.
var sizes = [4]size{{info1, 1}, {info2, 2}, {info4, 4}, {info8, 8}}

// ascending goes through the sizes, from the fewest bytes on.
func ascending() iter.Seq[size] {
	return func(yield func(size) bool) {
		for _, z := range sizes {
			if !yield(z) {
				return
			}
		}
	}
}

// shortest answers the size of an argument's shortest head.
func shortest(arg uint64) size {
	if arg < info1 {
		return size{info: int(arg)}
	}
	var found size
search:
	for z := range ascending() {
		if z.hasRoom(arg) {
			found = z
			break search
		}
	}
	return found
}

// told answers the size of heads of an info; false, if it makes none.
func told(info int) (size, bool) {
	if info < info1 || info == infoOpen {
		return size{info: info}, true
	}
	var found size
	known := false
search:
	for z := range ascending() {
		if z.info == info {
			found, known = z, true
			break search
		}
	}
	return found, known
}

// whole answers how many bytes a head has, the first one among them.
func (z size) whole() int {
	return 1 + z.bytes
}

// hasRoom tells whether an argument can stand in the bytes.
func (z size) hasRoom(arg uint64) bool {
	return arg>>(byteBits*z.bytes) == 0
}

// split answers the bytes that an argument has behind the first one, the greatest one first.
func (z size) split(arg uint64) []byte {
	out := make([]byte, z.bytes)
	for i := range out {
		out[i] = byte(arg >> (byteBits * (z.bytes - 1 - i)))
	}
	return out
}

// argument answers the one of a head that has these bytes behind the first one; an open head has none, thus 0.
func (z size) argument(behind ...byte) uint64 {
	if z.info < info1 {
		return uint64(z.info)
	}
	arg := uint64(0)
	for _, b := range behind {
		arg = arg<<byteBits | uint64(b)
	}
	return arg
}

// parts answers the major and the info of a first byte.
func parts(first byte) (int, int) {
	return int(first >> infoBits), int(first & (1<<infoBits - 1))
}

// firstOf answers the first byte of a major and an info.
func firstOf(major, info int) byte {
	return byte(major<<infoBits | info)
}
