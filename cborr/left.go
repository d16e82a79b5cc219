package cborr

import (
	"strconv"
	"strings"

	"targum/api"
	"targum/head"
)

// fault is what is wrong with bytes, by the error that is told of it.
type fault struct{ errno api.Errno }

func (f fault) Error() string {
	return "cborr: error " + strconv.Itoa(int(f.errno))
}

// firstOf answers the fault of the first error that is one; none, if all is well.
func firstOf(errnos ...api.Errno) error {
	for _, e := range errnos {
		if e != api.OK {
			return fault{e}
		}
	}
	return nil
}

// The infos of major 7 that are a node each, the one of simple ones in a byte of their own, the least and the greatest one of floats, and the open one of any major.
const (
	infoFalse   = 20
	infoTrue    = 21
	infoNull    = 22
	infoByte    = 24
	infoFloat16 = 25
	infoFloat64 = 27
	infoOpen    = 31
)

// leastByte is the least number of a simple one that stands in a byte of its own.
const leastByte = 32

// end is the byte that ends what is open.
const end = "\xff"

// heading is what a head says.
type heading struct {
	major int
	info  int
	arg   uint64
}

func (h heading) isOpen() bool {
	return h.info == infoOpen
}

// begins tells whether there are items that begin with the head.
func (h heading) begins() bool {
	switch h.major {
	case api.MajorOther:
		if h.info == infoByte && h.arg < leastByte {
			return false
		}
		fallthrough
	case api.MajorPlus, api.MajorMinus, api.MajorTag:
		return !h.isOpen()
	}
	return true
}

// left is what is not read yet.
type left struct{ s string }

// ends takes the byte that ends what is open off; false, if it does not stand there.
func (l *left) ends() bool {
	behind, ok := strings.CutPrefix(l.s, end)
	l.s = behind
	return ok
}

// heading takes a head off.
func (l *left) heading() (heading, error) {
	major, info, arg, behind, e := head.Read(l.s)
	if e == api.ErrHead {
		e = api.ErrCbor
	}
	if err := firstOf(e); err != nil {
		return heading{}, err
	}
	l.s = behind
	return heading{major, info, arg}, nil
}

// take takes as many bytes off as are asked for.
func (l *left) take(count uint64) (string, error) {
	if count > uint64(len(l.s)) {
		return "", fault{api.ErrMore}
	}
	taken := l.s[:count]
	l.s = l.s[count:]
	return taken, nil
}

// nothing answers ErrCbor, if there is something left.
func (l *left) nothing() api.Errno {
	if l.s != "" {
		return api.ErrCbor
	}
	return api.OK
}
