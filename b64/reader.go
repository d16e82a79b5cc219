package b64

import "iter"

// byteWidth is how many binary digits a byte has.
const byteWidth = 8

// bits are binary digits that have come in and not gone out: the last count ones of held, whose others are 0.
type bits struct {
	held  uint32
	count uint
}

// put takes a number of width digits in, behind those that are held.
func (b *bits) put(n byte, width uint) {
	b.held = b.held<<width | uint32(n)
	b.count += width
}

// take hands out the first width digits, which must be there.
func (b *bits) take(width uint) byte {
	b.count -= width
	n := b.held >> b.count
	b.held &= 1<<b.count - 1
	return byte(n)
}

// fill hands out all that is held, less than width digits, with 0 for what is missing.
func (b *bits) fill(width uint) byte {
	b.put(0, width-b.count)
	return b.take(width)
}

// reader reads numbers of one width as numbers of another one.
type reader struct {
	bits
	from, to uint
}

// digits goes through those that the numbers make up, the greatest ones first; what is too little for one more stays held.
func (r *reader) digits(numbers ...byte) iter.Seq[byte] {
	return func(yield func(byte) bool) {
		for _, n := range numbers {
			r.put(n, r.from)
			for r.count >= r.to {
				if !yield(r.take(r.to)) {
					return
				}
			}
		}
	}
}
