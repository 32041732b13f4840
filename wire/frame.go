// Package wire writes messages and records as bytes, and reads them again.
package wire

const (
	messageMark = 0x2c
	recordMark  = 0x2d

	headSize = 2 // the mark and the length
	sumSize  = 4
)

// seal puts the mark and the length ahead of the content, and the sum behind.
func seal(mark byte, content string) string {
	b := string([]byte{mark, byte(len(content))}) + content
	return b + sumBytes(b)
}

// measure tells how many of the bytes the frame at their beginning has.
func measure(b string, mark byte) (int, error) {
	switch {
	case len(b) == 0:
		return 0, at("mark", 0, ErrShort)
	case b[0] != mark:
		return 0, at("mark", 0, ErrMagic)
	case len(b) < headSize:
		return 0, at("length", 1, ErrShort)
	}
	size := headSize + int(b[1]) + sumSize
	if len(b) < size {
		return 0, at("end", len(b), ErrShort)
	}
	return size, nil
}

// open gives the content of a frame that has just its measure of bytes.
func open(frame string) (string, error) {
	end := len(frame) - sumSize
	if sumBytes(frame[:end]) != frame[end:] {
		return "", at("sum", end, ErrSum)
	}
	return frame[headSize:end], nil
}
