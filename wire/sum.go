package wire

// turnedPolynomial is 04C11DB7 with its bits turned round: with it each byte
// can be taken lowest bit first, and the result needs no turning at the end.
const turnedPolynomial = 0xedb88320

func sum(b string) uint32 {
	s := ^uint32(0)
	for i := range len(b) {
		s ^= uint32(b[i])
		for range 8 {
			low := s & 1
			s = s>>1 ^ low*turnedPolynomial
		}
	}
	return ^s
}

func sumBytes(b string) string {
	s := sum(b)
	return string([]byte{byte(s >> 24), byte(s >> 16), byte(s >> 8), byte(s)})
}
