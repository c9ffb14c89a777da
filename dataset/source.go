package dataset

import "strings"

// source is bytes that are read one behind the other. Behind the last one come
// noughts.
type source struct {
	rest string
}

func (s *source) next() int {
	if s.rest == "" {
		return 0
	}
	b := s.rest[0]
	s.rest = s.rest[1:]
	return int(b)
}

// low reads a number of some bytes, the lowest first.
func (s *source) low(bytes int) int {
	n := 0
	for i := range bytes {
		n |= s.next() << (8 * i)
	}
	return n
}

// signed reads a number of 4 bytes that may be below 0.
func (s *source) signed() int {
	return int(int32(s.low(4)))
}

// text reads so many bytes, or all that are left. It shares no memory with the
// source, which may be long.
func (s *source) text(length int) string {
	length = min(length, len(s.rest))
	t := strings.Clone(s.rest[:length])
	s.rest = s.rest[length:]
	return t
}
