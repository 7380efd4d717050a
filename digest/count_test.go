package digest

import (
	"encoding/hex"
	"math"
	"testing"
)

// behindTwoTo32 is a state to which 2^32 bytes 0 were written, as far as a
// later block needs them.
func behindTwoTo32() *State {
	return &State{
		change: [8]uint32{
			0x1d53dbb9, 0x72ed45ab, 0x84a9d63d, 0xb77b48cd, 0x86f343d3, 0xf38ba06b, 0x9a68b4f1, 0xc4c327d2,
		},
		size: 1 << 32,
	}
}

// The highest 32 bits of the number of bytes are 0 in whatever a test can write
// in passing.
func TestTheHighestBitsOfTheNumberCount(t *testing.T) {
	s := behindTwoTo32()
	for _, x := range []struct {
		b, want string
		size    uint64
	}{
		{"behind", "36389e6a17a8335ab7647fdde2478d029d22b886a88faf792d1a537ddd4168f6", 1<<32 + 6},
		{string(make([]byte, 64)), "e43f71468bde10cfc564cc281575778faf7113ee9cda4658dd13e24a51a31e4b", 1<<32 + 70},
	} {
		s.Write([]byte(x.b))
		d := s.Sum()
		if got := hex.EncodeToString(d[:]); got != x.want || s.Len() != x.size {
			t.Errorf("%d bytes: got %s, %d bytes", x.size, got, s.Len())
		}
	}
}

func TestLenIsTakenModuloTwoTo64(t *testing.T) {
	s := &State{size: math.MaxUint64}
	s.Write([]byte("abc"))
	if s.Len() != 2 {
		t.Errorf("got %d", s.Len())
	}
}
