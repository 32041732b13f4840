package accord_test

import (
	"math"
	"testing"

	"accord/accord"
	"accord/api"
)

func refuses(t *testing.T, b string, want api.Errno) {
	t.Helper()
	if m, e := accord.Decode(b); m != (api.Message{}) || e != want {
		t.Errorf("Decode(%x) = %v, %d; want nothing, %d", b, m, e, want)
	}
}

func TestEncodeExamples(t *testing.T) {
	for _, c := range []struct {
		m    api.Message
		want string
	}{
		{api.Message{Kind: api.Prepare, From: 0, To: 2, Tx: 5}, "\x2c\x04\x01\x00\x02\x05"},
		{api.Message{Kind: api.Prepare, From: 0, To: 2, Tx: 300}, "\x2c\x05\x01\x00\x02\xac\x02"},
		{api.Message{Kind: api.Yes, From: 1, To: 0, Tx: 1}, "\x2c\x04\x02\x01\x00\x01"},
		{api.Message{Kind: api.No, From: 6, To: 6, Tx: 127}, "\x2c\x04\x03\x06\x06\x7f"},
		{api.Message{Kind: api.Commit, From: 0, To: 6, Tx: 128}, "\x2c\x05\x04\x00\x06\x80\x01"},
		{api.Message{Kind: api.Inquire, From: 6, To: 0, Tx: 16383}, "\x2c\x05\x07\x06\x00\xff\x7f"},
	} {
		if b, e := accord.Encode(c.m); b != summed(c.want) || e != api.OK {
			t.Errorf("Encode(%v) = %x, %d; want %x", c.m, b, e, summed(c.want))
		}
	}
}

func TestEncodeAndDecodeRightMessages(t *testing.T) {
	for _, m := range rightMessages() {
		want := messageText(m)
		if b, e := accord.Encode(m); b != want || e != api.OK {
			t.Fatalf("Encode(%v) = %x, %d; want %x", m, b, e, want)
		}
		if got, e := accord.Decode(want); got != m || e != api.OK {
			t.Fatalf("Decode(%x) = %v, %d; want %v", want, got, e, m)
		}
	}
}

func TestEncodeRefusesWrongMessages(t *testing.T) {
	right := api.Message{Kind: api.Yes, From: 1, To: 2, Tx: 3}
	var wrong []api.Message
	for _, kind := range []int{0, 8, -1, 257, 1<<32 + 1, math.MinInt, math.MaxInt} {
		m := right
		m.Kind = kind
		wrong = append(wrong, m)
	}
	for _, node := range []int{-1, 7, 256, 1 << 32, math.MinInt, math.MaxInt} {
		m, n := right, right
		m.From, n.To = node, node
		wrong = append(wrong, m, n)
	}
	for _, tx := range wrongTxs {
		m := right
		m.Tx = tx
		wrong = append(wrong, m)
	}
	wrong = append(wrong, api.Message{}, api.Message{Kind: -1, From: -1, To: -1, Tx: -1})
	for _, m := range wrong {
		if b, e := accord.Encode(m); b != "" || e != api.ErrValue {
			t.Errorf("Encode(%v) = %x, %d; want nothing, %d", m, b, e, api.ErrValue)
		}
	}
}

func TestDecodeShort(t *testing.T) {
	refuses(t, "", api.ErrShort)
	for _, tx := range edgeTxs {
		b := messageText(api.Message{Kind: api.Prepare, From: 0, To: api.MaxNodes, Tx: tx})
		for i := range len(b) {
			refuses(t, b[:i], api.ErrShort)
		}
	}
	refuses(t, "\x2c\xff"+noise(1, 255+3), api.ErrShort)
}

func TestDecodeMagic(t *testing.T) {
	b := messageText(api.Message{Kind: api.Prepare, To: 1, Tx: 1})
	for mark := range 256 {
		if mark == 0x2c {
			continue
		}
		head := string([]byte{byte(mark)})
		refuses(t, head, api.ErrMagic)
		refuses(t, head+b[1:], api.ErrMagic)
		refuses(t, framed(byte(mark), "\x01\x00\x01\x01"), api.ErrMagic)
		refuses(t, framed(byte(mark), "\x01\x00\x01\x01")+"\x00", api.ErrMagic)
	}
	refuses(t, recordText(api.Record{Kind: api.Began, Tx: 1}), api.ErrMagic)
}

func TestDecodeMore(t *testing.T) {
	for _, tx := range edgeTxs {
		b := messageText(api.Message{Kind: api.Inquire, From: 1, Tx: tx})
		for _, behind := range []string{"\x00", "\x2c", b, noise(2, 300)} {
			refuses(t, b+behind, api.ErrMore)
		}
	}
}

func TestDecodeSum(t *testing.T) {
	for _, tx := range edgeTxs {
		b := messageText(api.Message{Kind: api.Commit, From: 0, To: 3, Tx: tx})
		for i := 2; i < len(b); i++ {
			for turned := 1; turned < 256; turned++ {
				x := []byte(b)
				x[i] ^= byte(turned)
				refuses(t, string(x), api.ErrSum)
			}
		}
	}
	refuses(t, "\x2c\x00\x00\x00\x00\x00", api.ErrSum)
}

func TestDecodeForm(t *testing.T) {
	for _, content := range []string{
		"", "\x01", "\x01\x00", "\x01\x00\x02",
		"\x00\x00\x02\x05", "\x08\x00\x02\x05", "\xff\x00\x02\x05",
		"\x01\x07\x02\x05", "\x01\xff\x02\x05", "\x01\x00\x07\x05", "\x01\x00\xff\x05",
		"\x01\x00\x02\x00", "\x01\x00\x02\x80", "\x01\x00\x02\xff",
		"\x01\x00\x02\x80\x00", "\x01\x00\x02\x85\x00", "\x01\x00\x02\xff\x00",
		"\x01\x00\x02\x05\x00", "\x01\x00\x02\x05\x05", "\x01\x00\x02\x7f\x01",
		"\x01\x00\x02\x80\x80", "\x01\x00\x02\xff\xff", "\x01\x00\x02\x80\x81",
		"\x01\x00\x02\x80\x80\x01", "\x01\x00\x02\x80\x01\x00", noise(3, 255),
	} {
		refuses(t, framed(0x2c, content), api.ErrForm)
	}
}

// Each input has the fault that is asked for and some that P3 names behind it.
func TestDecodeOrderOfErrors(t *testing.T) {
	refuses(t, "\x00", api.ErrMagic)
	refuses(t, "\x2d\xff\x00", api.ErrMagic)
	refuses(t, "\x2d\x00\x00\x00\x00\x00\x00", api.ErrMagic)
	refuses(t, "\x2c", api.ErrShort)
	refuses(t, "\x2c\x00\x00\x00\x00", api.ErrShort)
	refuses(t, "\x2c\x04\x00\x00\x00\x00\x00\x00\x00", api.ErrShort)
	refuses(t, "\x2c\x00\x00\x00\x00\x00\x00", api.ErrMore)
	refuses(t, framed(0x2c, "")+"\x00", api.ErrMore)
	refuses(t, "\x2c\x04\x00\x00\x00\x00\x00\x00\x00\x00", api.ErrSum)
	refuses(t, framed(0x2c, "\x00\x00\x00\x00"), api.ErrForm)
}

// What is read must be just what is written: no message has two texts.
func TestDecodeReadsOnlyWhatEncodeWrites(t *testing.T) {
	for _, content := range contents("\x00\x01\x05\x06\x07\x08\x7f\x80\x81\xff", 5) {
		b := framed(0x2c, content)
		m, e := accord.Decode(b)
		switch e {
		case api.OK:
			if messageText(m) != b {
				t.Fatalf("Decode(%x) = %v, which is written %x", b, m, messageText(m))
			}
			if again, e := accord.Encode(m); again != b || e != api.OK {
				t.Fatalf("Decode(%x) = %v, of which Encode = %x, %d", b, m, again, e)
			}
		case api.ErrForm:
			if m != (api.Message{}) {
				t.Fatalf("Decode(%x) = %v with an error", b, m)
			}
		default:
			t.Fatalf("Decode(%x) = %v, %d", b, m, e)
		}
	}
}

func TestDecodeOfAnything(t *testing.T) {
	for size := range 600 {
		for seed := range uint32(8) {
			s := noise(seed*977+uint32(size), size)
			for _, b := range []string{s, "\x2c" + s, "\x2c\x04" + s, "\x2c\x05" + s} {
				if m, e := accord.Decode(b); e == api.OK || m != (api.Message{}) {
					t.Fatalf("Decode(%x) = %v, %d", b, m, e)
				}
			}
		}
	}
	for _, b := range contents("\x00\x01\x04\x2c\x2d\xff", 6) {
		if m, e := accord.Decode(b); e == api.OK || m != (api.Message{}) {
			t.Fatalf("Decode(%x) = %v, %d", b, m, e)
		}
	}
}

// turn fails if any way of turning these bytes, of many, leaves a message that is read.
func turn(t *testing.T, b string, start, size int) {
	t.Helper()
	try := func(turned string) {
		x := []byte(b)
		for i := range size {
			x[start+i] ^= turned[i]
		}
		if m, e := accord.Decode(string(x)); string(x) != b && (e == api.OK || m != (api.Message{})) {
			t.Fatalf("Decode(%x) = %v, %d; it was %x", x, m, e, b)
		}
	}
	for _, turned := range contents("\x00\x01\x80\xff", size) {
		if len(turned) == size {
			try(turned)
		}
	}
	for seed := range uint32(300) {
		try(noise(seed*31+uint32(start), size))
	}
}

func TestTurnedBytesThatStandTogetherAreNotRead(t *testing.T) {
	for _, m := range []api.Message{
		{Kind: api.Prepare, From: 0, To: 2, Tx: 5},
		{Kind: api.Prepare, From: 0, To: 2, Tx: 300},
		{Kind: api.Ack, From: 6, To: 0, Tx: 127},
		{Kind: api.Inquire, From: 1, To: 0, Tx: 16383},
	} {
		b := messageText(m)
		sum := len(b) - 4
		for size := 1; size <= 4; size++ {
			for start := 0; start+size <= sum; start++ {
				turn(t, b, start, size)
			}
			for start := sum; start+size <= len(b); start++ {
				turn(t, b, start, size)
			}
		}
	}
	// Every way to turn two.
	b := messageText(api.Message{Kind: api.Commit, From: 0, To: 1, Tx: 1})
	for start := range 5 {
		for turned := 1; turned < 1<<16; turned++ {
			x := []byte(b)
			x[start] ^= byte(turned)
			x[start+1] ^= byte(turned >> 8)
			if m, e := accord.Decode(string(x)); e == api.OK || m != (api.Message{}) {
				t.Fatalf("Decode(%x) = %v, %d; it was %x", x, m, e, b)
			}
		}
	}
}
