package wire

import (
	"errors"
	"strings"
	"testing"

	"accord/api"
)

func TestSum(t *testing.T) {
	if s := sum("123456789"); s != 0xcbf43926 {
		t.Errorf("sum = %08x", s)
	}
	if s := sumBytes("123456789"); s != "\xcb\xf4\x39\x26" {
		t.Errorf("sum in bytes = %x", s)
	}
	if s := sum(""); s != 0 {
		t.Errorf("sum of nothing = %08x", s)
	}
}

// met fails unless the error is the fault, met at that part.
func met(t *testing.T, err, fault error, part string, offset int) {
	t.Helper()
	var place *PartError
	if !errors.Is(err, fault) || !errors.As(err, &place) {
		t.Fatalf("%v; want %v", err, fault)
	}
	if place.Part != part || place.Offset != offset {
		t.Errorf("%v; want it met at %s, %d", err, part, offset)
	}
	if !strings.Contains(err.Error(), part) || !strings.Contains(err.Error(), fault.Error()) {
		t.Errorf("%q tells neither part nor fault", err.Error())
	}
}

func TestWriteMessageTellsWhatIsWrong(t *testing.T) {
	for _, c := range []struct {
		m      api.Message
		part   string
		offset int
	}{
		{api.Message{Kind: 8, From: 7, To: 7, Tx: 0}, "kind", 2},
		{api.Message{Kind: 1, From: 7, To: 7, Tx: 0}, "sender", 3},
		{api.Message{Kind: 1, From: 6, To: 7, Tx: 0}, "receiver", 4},
		{api.Message{Kind: 1, From: 6, To: 6, Tx: 0}, "transaction", 5},
	} {
		b, err := WriteMessage(c.m)
		if b != "" {
			t.Errorf("WriteMessage(%v) = %x", c.m, b)
		}
		met(t, err, ErrValue, c.part, c.offset)
	}
}

func TestReadMessageTellsWhereItWasMet(t *testing.T) {
	right := seal(messageMark, "\x01\x00\x02\x05")
	for _, c := range []struct {
		b      string
		fault  error
		part   string
		offset int
	}{
		{"", ErrShort, "mark", 0},
		{"\x2d", ErrMagic, "mark", 0},
		{"\x2c", ErrShort, "length", 1},
		{right[:7], ErrShort, "end", 7},
		{right + "\x00", ErrMore, "end", len(right)},
		{right[:6] + "\x00\x00\x00\x00", ErrSum, "sum", 6},
		{seal(messageMark, "\x01\x00"), ErrForm, "content", 2},
		{seal(messageMark, "\x08\x00\x02\x05"), ErrForm, "kind", 2},
		{seal(messageMark, "\x01\x07\x02\x05"), ErrForm, "sender", 3},
		{seal(messageMark, "\x01\x00\x07\x05"), ErrForm, "receiver", 4},
		{seal(messageMark, "\x01\x00\x02\x00"), ErrForm, "transaction", 5},
	} {
		m, err := ReadMessage(c.b)
		if m != (api.Message{}) {
			t.Errorf("ReadMessage(%x) = %v", c.b, m)
		}
		met(t, err, c.fault, c.part, c.offset)
	}
}

func TestReadLogTellsWhereItWasMet(t *testing.T) {
	right := seal(recordMark, "\x01\x05")
	for _, c := range []struct {
		behind string
		fault  error
		part   string
		offset int
	}{
		{"\x2c", ErrMagic, "mark", 0},
		{right[:1], ErrShort, "length", 1},
		{right[:5], ErrShort, "end", 5},
		{right[:4] + "\x00\x00\x00\x00", ErrSum, "sum", 4},
		{seal(recordMark, ""), ErrForm, "content", 2},
		{seal(recordMark, "\x06\x05"), ErrForm, "kind", 2},
		{seal(recordMark, "\x01\x00"), ErrForm, "transaction", 3},
	} {
		records, err := ReadLog(right + right + c.behind)
		if len(records) != 2 {
			t.Errorf("with %x behind: %v", c.behind, records)
		}
		var broken *LogError
		if !errors.As(err, &broken) || broken.Whole != 2*len(right) {
			t.Fatalf("with %x behind: %v", c.behind, err)
		}
		met(t, err, c.fault, c.part, c.offset)
	}
	if records, err := ReadLog(right + right); len(records) != 2 || err != nil {
		t.Errorf("a whole log: %v, %v", records, err)
	}
}

func TestWriteRecord(t *testing.T) {
	for _, c := range []struct {
		r    api.Record
		want string
	}{
		{api.Record{Kind: api.Began, Tx: 1}, "\x2d\x02\x01\x01"},
		{api.Record{Kind: api.Prepared, Tx: 40}, "\x2d\x02\x02\x28"},
		{api.Record{Kind: api.Committed, Tx: 127}, "\x2d\x02\x03\x7f"},
		{api.Record{Kind: api.Aborted, Tx: 300}, "\x2d\x03\x04\xac\x02"},
		{api.Record{Kind: api.Ended, Tx: 16383}, "\x2d\x03\x05\xff\x7f"},
	} {
		want := c.want + sumBytes(c.want)
		if b := WriteRecord(c.r); b != want {
			t.Errorf("WriteRecord(%v) = %x; want %x", c.r, b, want)
		}
		if records, err := ReadLog(want); len(records) != 1 || records[0] != c.r || err != nil {
			t.Errorf("ReadLog(%x) = %v, %v; want %v", want, records, err, c.r)
		}
	}
}
