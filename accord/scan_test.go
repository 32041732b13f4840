package accord_test

import (
	"slices"
	"strings"
	"testing"

	"accord/accord"
	"accord/api"
)

func scans(t *testing.T, b string, want []api.Record, size int) {
	t.Helper()
	if got, n := accord.Scan(b); !slices.Equal(got, want) || n != size {
		t.Errorf("Scan(%x) = %v, %d; want %v, %d", b, got, n, want, size)
	}
}

func someRecords() []api.Record {
	var all []api.Record
	for kind := api.Began; kind <= api.Ended; kind++ {
		for _, tx := range edgeTxs {
			all = append(all, api.Record{Kind: kind, Tx: tx})
		}
	}
	return all
}

func TestScanExamples(t *testing.T) {
	scans(t, "", nil, 0)
	scans(t, summed("\x2d\x02\x01\x01"), []api.Record{{Kind: api.Began, Tx: 1}}, 8)
	scans(t, summed("\x2d\x02\x02\x7f"), []api.Record{{Kind: api.Prepared, Tx: 127}}, 8)
	scans(t, summed("\x2d\x03\x03\x80\x01"), []api.Record{{Kind: api.Committed, Tx: 128}}, 9)
	scans(t, summed("\x2d\x03\x04\xac\x02"), []api.Record{{Kind: api.Aborted, Tx: 300}}, 9)
	scans(t, summed("\x2d\x03\x05\xff\x7f"), []api.Record{{Kind: api.Ended, Tx: 16383}}, 9)
}

func TestScanOfEveryRecord(t *testing.T) {
	var all []api.Record
	for kind := api.Began; kind <= api.Ended; kind++ {
		for tx := 1; tx <= 16383; tx++ {
			all = append(all, api.Record{Kind: kind, Tx: tx})
		}
	}
	s := logText(all...)
	if got, n := accord.Scan(s); !slices.Equal(got, all) || n != len(s) {
		t.Errorf("Scan of every record: %d records, %d bytes; want %d, %d", len(got), n, len(all), len(s))
	}
}

// The same record may stand in a log more than once.
func TestScanOfRepeatedRecords(t *testing.T) {
	r := api.Record{Kind: api.Prepared, Tx: 4}
	scans(t, logText(r, r, r), []api.Record{r, r, r}, 24)
}

func TestScanCutShort(t *testing.T) {
	all := someRecords()
	s := logText(all...)
	n, whole := 0, 0
	for i := range len(s) + 1 {
		if n < len(all) && whole+len(recordText(all[n])) == i {
			whole = i
			n++
		}
		scans(t, s[:i], all[:n], whole)
	}
}

func TestScanOfTurnedBytes(t *testing.T) {
	all := someRecords()[8:13]
	s := logText(all...)
	n, whole := 0, 0
	for i := range len(s) {
		if whole+len(recordText(all[n])) == i {
			whole = i
			n++
		}
		for turned := 1; turned < 256; turned++ {
			x := []byte(s)
			x[i] ^= byte(turned)
			scans(t, string(x), all[:n], whole)
		}
	}
}

// What stands behind the last whole record is not read, be it as whole as may be.
func TestScanStopsAtWrongRecords(t *testing.T) {
	first := []api.Record{{Kind: api.Began, Tx: 1}, {Kind: api.Committed, Tx: 300}}
	start := logText(first...)
	wrong := []string{
		"\x00", "\x2d", noise(5, 40), "\x2d\x00\x00\x00\x00\x00", "\x2d\xff" + noise(6, 258),
		messageText(api.Message{Kind: api.Prepare, To: 1, Tx: 1}), framed(0x2c, "\x01\x01"), framed(0x2e, "\x01\x01"),
	}
	for _, content := range []string{
		"", "\x01", "\x00\x01", "\x06\x01", "\xff\x01",
		"\x01\x00", "\x01\x80", "\x01\xff",
		"\x01\x80\x00", "\x01\x85\x00", "\x01\x05\x00", "\x01\x05\x05", "\x01\x7f\x01",
		"\x01\x80\x80", "\x01\xff\xff", "\x01\x80\x80\x01", "\x01\x80\x01\x00",
		"\x01\x00\x02\x05", noise(7, 255),
	} {
		wrong = append(wrong, framed(0x2d, content))
	}
	for _, w := range wrong {
		scans(t, w, nil, 0)
		scans(t, w+start, nil, 0)
		scans(t, start+w, first, len(start))
		scans(t, start+w+start, first, len(start))
	}
}

func TestScanReadsOnlyWhatIsWrittenOfRecords(t *testing.T) {
	for _, content := range contents("\x00\x01\x02\x05\x06\x7f\x80\x81\xff", 4) {
		b := framed(0x2d, content)
		records, n := accord.Scan(b)
		if len(records) == 0 && n == 0 {
			continue
		}
		if n != len(b) || logText(records...) != b {
			t.Fatalf("Scan(%x) = %v, %d", b, records, n)
		}
	}
}

func TestScanOfAnything(t *testing.T) {
	for size := range 600 {
		for seed := range uint32(8) {
			s := noise(seed*983+uint32(size), size)
			for _, b := range []string{s, "\x2d" + s, "\x2d\x02" + s, "\x2d\x03" + s} {
				scans(t, b, nil, 0)
			}
		}
	}
	for _, b := range contents("\x00\x01\x02\x2c\x2d\xff", 6) {
		scans(t, b, nil, 0)
	}
	scans(t, strings.Repeat("\x2d", 1<<20), nil, 0)
}

// A caller may write on what it was given, up to the capacity, and changes no
// other answer by it.
func TestScanGivesNewMemory(t *testing.T) {
	all := someRecords()[:5]
	for n := range len(all) + 1 {
		want := all[:n]
		s := logText(want...) + "\x2d"
		first, _ := accord.Scan(s)
		second, _ := accord.Scan(s)
		room := first[:cap(first)]
		for i := range room {
			room[i] = api.Record{Kind: -1, Tx: -1}
		}
		if !slices.Equal(second, want) {
			t.Errorf("writing on one answer changed another: %v, want %v", second, want)
		}
		for i, r := range second[:cap(second)] {
			if r == (api.Record{Kind: -1, Tx: -1}) {
				t.Errorf("the answers share the element %d", i)
			}
		}
		scans(t, s, want, len(logText(want...)))
	}
}
