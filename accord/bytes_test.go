package accord_test

import (
	"hash/crc32"
	"math"
	"strings"

	"accord/api"
)

// The tests write all bytes by means of their own, so that a fault which
// writing and reading have in common is met too.

var edgeTxs = []int{1, 2, 126, 127, 128, 129, 255, 256, 300, 16256, 16382, 16383}

var wrongTxs = []int{0, -1, -127, 16384, 16385, 1<<16 + 1, 1<<32 + 1, math.MinInt, math.MinInt + 1, math.MaxInt}

func summed(s string) string {
	c := crc32.ChecksumIEEE([]byte(s))
	return s + string([]byte{byte(c >> 24), byte(c >> 16), byte(c >> 8), byte(c)})
}

func framed(mark byte, content string) string {
	return summed(string([]byte{mark, byte(len(content))}) + content)
}

func txText(tx int) string {
	if tx < 128 {
		return string([]byte{byte(tx)})
	}
	return string([]byte{128 + byte(tx&127), byte(tx / 128)})
}

func messageText(m api.Message) string {
	return framed(0x2c, string([]byte{byte(m.Kind), byte(m.From), byte(m.To)})+txText(m.Tx))
}

func recordText(r api.Record) string {
	return framed(0x2d, string([]byte{byte(r.Kind)})+txText(r.Tx))
}

func logText(records ...api.Record) string {
	var b strings.Builder
	for _, r := range records {
		b.WriteString(recordText(r))
	}
	return b.String()
}

func rightMessages() []api.Message {
	var all []api.Message
	for kind := api.Prepare; kind <= api.Inquire; kind++ {
		for from := 0; from <= api.MaxNodes; from++ {
			for to := 0; to <= api.MaxNodes; to++ {
				for _, tx := range edgeTxs {
					all = append(all, api.Message{Kind: kind, From: from, To: to, Tx: tx})
				}
			}
		}
	}
	for tx := 1; tx <= 16383; tx++ {
		all = append(all, api.Message{Kind: api.Ack, From: 3, To: 0, Tx: tx})
	}
	return all
}

// noise gives bytes that look like chance but are the same in every run.
func noise(seed uint32, size int) string {
	b := make([]byte, size)
	for i := range b {
		seed = seed*1664525 + 1013904223
		b[i] = byte(seed >> 24)
	}
	return string(b)
}

// contents gives all texts of up to most of these bytes.
func contents(of string, most int) []string {
	all := []string{""}
	for from := 0; most > 0; most-- {
		end := len(all)
		for ; from < end; from++ {
			for i := range len(of) {
				all = append(all, all[from]+of[i:i+1])
			}
		}
	}
	return all
}
