package wire

const (
	maxTx     = 16383 // what seven bits and seven bits can say
	twoBytes  = 128   // from here on a number is written in two bytes
	lowerBits = 7
)

func rightTx(tx int) bool { return tx >= 1 && tx <= maxTx }

// writeTx takes right numbers only.
func writeTx(tx int) string {
	if tx < twoBytes {
		return string([]byte{byte(tx)})
	}
	return string([]byte{byte(twoBytes | tx%twoBytes), byte(tx >> lowerBits)})
}

// readTx refuses what writeTx would have written otherwise, so that no number
// is read from two different texts.
func readTx(b string) (int, bool) {
	if len(b) < 1 || len(b) > 2 {
		return 0, false
	}
	tx := int(b[0]) % twoBytes
	if len(b) == 2 {
		tx += int(b[1]) << lowerBits
	}
	return tx, rightTx(tx) && writeTx(tx) == b
}
