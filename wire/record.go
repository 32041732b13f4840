package wire

import "accord/api"

const recordTxPlace = kindPlace + 1

// WriteRecord takes right records only: none comes from outside the program.
func WriteRecord(r api.Record) string {
	return seal(recordMark, string([]byte{byte(r.Kind)})+writeTx(r.Tx))
}

// ReadLog reads records from the beginning of the bytes. If the last whole one
// does not end them, the error is a LogError; the records are told all the same.
func ReadLog(b string) ([]api.Record, error) {
	var records []api.Record
	whole := 0
	for whole < len(b) {
		r, size, err := readRecord(b[whole:])
		if err != nil {
			return records, &LogError{Whole: whole, Err: err}
		}
		records = append(records, r)
		whole += size
	}
	return records, nil
}

// readRecord reads the record at the beginning, and tells how many bytes it has.
func readRecord(b string) (api.Record, int, error) {
	size, err := measure(b, recordMark)
	if err != nil {
		return api.Record{}, 0, err
	}
	content, err := open(b[:size])
	if err != nil {
		return api.Record{}, 0, err
	}
	r, err := readRecordContent(content)
	if err != nil {
		return api.Record{}, 0, err
	}
	return r, size, nil
}

func readRecordContent(content string) (api.Record, error) {
	const head = recordTxPlace - headSize
	if len(content) < head {
		return api.Record{}, at("content", headSize, ErrForm)
	}
	kind := int(content[0])
	if kind < api.Began || kind > api.Ended {
		return api.Record{}, at("kind", kindPlace, ErrForm)
	}
	tx, ok := readTx(content[head:])
	if !ok {
		return api.Record{}, at("transaction", recordTxPlace, ErrForm)
	}
	return api.Record{Kind: kind, Tx: tx}, nil
}
