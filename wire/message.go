package wire

import "accord/api"

// Where the parts of a message stand in its bytes.
const (
	kindPlace = headSize + iota
	fromPlace
	toPlace
	messageTxPlace
)

// WriteMessage refuses, with ErrValue, a message that is not right.
func WriteMessage(m api.Message) (string, error) {
	if err := checkEnds(m, ErrValue); err != nil {
		return "", err
	}
	if !rightTx(m.Tx) {
		return "", at("transaction", messageTxPlace, ErrValue)
	}
	head := string([]byte{byte(m.Kind), byte(m.From), byte(m.To)})
	return seal(messageMark, head+writeTx(m.Tx)), nil
}

// ReadMessage reads bytes that are one message and nothing else.
func ReadMessage(b string) (api.Message, error) {
	size, err := measure(b, messageMark)
	if err != nil {
		return api.Message{}, err
	}
	if len(b) > size {
		return api.Message{}, at("end", size, ErrMore)
	}
	content, err := open(b)
	if err != nil {
		return api.Message{}, err
	}
	return readMessageContent(content)
}

func readMessageContent(content string) (api.Message, error) {
	const head = messageTxPlace - headSize
	if len(content) < head {
		return api.Message{}, at("content", headSize, ErrForm)
	}
	m := api.Message{Kind: int(content[0]), From: int(content[1]), To: int(content[2])}
	if err := checkEnds(m, ErrForm); err != nil {
		return api.Message{}, err
	}
	tx, ok := readTx(content[head:])
	if !ok {
		return api.Message{}, at("transaction", messageTxPlace, ErrForm)
	}
	m.Tx = tx
	return m, nil
}

// checkEnds looks at the kind and at both nodes; its fault is the caller's,
// since a wrong value and wrong bytes are told apart.
func checkEnds(m api.Message, fault error) error {
	switch {
	case m.Kind < api.Prepare || m.Kind > api.Inquire:
		return at("kind", kindPlace, fault)
	case !rightNode(m.From):
		return at("sender", fromPlace, fault)
	case !rightNode(m.To):
		return at("receiver", toPlace, fault)
	}
	return nil
}

func rightNode(node int) bool { return node >= 0 && node <= api.MaxNodes }
