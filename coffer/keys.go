package coffer

import (
	"coffer/api"
	"coffer/seal"
)

// key is a key that has come. Its number is not kept: it is one more than its place in the list.
type key struct {
	text  string // empty once the key was destroyed, so that nothing is left of it
	came  int    // the epoch that it came with
	wrote int    // the epoch from which on it wrote; 0: it has not yet
}

func (k key) destroyed() bool { return k.text == "" }

// key gives the key of a number; the caller sees to it that it has come.
func (x *Coffer) key(number int) key { return x.keys[number-1] }

// writer gives the number of the key that wrote when an epoch came. From the epoch 1 on there was always one.
func (x *Coffer) writer(epoch int) int {
	number := 1
	for i := 1; i < len(x.keys); i++ {
		if x.keys[i].wrote != 0 && x.keys[i].wrote <= epoch {
			number = i + 1
		}
	}
	return number
}

// come adds a key, which came with the present epoch; the answer is its number.
func (x *Coffer) come(text string) int {
	x.keys = append(x.keys, key{text: text, came: x.state.Epoch})
	return len(x.keys)
}

// takeOver lets the newest key write, from the present epoch on.
func (x *Coffer) takeOver() {
	number := len(x.keys)
	x.keys[number-1].wrote = x.state.Epoch
	x.state.Write = number
}

// oldKeyLeft tells whether some key is not destroyed beside the one that writes.
func (x *Coffer) oldKeyLeft() bool {
	for i := 0; i < len(x.keys); i++ {
		if i+1 != x.state.Write && !x.keys[i].destroyed() {
			return true
		}
	}
	return false
}

// sealed makes a draw, and gives what comes to be an entry, but for its revision.
func (x *Coffer) sealed(number int, path string, plain string) (api.Entry, api.Errno) {
	by := x.key(number)
	if by.destroyed() {
		return api.Entry{}, api.ErrGone
	}
	draw := x.draws + 1
	nonce := nonceOf(draw)
	text, e := seal.Seal(by.text, nonce, path, plain)
	if e != api.OK {
		return api.Entry{}, e
	}
	x.draws = draw
	return api.Entry{Path: path, Key: number, Draw: draw, Sealed: text}, api.OK
}

// opened gives the secret of an entry that is not Gone, whatever servers have seen.
func (x *Coffer) opened(entry api.Entry) (string, api.Errno) {
	by := x.key(entry.Key)
	if by.destroyed() {
		return "", api.ErrGone
	}
	nonce := nonceOf(entry.Draw)
	plain, e := seal.Open(by.text, nonce, entry.Path, entry.Sealed)
	if e != api.OK {
		return "", api.ErrSealed
	}
	return plain, api.OK
}

// nonceOf gives the nonce of a draw: its number, the lowest byte first.
func nonceOf(draw int) string {
	nonce := make([]byte, api.NonceBytes)
	rest := draw
	for i := 0; i < len(nonce); i++ {
		nonce[i] = byte(rest)
		rest >>= 8
	}
	return string(nonce)
}
