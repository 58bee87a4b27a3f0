// Package vint is layer 1: it encodes integers and strings in as few bytes as possible. See shared/doc/01-vint.md.
package vint

import (
	"errors"
	"math/bits"
	"strconv"

	"turntable/api"
)

const (
	groupBits = 7              // how many bits of a number one byte holds
	moreBit   = 1 << groupBits // tells that another byte follows
	groupMask = moreBit - 1    // the bits of a group
	maxBytes  = 7              // how many bytes MaxNumber takes: no number takes more
)

// fault wraps an error in where it is: at which of the bytes that were read.
type fault struct {
	at  int
	err error
}

// Error tells it.
func (f fault) Error() string { return "vint: byte " + strconv.Itoa(f.at) + ": " + f.err.Error() }

// Unwrap lets the error be found again.
func (f fault) Unwrap() error { return f.err }

// Size is how many bytes n takes, 0 if it is no number.
func Size(n int64) int {
	if n < 0 || n > api.MaxNumber {
		return 0
	}
	// 0 has no bits, yet takes a byte as 1 does.
	return (bits.Len64(uint64(n)|1) + groupBits - 1) / groupBits
}

// Put puts a number behind bytes. What is no number takes no bytes, so that nothing is put.
func Put(b []byte, n int64) []byte {
	size := Size(n)
	out := grown(b, size)
	for left := size; left > 0; left-- {
		c := byte(n & groupMask)
		if left > 1 {
			c |= moreBit
		}
		out = append(out, c)
		n >>= groupBits
	}
	return out
}

// Get is the number that bytes begin with, and how many it takes.
func Get(b []byte) (int64, int, api.Errno) {
	n, size, err := number(b)
	return n, size, errno(err)
}

// PutText puts a text behind bytes, and nothing if s is none.
func PutText(b []byte, s string) []byte {
	if len(s) > api.MaxText {
		return grown(b, 0)
	}
	return append(Put(b, int64(len(s))), s...)
}

// GetText is the text that bytes begin with, and how many it takes.
func GetText(b []byte) (string, int, api.Errno) {
	s, size, err := text(b)
	return s, size, errno(err)
}

// grown is b in memory of its own, with room for more: a caller's spare room must stay as it is.
func grown(b []byte, more int) []byte {
	out := make([]byte, len(b), len(b)+more)
	copy(out, b)
	return out
}

func number(b []byte) (int64, int, error) {
	n, size, open := int64(0), 0, true
	for open && size < min(len(b), maxBytes) {
		c := b[size]
		open = false
		switch {
		case c&moreBit != 0:
			open = true
			c &= groupMask
			fallthrough
		default:
			n |= int64(c) << (groupBits * size)
			size++
		}
	}
	switch {
	case open && size < maxBytes:
		return 0, 0, fault{size, api.ErrShort}
	case open, Size(n) != size: // one too large has no size, one with a last byte of 0 has a smaller one
		return 0, 0, fault{size - 1, api.ErrForm}
	}
	return n, size, nil
}

func text(b []byte) (string, int, error) {
	n, size, err := number(b)
	switch {
	case err != nil:
		return "", 0, err
	case n > api.MaxText:
		return "", 0, fault{size - 1, api.ErrForm}
	case n > int64(len(b)-size):
		return "", 0, fault{len(b), api.ErrShort}
	}
	end := size + int(n)
	return string(b[size:end]), end, nil
}

// errno finds again which of api's errors a fault wraps.
func errno(err error) api.Errno {
	switch {
	case err == nil:
		return api.OK
	case errors.Is(err, api.ErrShort):
		return api.ErrShort
	default:
		return api.ErrForm
	}
}
