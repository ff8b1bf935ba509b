// Package pack is layer 1: see shared/doc/01-pack.md.
package pack

import (
	"bytes"
	"math/bits"

	"holt/api"
)

// Most is the greatest number.
const Most = 1<<32 - 1

const (
	// maxText is how many bytes a text may have that is written.
	maxText = 4096
	// maxSize is how many bytes a number's form may have: those of Most.
	maxSize = 5
	// digits is how many binary digits a byte of a number's form tells.
	digits = 7
	// more is added to each byte of a number's form but the last one.
	more = 1 << digits
)

// Number is a number's form: of one below 0 or above Most there is none.
func Number(n int) []byte {
	if n < 0 || n > Most {
		return nil
	}
	var form []byte
	for range ahead(n) {
		form = append(form, byte(n%more+more))
		n /= more
	}
	return append(form, byte(n))
}

// ahead is how many bytes a number's form has ahead of its last one, which is there even if the number has no digits.
func ahead(n int) int {
	return max(0, bits.Len(uint(n))-1) / digits
}

// Text is a text's form: of one of more than 4096 bytes there is none.
func Text(s string) []byte {
	if len(s) > maxText {
		return nil
	}
	return append(Number(len(s)), s...)
}

// Reader reads forms: what isn't read yet, and what was wrong first.
type Reader struct {
	rest []byte
	err  api.Errno
}

// New is one of bytes. It has a copy of them, as who handed them in may change them later.
func New(b []byte) *Reader {
	return &Reader{rest: bytes.Clone(b)}
}

// Number reads a number of up to most.
func (r *Reader) Number(most int) int {
	if r.err != api.OK {
		return 0
	}
	n, size, err := scan(r.rest)
	if err == api.OK && n > min(most, Most) {
		err = api.ErrForm
	}
	if err != api.OK {
		r.fail(err)
		return 0
	}
	r.rest = r.rest[size:]
	return n
}

// scan finds the number whose form b begins with, and how many bytes that has.
func scan(b []byte) (n, size int, err api.Errno) {
	for i := range maxSize {
		if i == len(b) {
			return 0, 0, api.ErrShort
		}
		x := int(b[i])
		n += (x % more) << (digits * i)
		if x >= more {
			continue
		}
		if x == 0 && i > 0 {
			return 0, 0, api.ErrForm
		}
		return n, i + 1, api.OK
	}
	return 0, 0, api.ErrForm
}

// Text reads a text of up to most bytes.
func (r *Reader) Text(most int) string {
	size := r.Number(most)
	if r.err != api.OK {
		return ""
	}
	if size > len(r.rest) {
		r.fail(api.ErrShort)
		return ""
	}
	text := string(r.rest[:size])
	r.rest = r.rest[size:]
	return text
}

// fail keeps what was wrong; the bytes are let go, as none of them is read any more.
func (r *Reader) fail(err api.Errno) {
	r.rest, r.err = nil, err
}

// Left is how many bytes aren't read; 0 where something was wrong.
func (r *Reader) Left() int { return len(r.rest) }

// Err is what was wrong first.
func (r *Reader) Err() api.Errno { return r.err }
