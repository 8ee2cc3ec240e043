package wire

import (
	"abatis/addr"
	"abatis/api"
	"abatis/label"
)

// writer writes a message that may be.
type writer struct {
	label.Writer
	sizes []size
}

// size is how many bytes some data has, and where that is told. A Target's are known only when it is written, behind that place.
type size struct{ at, bytes int }

// numbers writes numbers of two bytes.
func (w *writer) numbers(l ...int) {
	for _, n := range l {
		w.Raw(byte(n>>8), byte(n))
	}
}

// full tells whether there are more bytes than a message may have.
func (w *writer) full() bool { return w.Len() > api.MaxMsg }

// asked writes what was asked, as long as there is any use in it.
func (w *writer) asked(l ...api.Question) {
	for _, q := range l {
		if w.full() {
			return
		}
		w.Name(q.Name)
		w.numbers(q.Type, q.Class)
	}
}

// records writes records, as long as there is any use in it.
func (w *writer) records(l ...api.Record) {
	for _, r := range l {
		if w.full() {
			return
		}
		w.Name(r.Name)
		w.numbers(r.Type, r.Class, r.Ttl>>16, r.Ttl, 0)
		begun := w.Len()
		w.data(r)
		w.sizes = append(w.sizes, size{at: begun - 2, bytes: w.Len() - begun})
	}
}

// data writes a record's data.
func (w *writer) data(r api.Record) {
	switch r.Type {
	case api.TypeA, api.TypeAaaa:
		w.Raw(r.Addr.B[:addr.Bits(r.Addr)/8]...)
	case api.TypeCname:
		w.Name(r.Target)
	default:
		w.Raw([]byte(r.Data)...)
	}
}

// whole is all bytes, the sizes put where they are told.
func (w *writer) whole() []byte {
	b := w.Bytes()
	for _, s := range w.sizes {
		b[s.at], b[s.at+1] = byte(s.bytes>>8), byte(s.bytes)
	}
	return b
}
