package wire

import (
	"math"

	"abatis/api"
	"abatis/label"
)

// reader reads a message's bytes, one behind the other. Behind the first error that is met nothing is read any more.
type reader struct {
	b  []byte
	at int
	e  api.Errno
}

// data reads data of so many bytes into a record.
type data func(r *api.Record, size int)

// message reads a whole message.
func (r *reader) message() api.Msg {
	m := api.Msg{Id: r.number(2), Flags: r.number(2)}
	var counts [4]int
	for i := range counts {
		counts[i] = r.number(2)
	}
	how := r.ways()
	m.Asked = r.asked(counts[0])
	m.Answers = r.records(counts[1], how)
	m.Authority = r.records(counts[2], how)
	m.More = r.records(counts[3], how)
	if r.at != len(r.b) {
		r.fail(api.ErrForm)
	}
	return m
}

// asked reads so many that were asked.
func (r *reader) asked(count int) []api.Question {
	var l []api.Question
	for i := 0; i < count && r.e == api.OK; i++ {
		l = append(l, api.Question{Name: r.name(), Type: r.number(2), Class: r.number(2)})
	}
	return l
}

// records reads so many records.
func (r *reader) records(count int, how map[int]data) []api.Record {
	var l []api.Record
	for i := 0; i < count && r.e == api.OK; i++ {
		one := api.Record{Name: r.name(), Type: r.number(2), Class: r.number(2), Ttl: r.number(4)}
		if one.Ttl > math.MaxInt32 {
			one.Ttl = 0
		}
		read, is := how[one.Type]
		if !is {
			read = r.others
		}
		read(&one, r.number(2))
		l = append(l, one)
	}
	return l
}

// ways is how data is read, by the Type of its record.
func (r *reader) ways() map[int]data {
	address := func(fam, bytes int) data {
		return func(one *api.Record, size int) {
			if size != bytes {
				r.fail(api.ErrForm)
			}
			one.Addr.Fam = fam
			copy(one.Addr.B[:], r.take(size))
		}
	}
	return map[int]data{
		api.TypeA:    address(fam4, 4),
		api.TypeAaaa: address(fam6, 16),
		api.TypeCname: func(one *api.Record, size int) {
			// The name is met ahead of the data's end: its own error comes first.
			end := r.at + size
			one.Target = r.name()
			if r.at != end {
				r.fail(api.ErrForm)
			}
		},
	}
}

// others reads data of the Types that have no way of their own.
func (r *reader) others(one *api.Record, size int) { one.Data = string(r.take(size)) }

// name reads a name.
func (r *reader) name() string {
	if r.e != api.OK {
		return ""
	}
	name, next, e := label.Read(r.b, r.at)
	if e != api.OK {
		r.fail(e)
		return ""
	}
	r.at = next
	return name
}

// number reads a number of so many bytes, the highest one first.
func (r *reader) number(bytes int) int {
	n := 0
	for _, c := range r.take(bytes) {
		n = n<<8 | int(c)
	}
	return n
}

// take reads so many bytes.
func (r *reader) take(n int) []byte {
	if n > len(r.b)-r.at {
		r.fail(api.ErrForm)
	}
	if r.e != api.OK {
		return nil
	}
	r.at += n
	return r.b[r.at-n : r.at]
}

// fail keeps an error, if it is the first one.
func (r *reader) fail(e api.Errno) {
	if r.e == api.OK {
		r.e = e
	}
}
