package yaml

import (
	"strings"

	"mizzen/api"
	"mizzen/tree"
)

// A reader reads blocks, line by line; rest are the lines that it hasn't read.
type reader struct{ rest []line }

// reaches says whether there is a next line, and it is so far in, or further.
func (r *reader) reaches(in int) bool {
	return len(r.rest) > 0 && r.rest[0].in >= in
}

// block reads the block that begins at the next line.
func (r *reader) block() (api.Value, api.Errno) {
	first := r.rest[0]
	if item(first.text) {
		return r.list()
	}
	if _, _, e := pair(first.text); e == api.OK {
		return r.pairs()
	}
	r.rest = r.rest[1:]
	return whole(first.text)
}

// below reads the block of the lines further in than the next one, which is passed over; nothing, if there are none.
func (r *reader) below() (api.Value, api.Errno) {
	in := r.rest[0].in
	r.rest = r.rest[1:]
	if !r.reaches(in + 1) {
		return tree.Null(), api.OK
	}
	return r.block()
}

// each reads a block's parts: each begins with a line as far in as the block, whose text is handed to read.
func (r *reader) each(read func(text string) api.Errno) api.Errno {
	in := r.rest[0].in
	for r.reaches(in) {
		if r.reaches(in + 1) {
			return api.ErrIndent
		}
		if e := read(r.rest[0].text); e != api.OK {
			return e
		}
	}
	return api.OK
}

func (r *reader) list() (api.Value, api.Errno) {
	var l []api.Value
	e := r.each(func(text string) api.Errno {
		if !item(text) {
			return api.ErrForm
		}
		v, e := r.behindDash(text)
		l = append(l, v)
		return e
	})
	return api.Value{Kind: api.List, List: l}, e
}

// item says whether a line begins an item of a list.
func item(text string) bool { return text == "-" || strings.HasPrefix(text, "- ") }

// behindDash reads an item's value: behind the dash a block begins, as if the line began there.
func (r *reader) behindDash(text string) (api.Value, api.Errno) {
	behind := strings.TrimLeft(text[1:], " ")
	if behind == "" {
		return r.below()
	}
	r.rest[0] = line{in: r.rest[0].in + len(text) - len(behind), text: behind}
	return r.block()
}

func (r *reader) pairs() (api.Value, api.Errno) {
	var m mapping
	e := r.each(func(text string) api.Errno {
		key, behind, e := pair(text)
		if e != api.OK {
			return e
		}
		if m.has(key) {
			return api.ErrTwice
		}
		v, e := r.behindColon(behind)
		m.put(key, v)
		return e
	})
	return m.value(), e
}

// behindColon reads a pair's value: the rest of the line, or, if there is none, what stands below.
func (r *reader) behindColon(behind string) (api.Value, api.Errno) {
	behind = strings.TrimLeft(behind, " ")
	if behind == "" {
		return r.below()
	}
	r.rest = r.rest[1:]
	return whole(behind)
}
