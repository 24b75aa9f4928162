package parse

import (
	"slices"

	"lienbook/api"
	"lienbook/words"
)

const quote = "'" // ahead of a life's word

// reader goes through a program's tokens; its methods pass by what they read, or panic with the fault.
type reader struct {
	left []api.Token // at least the end
}

// take passes the next token by, if it is one that may stand there, and answers its text.
func (r *reader) take(may bool) string {
	next := r.left[0]
	if !may {
		panic(&api.Fault{At: next.At, Err: api.BadForm})
	}
	r.left = r.left[1:]
	return next.Text
}

// sees: has the next token one of these texts?
func (r *reader) sees(texts ...string) bool { return slices.Contains(texts, r.left[0].Text) }

func (r *reader) want(text string) { r.take(r.sees(text)) }

// skip passes the next token by, if it has that text.
func (r *reader) skip(text string) bool {
	sees := r.sees(text)
	if sees {
		r.want(text)
	}
	return sees
}

func (r *reader) seesName() bool {
	next := r.left[0]
	return next.Kind == api.Word && !words.IsKept(next.Text)
}

func (r *reader) name() string { return r.take(r.seesName()) }

// life: a life's name.
func (r *reader) life() string {
	next := r.left[0]
	return r.take(next.Kind == api.Life && !words.IsKept(next.Text[len(quote):]))[len(quote):]
}

// row: one thing or more, with commas between.
func row[T any](r *reader, thing func() T) []T {
	out := []T{thing()}
	for r.skip(",") {
		out = append(out, thing())
	}
	return out
}

// rowOrNone: things with commas between, if there are any, and the mark that ends them.
func rowOrNone[T any](r *reader, thing func() T, end string) []T {
	if r.skip(end) {
		return nil
	}
	out := row(r, thing)
	r.want(end)
	return out
}
