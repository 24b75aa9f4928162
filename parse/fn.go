package parse

import (
	"slices"

	"lienbook/api"
)

func (r *reader) program() []api.Fn {
	var out []api.Fn
	for len(r.left) > 1 { // more than the end
		out = append(out, r.fn())
	}
	return out
}

func (r *reader) fn() api.Fn {
	var f api.Fn
	r.want("fn")
	f.Name = r.name()
	f.Lives = r.lives()
	r.want("(")
	f.Params = rowOrNone(r, r.param, ")")
	r.want("->")
	f.Gives = r.typ()
	f.Outs = r.outs()
	r.want("{")
	f.Body = r.stmts("ret")
	f.Value = r.expr()
	r.want(";")
	r.want("}")
	return f
}

func (r *reader) lives() []string {
	if !r.skip("[") {
		return nil
	}
	out := row(r, r.life)
	r.want("]")
	return out
}

func (r *reader) param() api.Param {
	name := r.name()
	r.want(":")
	return api.Param{Name: name, Type: r.typ()}
}

func (r *reader) outs() []string {
	if !r.skip("where") {
		return nil
	}
	return slices.Concat(row(r, r.out)...)
}

// out: a life that outlives another one, and that one.
func (r *reader) out() []string {
	long := r.life()
	r.want(":")
	return []string{long, r.life()}
}

func (r *reader) typ() api.Type {
	switch {
	case r.skip("box"):
		return api.Type{Kind: api.Box, Kids: []api.Type{r.typ()}}
	case r.skip("("):
		return r.tuple()
	case r.skip("&"):
		return r.ref()
	}
	r.want("int")
	return api.Type{Kind: api.Int}
}

// tuple: the type whose opening parenthesis was passed by.
func (r *reader) tuple() api.Type {
	first := []api.Type{r.typ()}
	r.want(",")
	kids := append(first, row(r, r.typ)...)
	r.want(")")
	return api.Type{Kind: api.Tuple, Kids: kids}
}

// ref: the type whose & was passed by.
func (r *reader) ref() api.Type {
	life := r.life()
	mut := r.skip("mut")
	return api.Type{Kind: api.Ref, Life: life, Mut: mut, Kids: []api.Type{r.typ()}}
}
