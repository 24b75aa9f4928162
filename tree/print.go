package tree

import (
	"slices"
	"strconv"
	"strings"

	"lienbook/api"
)

// page is a text that is being put together, of a program that is right.
type page struct {
	strings.Builder
}

// full: has it more bytes than a text may have?
func (w *page) full() bool { return w.Len() > api.MaxText }

// put puts texts behind, till it is full: a tree may have far more text than anyone wants.
func (w *page) put(texts ...string) {
	for _, s := range texts {
		if !w.full() {
			w.WriteString(s)
		}
	}
}

// row puts a list's things, a comma and a blank between.
func row[T any](w *page, list []T, put func(T)) {
	for i, x := range list {
		if i > 0 {
			w.put(", ")
		}
		put(x)
	}
}

func (w *page) fn(f api.Fn) {
	w.put("fn ", f.Name)
	if len(f.Lives) > 0 {
		w.put("[")
		row(w, f.Lives, w.life)
		w.put("]")
	}
	w.put("(")
	row(w, f.Params, w.param)
	w.put(") -> ")
	w.typ(f.Gives)
	if len(f.Outs) > 0 {
		w.put(" where ")
		row(w, slices.Collect(slices.Chunk(f.Outs, 2)), w.out)
	}
	w.put(" {\n")
	w.stmts(f.Body, "\t")
	w.put("\tret ")
	w.expr(f.Value)
	w.put(";\n}\n")
}

func (w *page) life(name string) { w.put("'", name) }

func (w *page) param(p api.Param) {
	w.put(p.Name, ": ")
	w.typ(p.Type)
}

// out puts a life that outlives another one, and that one.
func (w *page) out(lives []string) {
	w.life(lives[0])
	w.put(": ")
	w.life(lives[1])
}

func (w *page) typ(t api.Type) {
	switch t.Kind {
	case api.Int:
		w.put("int")
	case api.Box:
		w.put("box ")
		w.typ(t.Kids[0])
	case api.Tuple:
		w.put("(")
		row(w, t.Kids, w.typ)
		w.put(")")
	case api.Ref:
		w.put("&'", t.Life, " ", mut(t.Mut))
		w.typ(t.Kids[0])
	}
}

// stmts puts statements, with so many tabs ahead of each.
func (w *page) stmts(list []api.Stmt, tabs string) {
	for _, s := range list {
		w.put(tabs)
		w.stmt(s, tabs)
	}
}

func (w *page) stmt(s api.Stmt, tabs string) {
	switch s.Kind {
	case api.Let:
		w.put("let ", s.Name, " = ")
		w.expr(s.Expr)
		w.put(";\n")
	case api.Set:
		w.expr(s.Place)
		w.put(" = ")
		w.expr(s.Expr)
		w.put(";\n")
	case api.If:
		w.put("if ")
		w.expr(s.Expr)
		w.put(" {\n")
		w.stmts(s.Then, tabs+"\t")
		w.put(tabs, "} else {\n")
		w.stmts(s.Else, tabs+"\t")
		w.put(tabs, "}\n")
	case api.Repeat:
		w.put("repeat ")
		w.expr(s.Expr)
		w.put(" {\n")
		w.stmts(s.Then, tabs+"\t")
		w.put(tabs, "}\n")
	}
}

func (w *page) expr(x api.Expr) {
	switch x.Kind {
	case api.Lit:
		w.put(strconv.FormatInt(x.Num, 10))
	case api.Var:
		w.put(x.Name)
	case api.Part:
		w.kid(x, 0)
		w.put(".", strconv.FormatInt(x.Num, 10))
	case api.Deref:
		w.put("*")
		w.kid(x, 0)
	case api.Lend:
		w.put("&", mut(x.Mut))
		w.kid(x, 0)
	case api.New:
		w.put("box ")
		w.kid(x, 0)
	case api.Oper:
		w.kid(x, 0)
		w.put(" ", x.Name, " ")
		w.kid(x, 1)
	case api.Row, api.Call: // a Row has no name
		w.put(x.Name, "(")
		row(w, x.Kids, w.expr)
		w.put(")")
	}
}

// kid puts the i-th kid of an expression, in parentheses where it stands in them.
func (w *page) kid(x api.Expr, i int) {
	if !inParens(x, i) {
		w.expr(x.Kids[i])
		return
	}
	w.put("(")
	w.expr(x.Kids[i])
	w.put(")")
}

func mut(is bool) string {
	if is {
		return "mut "
	}
	return ""
}
