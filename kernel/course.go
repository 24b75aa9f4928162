package kernel

import (
	"errors"
	"slices"

	"lienbook/api"
	"lienbook/env"
	"lienbook/step"
)

// course is the way through a function: the functions ahead, the environments of its derivation that are left, and how many statements were come to.
type course struct {
	ahead []api.Fn
	left  [][]api.Bind
	count int
}

func (c *course) fn(f api.Fn) error {
	e, err := c.stmts(step.Start(f), f.Body)
	if err == nil {
		err = c.end(e, f)
	}
	if err != nil {
		return placed(err, c.count)
	}
	return nil
}

// end: may a function give back its Value, and is the derivation at its end?
func (c *course) end(e []api.Bind, f api.Fn) error {
	t, _, err := step.Eval(c.ahead, e, f.Value)
	if err != nil {
		return err
	}
	if err := step.Gives(f, t); err != nil {
		return err
	}
	if len(c.left) > 0 {
		return api.BadTree
	}
	return nil
}

// placed: what is wrong, at a statement's number, if it isn't at that of a statement in that one.
func placed(err error, at int) error {
	var inner *api.Fault
	if errors.As(err, &inner) {
		return inner
	}
	return &api.Fault{At: at, Err: err}
}

// stmts: what is known behind statements that stand among each other.
func (c *course) stmts(e []api.Bind, list []api.Stmt) ([]api.Bind, error) {
	for _, s := range list {
		at := c.count
		c.count++
		var err error
		if e, err = c.stmt(e, s); err != nil {
			return nil, placed(err, at)
		}
	}
	return e, nil
}

func (c *course) stmt(e []api.Bind, s api.Stmt) ([]api.Bind, error) {
	switch s.Kind {
	case api.Let:
		return c.let(e, s)
	case api.Set:
		return step.Set(c.ahead, e, s.Place, s.Expr)
	}
	return c.fork(e, s)
}

func (c *course) let(e []api.Bind, s api.Stmt) ([]api.Bind, error) {
	t, e, err := step.Eval(c.ahead, e, s.Expr)
	if err != nil {
		return nil, err
	}
	// Clip, as step may answer memory of what it was handed, and so spare room of the derivation's.
	return append(slices.Clip(e), api.Bind{Name: s.Name, Ty: t}), nil
}

// fork does an If or a Repeat: what the derivation tells to be known behind it, if that holds.
func (c *course) fork(e []api.Bind, s api.Stmt) ([]api.Bind, error) {
	e, told, err := c.enter(e, s.Expr)
	if err != nil {
		return nil, err
	}
	switch s.Kind {
	case api.Repeat:
		if !env.Less(e, told) {
			return nil, api.BadTree
		}
		e = told    // each round begins with what is known of all rounds
		fallthrough // it has no Else: that leaves what it finds, which is what is told
	case api.If:
		if len(e) != len(told) {
			return nil, api.BadTree
		}
		if err := c.branch(e, s.Then, told); err != nil {
			return nil, err
		}
		if err := c.branch(e, s.Else, told); err != nil {
			return nil, err
		}
	}
	return told, nil
}

// enter: what is known behind the Expr of an If or a Repeat, and the environment of the derivation that is told of it.
func (c *course) enter(e []api.Bind, x api.Expr) (behind, told []api.Bind, err error) {
	t, behind, err := step.Eval(c.ahead, e, x)
	switch {
	case err != nil:
		return nil, nil, err
	case t.Kind != api.Int:
		return nil, nil, api.BadShape
	case len(c.left) == 0:
		return nil, nil, api.BadTree
	}
	told, c.left = c.left[0], c.left[1:]
	return behind, told, nil
}

// branch: do statements hold from an environment on, and leave of that what is at most what is told?
func (c *course) branch(e []api.Bind, list []api.Stmt, told []api.Bind) error {
	out, err := c.stmts(e, list)
	if err != nil {
		return err
	}
	if out, err = step.Leave(out, len(e)); err != nil {
		return err
	}
	if !env.Less(out, told) {
		return api.BadTree
	}
	return nil
}
