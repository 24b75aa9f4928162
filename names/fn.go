package names

import "lienbook/api"

// formed: none, if a function is formed; ahead tells how many Params each function ahead of it has.
func formed(f api.Fn, ahead map[string]int, wrong func(api.Code) error) error {
	_, twice := ahead[f.Name]
	lives, livesDiffer := setOf(f.Lives)
	vars, varsDiffer := setOf(paramNames(f))
	switch {
	case twice || !livesDiffer || !varsDiffer || !livesKnown(f, lives):
		return wrong(api.BadName)
	case !everyType(f, Whole):
		return wrong(api.BadShape)
	}
	in := scope{ahead, vars}
	if !in.stmts(f.Body) || !in.expr(f.Value) { // what Body's own Lets name is in scope in Value, too
		return wrong(api.BadName)
	}
	return nil
}

func paramNames(f api.Fn) []string {
	var out []string
	for _, x := range f.Params {
		out = append(out, x.Name)
	}
	return out
}

// setOf: names as a set, and whether no two of them are alike.
func setOf(names []string) (set map[string]bool, differ bool) {
	set = map[string]bool{}
	for _, s := range names {
		set[s] = true
	}
	return set, len(set) == len(names)
}

// livesKnown: is each life in a function's types and its Outs among these?
func livesKnown(f api.Fn, lives map[string]bool) bool {
	for _, life := range f.Outs {
		if !lives[life] {
			return false
		}
	}
	known := func(life string, _ bool) bool { return lives[life] }
	return everyType(f, func(t api.Type) bool { return everyRef(t, known) })
}

// everyType: is the type of each Param, and what is given back, as ok asks?
func everyType(f api.Fn, ok func(api.Type) bool) bool {
	for _, x := range f.Params {
		if !ok(x.Type) {
			return false
		}
	}
	return ok(f.Gives)
}
