package names

import "lienbook/api"

// shelf is types that stand together, and whether a box or a reference is around them.
type shelf struct {
	types  []api.Type
	inside bool
}

// everyRef: is each reference in a type as ok asks, of its life, and of whether it stands in a box or another reference? It doesn't call itself, as a type may be deeper than calls may.
func everyRef(t api.Type, ok func(life string, inside bool) bool) bool {
	work := []shelf{{[]api.Type{t}, false}}
	for len(work) > 0 {
		last := work[len(work)-1]
		work = work[:len(work)-1]
		for _, x := range last.types {
			isRef := x.Kind == api.Ref
			if isRef && !ok(x.Life, last.inside) {
				return false
			}
			if len(x.Kids) > 0 {
				work = append(work, shelf{x.Kids, last.inside || isRef || x.Kind == api.Box})
			}
		}
	}
	return true
}
