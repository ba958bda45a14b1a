// Package val: values: see ../shared/doc/01-val.md.
package val

import (
	"cmp"
	"math"
	"slices"
	"strings"

	"inglenook/api"
)

// I is an Int.
func I(n int64) api.Value { return api.Value{Kind: api.Int, N: n} }

// O is an Obj.
func O(n int) api.Value { return api.Value{Kind: api.Obj, N: int64(n)} }

// S is a Str.
func S(s string) api.Value { return api.Value{Kind: api.Str, S: s} }

// E is an Err.
func E(code int) api.Value { return api.Value{Kind: api.Err, N: int64(code)} }

// L is a List. The items go in as clones: a list inside one of them would be kept otherwise.
func L(l ...api.Value) api.Value { return api.Value{Kind: api.List, L: cloneAll(l)} }

// Valid is nil for a right value, else the first fault on a walk through v.
func Valid(v api.Value) error {
	_, err := walk(v, 1, 0)
	return err
}

// walk answers how much was walked, v and its items too. The depth and the sum are asked ahead of all else, so that it ends on a list that holds itself too.
func walk(v api.Value, deep, sum int) (int, error) {
	if deep > api.MaxNest {
		return 0, api.ErrDeep
	}
	sum += sizeAlone(v)
	if sum > api.MaxSize {
		return 0, api.ErrMany
	}
	if !inRange(v) {
		return 0, api.ErrRange
	}
	if !inShape(v) {
		return 0, api.ErrShape
	}
	for _, x := range v.L {
		var err error
		if sum, err = walk(x, deep+1, sum); err != nil {
			return 0, err
		}
	}
	return sum, nil
}

func inRange(v api.Value) bool {
	switch v.Kind {
	case api.Int, api.Str, api.List:
		return true
	case api.Obj:
		return v.N >= math.MinInt32 && v.N <= math.MaxInt32
	case api.Err:
		return v.N >= api.ENone && v.N <= api.EQuota
	}
	return false
}

func inShape(v api.Value) bool {
	switch v.Kind {
	case api.Str:
		return v.N == 0 && len(v.L) == 0 && isText(v.S)
	case api.List:
		return v.N == 0 && v.S == ""
	}
	return v.S == "" && len(v.L) == 0
}

func isText(s string) bool {
	for i := range len(s) {
		if s[i] < 32 || s[i] > 126 {
			return false
		}
	}
	return true
}

// Size is how much v holds, and its items.
func Size(v api.Value) int {
	size := sizeAlone(v)
	for _, x := range v.L {
		size += Size(x)
	}
	return size
}

func sizeAlone(v api.Value) int {
	if v.Kind == api.Str {
		return 1 + len(v.S)
	}
	return 1
}

// Deep is how many levels v has.
func Deep(v api.Value) int {
	deepest := 0
	for _, x := range v.L {
		deepest = max(deepest, Deep(x))
	}
	return 1 + deepest
}

// Same tells whether a and b are of one kind and have the same.
func Same(a, b api.Value) bool { return order(a, b) == 0 }

// Less tells whether a is ahead of b.
func Less(a, b api.Value) bool { return order(a, b) < 0 }

func order(a, b api.Value) int {
	if a.Kind != b.Kind {
		return cmp.Compare(a.Kind, b.Kind)
	}
	switch a.Kind {
	case api.Str:
		return strings.Compare(a.S, b.S)
	case api.List:
		return slices.CompareFunc(a.L, b.L, order)
	}
	return cmp.Compare(a.N, b.N)
}

// True tells whether v counts as yes in a condition.
func True(v api.Value) bool {
	switch v.Kind {
	case api.Int:
		return v.N != 0
	case api.Str:
		return v.S != ""
	case api.List:
		return len(v.L) > 0
	}
	return false
}

// Clone is v in new memory, down to its innermost lists.
func Clone(v api.Value) api.Value {
	v.L = cloneAll(v.L)
	return v
}

func cloneAll(l []api.Value) []api.Value {
	if len(l) == 0 {
		return nil
	}
	out := make([]api.Value, len(l))
	for i, x := range l {
		out[i] = Clone(x)
	}
	return out
}
