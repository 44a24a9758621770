package file

import (
	"slices"
	"strings"

	"jitney/api"
	"jitney/deci"
	"jitney/plan"
)

// check tells whether a plan has a text, or the first error.
func check(p plan.Plan) api.Errno {
	switch {
	case tooMany(p):
		return api.ErrMany
	case !paired(p):
		return api.ErrArg
	case slices.ContainsFunc(p.Routes, anyBeyond[int]) || anyBeyond(p.Left) || slices.ContainsFunc(p.Times, anyBeyond[int64]) || beyond(p.Cost):
		return api.ErrRange
	}
	return api.OK
}

func tooMany(p plan.Plan) bool {
	long := func(row []int) bool { return len(row) > api.MaxStops }
	return len(p.Routes) > api.MaxCars || slices.ContainsFunc(p.Routes, long) || long(p.Left)
}

// paired tells whether there are times of each row, none or as many as its stops, of which there is at least one.
func paired(p plan.Plan) bool {
	if len(p.Times) != len(p.Routes) {
		return false
	}
	for i, row := range p.Routes {
		if many := len(p.Times[i]); len(row) == 0 || many != 0 && many != len(row) {
			return false
		}
	}
	return true
}

func anyBeyond[N number](ns []N) bool {
	return slices.ContainsFunc(ns, beyond[N])
}

func beyond[N number](n N) bool {
	return n < 0 || n > api.MaxTime
}

// write is the text of a plan that has one.
func write(p plan.Plan) string {
	var text strings.Builder
	writeLine(&text, headName, []int64{int64(len(p.Routes)), p.Cost})
	for i, row := range p.Routes {
		writeLine(&text, routeName, row)
		writeLine(&text, timesName, p.Times[i])
	}
	writeLine(&text, leftName, p.Left)
	return text.String()
}

// writeLine writes a line: its name, and numbers of either kind.
func writeLine[N number](text *strings.Builder, name string, ns []N) {
	text.WriteString(name)
	for _, n := range ns {
		text.WriteByte(' ')
		text.WriteString(deci.Write(int64(n), 0))
	}
	text.WriteByte('\n')
}
