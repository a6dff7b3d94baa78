package syntax

import (
	"drydock/api"
	"drydock/fraction"
	"drydock/lexer"
)

// canBeWritten reports whether the grammar has a text for s, however long that is.
func canBeWritten(s api.Source) bool {
	return isNumber(s.Extent) &&
		all(s.Laws, isLaw) &&
		all(s.Models, isModel) &&
		areTrees(s.Nodes) && all(s.Nodes, isNode) &&
		all(s.Policies, isPolicy) &&
		all(s.Volumes, isVolume)
}

// all reports whether a condition holds for every element of a list.
func all[T any](list []T, holds func(x T) bool) bool {
	for _, x := range list {
		if !holds(x) {
			return false
		}
	}
	return true
}

// some is all, for lists that may not be empty.
func some[T any](list []T, holds func(x T) bool) bool {
	return len(list) > 0 && all(list, holds)
}

func isNumber(n int) bool {
	return n >= 0 && n <= maxNumber
}

func isFrac(x api.Frac) bool {
	order, err := fraction.Cmp(x, zero())
	return err == api.OK && order >= 0
}

func areFracs(list []api.Frac) bool {
	return some(list, isFrac)
}

// isZero reports whether the value of x is 0.
func isZero(x api.Frac) bool {
	order, err := fraction.Cmp(x, zero())
	return err == api.OK && order == 0
}

func isLaw(l api.SourceLaw) bool {
	return lexer.IsName(l.Law.Name) && areFracs(l.Law.Start) && some(l.Law.Rates, areFracs) && areFracs(l.Law.Exit)
}

func isModel(m api.SourceModel) bool {
	return lexer.IsName(m.Name) && isNumber(m.Extents) && isNumber(m.Port) && lexer.IsName(m.Law)
}

// areTrees reports whether every node stands at a place where its level is allowed.
func areTrees(list []api.SourceNode) bool {
	deepest := api.LevelSite // the greatest level that the next node may have
	for _, n := range list {
		if n.Level < api.LevelSite || n.Level > deepest {
			return false
		}
		// A drive contains nothing, so that it changes nothing for the next node.
		deepest = min(n.Level+1, api.Levels)
	}
	return true
}

// isNode reports whether n can be written at a place where its level is allowed.
func isNode(n api.SourceNode) bool {
	if !lexer.IsName(n.Name) {
		return false
	}
	if n.Level == api.Levels {
		return n.Uplink == 0 && isZero(n.Shock) && lexer.IsName(n.Model)
	}
	return isNumber(n.Uplink) && isFrac(n.Shock) && n.Model == ""
}

func isPolicy(d api.SourcePolicy) bool {
	return lexer.IsName(d.Name) &&
		isNumber(d.K) && isNumber(d.M) && isNumber(d.Quorum) &&
		areBounds(d.Spread) &&
		some(d.Models, lexer.IsName) &&
		areFracs(d.Repair) && isFrac(d.Target) && isFrac(d.Horizon)
}

func areBounds(spread [api.Levels]int) bool {
	for _, bound := range spread {
		if !isNumber(bound) {
			return false
		}
	}
	return spread[api.LevelFleet] == 0
}

func isVolume(v api.SourceVolume) bool {
	return lexer.IsName(v.Name) && lexer.IsName(v.Policy)
}
