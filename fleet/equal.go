package fleet

import (
	"slices"

	"drydock/api"
	"drydock/syntax"
)

// Equal reports whether all fields of a and b are equal, fractions by their values.
func Equal(a, b api.Fleet) bool {
	return slices.Equal(a.Models, b.Models) &&
		slices.Equal(a.Drives, b.Drives) &&
		slices.Equal(a.Volumes, b.Volumes) &&
		slices.EqualFunc(a.Domains, b.Domains, haveOneParent) &&
		slices.EqualFunc(a.Policies, b.Policies, allowTheSame) &&
		syntax.Equal(outline(a), outline(b))
}

func haveOneParent(a, b api.Domain) bool {
	return a.Parent == b.Parent
}

func allowTheSame(a, b api.Policy) bool {
	return slices.Equal(a.Models, b.Models)
}

// outline returns the fields that f has in common with a source. Package syntax knows when these are equal.
func outline(f api.Fleet) api.Source {
	return api.Source{
		Extent:   f.Extent,
		Laws:     convert(f.Laws, func(l api.Law) api.SourceLaw { return api.SourceLaw{Law: l} }),
		Nodes:    convert(f.Domains, nodeLike),
		Policies: convert(f.Policies, policyLike),
	}
}
