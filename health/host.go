package health

import (
	"cmp"
	"iter"
	"slices"

	"muster/api"
	"muster/catalog"
)

// own is the Service of the checks that speak for the node itself, and so for all services on it.
const own = ""

// host is a node and its checks, by the service that they speak for.
type host struct {
	node   api.Node
	checks map[string][]api.Check
}

func hostOf(v *catalog.View, name string) host {
	// There is no service without its node.
	node, _ := v.Node(name)
	h := host{node: node, checks: map[string][]api.Check{}}
	for _, c := range v.Checks(name) {
		h.checks[c.Service] = append(h.checks[c.Service], c)
	}
	return h
}

// hosted: each service with its host, which is sought but once for services on one node that stand side by side.
func hosted(v *catalog.View, list []api.Service) iter.Seq2[host, api.Service] {
	return func(yield func(host, api.Service) bool) {
		var h host
		for _, s := range list {
			if s.Node != h.node.Name {
				h = hostOf(v, s.Node)
			}
			if !yield(h, s) {
				return
			}
		}
	}
}

// checksOf: the checks that speak for the service with that id, in a list of its own.
func (h host) checksOf(id string) []api.Check {
	all := slices.Concat(h.checks[own], h.checks[id])
	slices.SortFunc(all, func(a, b api.Check) int { return cmp.Compare(a.Id, b.Id) })
	return all
}

// statusOf: the worst status of these checks.
func (h host) statusOf(id string) int {
	return max(Worst(h.checks[own]), Worst(h.checks[id]))
}
