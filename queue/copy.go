package queue

import (
	"slices"
	"strings"

	"muster/api"
)

// copyOps: the list in memory of its own, texts too: whoever submitted it may write over his while it waits.
func copyOps(ops []api.Op) []api.Op {
	kept := slices.Clone(ops)
	for i, o := range kept {
		kept[i].Node = copyNode(o.Node)
		kept[i].Service = copyService(o.Service)
		kept[i].Check = copyCheck(o.Check)
	}
	return kept
}

func copyNode(n api.Node) api.Node {
	n.Name, n.Addr = strings.Clone(n.Name), strings.Clone(n.Addr)
	return n
}

func copyService(s api.Service) api.Service {
	s.Node, s.Id, s.Name = strings.Clone(s.Node), strings.Clone(s.Id), strings.Clone(s.Name)
	s.Tags = slices.Clone(s.Tags)
	for i, tag := range s.Tags {
		s.Tags[i] = strings.Clone(tag)
	}
	return s
}

func copyCheck(c api.Check) api.Check {
	c.Node, c.Id, c.Service = strings.Clone(c.Node), strings.Clone(c.Id), strings.Clone(c.Service)
	c.Note = strings.Clone(c.Note)
	return c
}
