package journal

import (
	"slices"

	"muster/api"
	"muster/records"
)

// isSound: has the entry as many operations as a commit can have, each in normal form?
func isSound(e api.Entry) bool {
	if len(e.Ops) == 0 || len(e.Ops) > api.MaxOps {
		return false
	}
	return !slices.ContainsFunc(e.Ops, isOdd)
}

// isOdd: is the operation another one than its normal form, or has it none?
func isOdd(o api.Op) bool {
	fixed, err := records.FixOp(o)
	return err != api.OK || !sameOp(o, fixed)
}

func sameOp(a, b api.Op) bool {
	return a.Kind == b.Kind && a.Node == b.Node && sameService(a.Service, b.Service) && a.Check == b.Check && a.Cas == b.Cas && a.Want == b.Want
}

func sameService(a, b api.Service) bool {
	return a.Node == b.Node && a.Id == b.Id && a.Name == b.Name && a.Port == b.Port && slices.Equal(a.Tags, b.Tags) && a.Made == b.Made && a.Changed == b.Changed
}
