package records

import (
	"regexp"
	"slices"
	"strconv"
	"strings"

	"muster/api"
)

// A plain reading of the chapter: what is valid is told by patterns, and of all errors of a record, gathered in the order in which they stand there, the first one is told.

var (
	labelForm = regexp.MustCompile(`\A[A-Za-z0-9]([A-Za-z0-9-]*[A-Za-z0-9])?\z`)
	addrForm  = regexp.MustCompile(`\A(0|[1-9][0-9]*)\.(0|[1-9][0-9]*)\.(0|[1-9][0-9]*)\.(0|[1-9][0-9]*)\z`)
	noteForm  = regexp.MustCompile(`\A[ -~]{0,200}\z`)
)

func modelLabel(s string) (string, api.Errno) {
	if len(s) > 63 || !labelForm.MatchString(s) {
		return "", 90
	}
	return strings.ToLower(s), 0
}

func modelAddr(s string) ([4]byte, api.Errno) {
	found := addrForm.FindStringSubmatch(s)
	if found == nil {
		return [4]byte{}, 91
	}
	var addr [4]byte
	for i, word := range found[1:] {
		n, err := strconv.Atoi(word)
		if err != nil || n > 255 {
			return [4]byte{}, 91
		}
		addr[i] = byte(n)
	}
	return addr, 0
}

// faults gathers errors in the order in which they are asked.
type faults []api.Errno

func (f *faults) label(s string) string {
	low, e := modelLabel(s)
	f.ask(e != 0, 90)
	return low
}

func (f *faults) ask(wrong bool, e api.Errno) {
	if wrong {
		*f = append(*f, e)
	}
}

// end: the value, if there are no faults; or a zero one, and the first fault.
func end[T any](v T, f faults) (T, api.Errno) {
	if len(f) > 0 {
		var zero T
		return zero, f[0]
	}
	return v, 0
}

func modelNode(n api.Node) (api.Node, api.Errno) {
	var f faults
	out := api.Node{Name: f.label(n.Name), Addr: n.Addr}
	_, e := modelAddr(n.Addr)
	f.ask(e != 0, 91)
	return end(out, f)
}

func modelService(s api.Service) (api.Service, api.Errno) {
	var f faults
	out := api.Service{Node: f.label(s.Node), Id: f.label(s.Id), Name: f.label(s.Name), Port: s.Port}
	f.ask(s.Port < 1 || s.Port > 65535, 92)
	f.ask(len(s.Tags) > 16, 93)
	for _, tag := range s.Tags {
		low, e := modelLabel(tag)
		f.ask(e != 0, 93)
		if !slices.Contains(out.Tags, low) {
			out.Tags = append(out.Tags, low)
		}
	}
	slices.Sort(out.Tags)
	return end(out, f)
}

func modelCheck(c api.Check) (api.Check, api.Errno) {
	var f faults
	out := api.Check{Node: f.label(c.Node), Id: f.label(c.Id), Status: c.Status, Note: c.Note}
	if c.Service != "" {
		out.Service = f.label(c.Service)
	}
	f.ask(!slices.Contains([]int{1, 2, 3}, c.Status), 94)
	f.ask(!noteForm.MatchString(c.Note), 95)
	return end(out, f)
}

func modelOp(o api.Op) (api.Op, api.Errno) {
	var f faults
	out := api.Op{Kind: o.Kind, Cas: o.Cas, Want: o.Want}
	if !o.Cas {
		out.Want = 0
	}
	var e api.Errno
	switch o.Kind {
	case 1:
		out.Node, e = modelNode(o.Node)
	case 2:
		out.Service, e = modelService(o.Service)
	case 3:
		out.Check, e = modelCheck(o.Check)
	case 4:
		out.Node.Name = f.label(o.Node.Name)
	case 5:
		out.Service.Node, out.Service.Id = f.label(o.Service.Node), f.label(o.Service.Id)
	case 6:
		out.Check.Node, out.Check.Id = f.label(o.Check.Node), f.label(o.Check.Id)
	default:
		e = 96
	}
	f.ask(e != 0, e)
	return end(out, f)
}
