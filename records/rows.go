package records

import (
	"strings"

	"muster/api"
)

// tables is the make of the tables. The places below follow the order of its fields.
const tables = `table nodes
field name text
field addr text
field made num
field changed num
index id name unique
table services
field node text
field id text
field name text
field port num
field tags list
field made num
field changed num
index id node,id unique
index name name
table checks
field node text
field id text
field service text
field status num
field note text
field made num
field changed num
index id node,id unique
index service node,service loose
index status status
table marks
field table text
field value num
index id table unique
`

// The places of a node's fields.
const (
	nodeName = iota
	nodeAddr
	nodeMade
	nodeChanged
)

// The places of a service's fields.
const (
	serviceNode = iota
	serviceId
	serviceName
	servicePort
	serviceTags
	serviceMade
	serviceChanged
)

// The places of a check's fields.
const (
	checkNode = iota
	checkId
	checkService
	checkStatus
	checkNote
	checkMade
	checkChanged
)

// Schema: the tables' text.
func Schema() string { return tables }

// NodeRow: the node's row.
func NodeRow(n api.Node) api.Row {
	return api.Row{Cells: []api.Cell{
		nodeName:    textCell(n.Name),
		nodeAddr:    textCell(n.Addr),
		nodeMade:    {Num: n.Made},
		nodeChanged: {Num: n.Changed},
	}}
}

// RowNode: the row's node.
func RowNode(r api.Row) api.Node {
	return api.Node{
		Name:    textAt(r, nodeName),
		Addr:    textAt(r, nodeAddr),
		Made:    numAt(r, nodeMade),
		Changed: numAt(r, nodeChanged),
	}
}

// ServiceRow: the service's row.
func ServiceRow(s api.Service) api.Row {
	return api.Row{Cells: []api.Cell{
		serviceNode:    textCell(s.Node),
		serviceId:      textCell(s.Id),
		serviceName:    textCell(s.Name),
		servicePort:    {Num: uint64(s.Port)},
		serviceTags:    {List: copyTexts(s.Tags)},
		serviceMade:    {Num: s.Made},
		serviceChanged: {Num: s.Changed},
	}}
}

// RowService: the row's service.
func RowService(r api.Row) api.Service {
	return api.Service{
		Node:    textAt(r, serviceNode),
		Id:      textAt(r, serviceId),
		Name:    textAt(r, serviceName),
		Port:    int(numAt(r, servicePort)),
		Tags:    listAt(r, serviceTags),
		Made:    numAt(r, serviceMade),
		Changed: numAt(r, serviceChanged),
	}
}

// CheckRow: the check's row.
func CheckRow(c api.Check) api.Row {
	return api.Row{Cells: []api.Cell{
		checkNode:    textCell(c.Node),
		checkId:      textCell(c.Id),
		checkService: textCell(c.Service),
		checkStatus:  {Num: uint64(c.Status)},
		checkNote:    textCell(c.Note),
		checkMade:    {Num: c.Made},
		checkChanged: {Num: c.Changed},
	}}
}

// RowCheck: the row's check.
func RowCheck(r api.Row) api.Check {
	return api.Check{
		Node:    textAt(r, checkNode),
		Id:      textAt(r, checkId),
		Service: textAt(r, checkService),
		Status:  int(numAt(r, checkStatus)),
		Note:    textAt(r, checkNote),
		Made:    numAt(r, checkMade),
		Changed: numAt(r, checkChanged),
	}
}

// textCell: a cell with the text in memory of its own.
func textCell(s string) api.Cell {
	return api.Cell{Text: strings.Clone(s)}
}

// cellAt: the row's cell at that place; an empty one, if the row is too short.
func cellAt(r api.Row, place int) api.Cell {
	if place >= len(r.Cells) {
		return api.Cell{}
	}
	return r.Cells[place]
}

func textAt(r api.Row, place int) string { return strings.Clone(cellAt(r, place).Text) }

func numAt(r api.Row, place int) uint64 { return cellAt(r, place).Num }

func listAt(r api.Row, place int) []string { return copyTexts(cellAt(r, place).List) }

// copyTexts: the texts in memory of their own.
func copyTexts(texts []string) []string {
	var list []string
	for _, s := range texts {
		list = append(list, strings.Clone(s))
	}
	return list
}
