package lower

import (
	"windlass/api"
)

// boundNode is a node at bound places. Fields that its operation does not use
// are left out.
func (l *lowering) boundNode(n api.Node) api.Node {
	b := api.Node{Op: n.Op}
	places := placesOf(&b)
	for i, place := range placesOf(&n) {
		*places[i] = l.boundOf(*place)
	}
	switch n.Op {
	case api.NConst:
		b.Imm = n.Imm
	case api.NBin:
		b.By = n.By
	case api.NCellGet, api.NCellSet, api.NAddr:
		b.Cell = n.Cell
	case api.NCall:
		b.F, b.Args = n.F, upTo(len(n.Args))
		b.D = min(n.D, 0) // none, or register 0, in which a number comes back
	case api.NDefer:
		b.F, b.Args = n.F, upTo(len(n.Args))
	}
	return b
}

// boundOf a place, or of none.
func (l *lowering) boundOf(place int) int {
	if place == none {
		return none
	}
	return l.bound[place]
}

// placesOf a node are the fields that name its places. Those of a call are given:
// its arguments and its number have registers of their own.
func placesOf(n *api.Node) []*int {
	switch n.Op {
	case api.NConst, api.NCellGet, api.NAddr, api.NIn:
		return []*int{&n.D}
	case api.NMove, api.NLoad:
		return []*int{&n.D, &n.A}
	case api.NBin:
		return []*int{&n.D, &n.A, &n.B}
	case api.NCellSet, api.NBranch, api.NRet, api.NPanic, api.NOut, api.NExit:
		return []*int{&n.A}
	case api.NStore:
		return []*int{&n.A, &n.B}
	case api.NRecover:
		return []*int{&n.D, &n.E}
	}
	return nil
}

// waysOf a node are the fields that name the nodes that it continues with.
func waysOf(n *api.Node) []*int {
	switch n.Op {
	case api.NRet, api.NPanic, api.NExit:
		return nil
	case api.NBranch:
		return []*int{&n.Next, &n.Else}
	}
	return []*int{&n.Next}
}
