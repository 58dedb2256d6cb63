package trim_test

import (
	"math/rand"

	"spillway/api"
)

// node is an op of a graph: the number that marks it, and the tensors that it
// reads: one, or those of an Add.
type node struct {
	mark  int
	reads []int
}

func at(mark int, reads ...int) node { return node{mark, reads} }

// op is a Clamp, or an Add, with ends by which it is known from others.
func (n node) op() api.Op {
	op := api.Op{Kind: api.Clamp, A: n.reads[0]}
	if len(n.reads) == 2 {
		op = add(n.reads[0], n.reads[1])
	}
	op.Lo, op.Hi = -n.mark, 127-n.mark
	return op
}

// graph is the model of these nodes, over one number.
func graph(out int, nodes ...node) api.Model {
	m := api.Model{In: of(1, 1, 1), Lo: -7, Hi: 120, Out: out}
	for _, n := range nodes {
		m.Ops = append(m.Ops, n.op())
	}
	return m
}

// marked are nodes that read these tensors, marked by their numbers.
func marked(reads ...[]int) []node {
	var nodes []node
	for i, r := range reads {
		nodes = append(nodes, node{i + 1, r})
	}
	return nodes
}

// everyNode are all that can stand there: a Clamp of any earlier tensor, and an
// Add of any two of them.
func everyNode(number int) []node {
	var all []node
	for a := range number {
		all = append(all, at(number, a))
		for b := range number {
			all = append(all, at(number, a, b))
		}
	}
	return all
}

// everyGraph goes through all graphs of so many nodes.
func everyGraph(count int, do func(nodes []node)) {
	if count == 0 {
		do(nil)
		return
	}
	everyGraph(count-1, func(nodes []node) {
		for _, n := range everyNode(count) {
			do(append(nodes[:count-1:count-1], n))
		}
	})
}

// tangle is a random graph of so many nodes, which read tensors that are that
// near, or any.
func tangle(r *rand.Rand, count, near int) api.Model {
	var nodes []node
	for number := 1; number <= count; number++ {
		least := max(0, number-near)
		reads := []int{least + r.Intn(number-least)}
		if r.Intn(2) == 0 {
			reads = append(reads, anyOf(r, reads[0], r.Intn(number), least+r.Intn(number-least)))
		}
		nodes = append(nodes, node{number, reads})
	}
	return graph(anyOf(r, count, r.Intn(count+1)), nodes...)
}
