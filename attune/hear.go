package attune

import (
	"attune/letters"
	"attune/tree"
)

// answer is what comes of a letter: "" where nothing is left to say.
func (r *Replica) answer(heard letters.Letter) string {
	switch told := heard.(type) {
	case letters.Root:
		return r.answerRoot(told)
	case letters.Nodes:
		return r.answerNodes(told)
	case letters.Segments:
		return r.answerSegments(told)
	}
	return ""
}

func (r *Replica) answerRoot(told letters.Root) string {
	if told.Digest == r.digest(tree.Root, 0) {
		return ""
	}
	return r.tellNodes(tree.Root, []int{0})
}

func (r *Replica) answerNodes(told letters.Nodes) string {
	level := told.Level + 1
	differ := r.differing(told)
	switch {
	case len(differ) == 0:
		return ""
	case level == tree.Segments:
		return r.tellSegments(letters.Had, differ)
	}
	return r.tellNodes(level, differ)
}

// answerSegments joins them all ahead of telling any.
func (r *Replica) answerSegments(told letters.Segments) string {
	var numbers []int
	for _, s := range told.List {
		r.segments[s.Number].join(s.Records)
		numbers = append(numbers, s.Number)
	}
	if told.Kind == letters.Joined {
		return ""
	}
	return r.tellSegments(letters.Joined, numbers)
}

// differing are the children told of whose digest is not that of its own.
func (r *Replica) differing(told letters.Nodes) []int {
	var differ []int
	for _, node := range told.List {
		for i, digest := range node.Children {
			child := tree.Child(node.Number, i)
			if r.digest(told.Level+1, child) != digest {
				differ = append(differ, child)
			}
		}
	}
	return differ
}

func (r *Replica) tellNodes(level int, numbers []int) string {
	tell := letters.Nodes{Level: level}
	for _, n := range numbers {
		node := letters.Node{Number: n}
		for i := range node.Children {
			node.Children[i] = r.digest(level+1, tree.Child(n, i))
		}
		tell.List = append(tell.List, node)
	}
	return tell.Text()
}

func (r *Replica) tellSegments(kind byte, numbers []int) string {
	tell := letters.Segments{Kind: kind}
	for _, n := range numbers {
		tell.List = append(tell.List, letters.Segment{Number: n, Records: r.segments[n].records()})
	}
	return tell.Text()
}
