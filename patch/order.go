package patch

import "container/heap"

// Order tells the patches by their ids, the least first, but each behind all that it needs.
func Order(patches []Patch) []Patch {
	waits := countNeeds(patches)
	var free least
	for _, p := range patches {
		if waits[p.Id] == 0 {
			heap.Push(&free, p)
		}
	}
	var ordered []Patch
	for free.Len() > 0 {
		p := heap.Pop(&free).(Patch)
		ordered = append(ordered, p)
		for _, q := range patches {
			if !q.Needs(p) {
				continue
			}
			waits[q.Id]--
			if waits[q.Id] == 0 {
				heap.Push(&free, q)
			}
		}
	}
	return ordered
}

// countNeeds tells of each patch, by its id, how many of these it needs.
func countNeeds(patches []Patch) map[Id]int {
	needs := map[Id]int{}
	for _, q := range patches {
		for _, p := range patches {
			if q.Needs(p) {
				needs[q.Id]++
			}
		}
	}
	return needs
}

// least is a heap of the patches that nothing holds back: the one with the least id is on top.
type least []Patch

func (l least) Len() int {
	return len(l)
}

func (l least) Less(i, j int) bool {
	return l[i].Id.String() < l[j].Id.String()
}

func (l least) Swap(i, j int) {
	l[i], l[j] = l[j], l[i]
}

func (l *least) Push(p any) {
	*l = append(*l, p.(Patch))
}

func (l *least) Pop() any {
	last := len(*l) - 1
	p := (*l)[last]
	*l = (*l)[:last]
	return p
}
