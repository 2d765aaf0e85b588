package scene_test

import (
	"slices"

	"diapause/api"
)

// small is a scene in order, of each thing more than one.
func small() api.Scene {
	return api.Scene{
		Groups: []api.GroupSnap{
			{Id: 50, Weight: 3},
			{Id: 20, Parent: 50, Weight: maxWeight, Band: api.Band{Period: 10, Quota: 3, Used: 4}},
			{Id: 60, Parent: 20, Weight: 1, Band: api.Band{Period: 7}},
			{Id: 30, Parent: 50, Weight: 2},
		},
		Tasks: []api.TaskSnap{
			{Id: 10, Group: 60, Weight: 4, Cores: 1, Lag: api.Pace{V: 5, Rem: 3}},
			{Id: 40, Group: 50, Weight: 1, Cores: 1 << 63, Asleep: true, Ran: 9},
			{Id: 70, Group: 60, Weight: maxWeight, Cores: 6, Lag: api.Pace{V: maxFar, Rem: maxWeight - 1}},
		},
	}
}

// chain is so many groups, each below the one ahead of it, from the Id first on.
func chain(first, many int) api.Scene {
	var s api.Scene
	for i := range many {
		parent := first + i - 1
		if i == 0 {
			parent = 0
		}
		s.Groups = append(s.Groups, api.GroupSnap{Id: first + i, Parent: parent, Weight: 1})
	}
	return s
}

// fan is a top, with so many groups and tasks in all.
func fan(groups, tasks int) api.Scene {
	s := chain(1, 1)
	for i := 1; i < groups; i++ {
		s.Groups = append(s.Groups, api.GroupSnap{Id: 1 + i, Parent: 1, Weight: 1})
	}
	for i := range tasks {
		s.Tasks = append(s.Tasks, api.TaskSnap{Id: 10000 + i, Group: 1, Weight: 1, Cores: 1})
	}
	return s
}

// grown is a top with groups below it, each with the parent that is told by its place; Ids stand as they are told.
func grown(ids []int, parent []int) api.Scene {
	s := api.Scene{Groups: []api.GroupSnap{{Id: ids[0], Weight: 1}}}
	for i, at := range parent {
		s.Groups = append(s.Groups, api.GroupSnap{Id: ids[i+1], Parent: ids[at], Weight: 1})
	}
	return s
}

// ids are so many, none twice, in no order.
func (c *chance) ids(many int) []int {
	seen := map[int]bool{}
	var l []int
	for len(l) < many {
		id := 1 + c.upTo(maxId-1)
		if c.upTo(1) == 0 {
			id = 1 + c.upTo(2*many)
		}
		if !seen[id] {
			seen[id] = true
			l = append(l, id)
		}
	}
	return l
}

// band is one that can be.
func (c *chance) band() api.Band {
	switch c.upTo(2) {
	case 0:
		return api.Band{}
	case 1:
		return api.Band{Period: c.upTo(maxPeriod)}
	}
	return api.Band{Period: 1 + c.upTo(maxPeriod-1), Quota: 1 + c.upTo(maxPeriod-1), Used: c.upTo(maxTicks)}
}

// scene is one that can be but for how its groups and tasks stand, and how deep they are: the top is the first one, the others stand in no order. The more like a chain it is the deeper it goes.
func (c *chance) scene(groups, tasks, like int) api.Scene {
	ids := c.ids(groups + tasks)
	var s api.Scene
	for i := range groups {
		g := api.GroupSnap{Id: ids[i], Weight: 1 + c.upTo(maxWeight-1), Band: c.band()}
		if i > 0 {
			at := c.upTo(i - 1)
			if c.upTo(99) < like {
				at = i - 1
			}
			g.Parent = ids[at]
		}
		s.Groups = append(s.Groups, g)
	}
	for _, id := range ids[groups:] {
		weight := 1 + c.upTo(maxWeight-1)
		s.Tasks = append(s.Tasks, api.TaskSnap{
			Id: id, Group: ids[c.upTo(groups-1)], Weight: weight, Cores: c.next() | 1, Asleep: c.upTo(1) == 0, Ran: c.upTo(maxTicks),
			Lag: api.Pace{V: c.upTo(maxFar), Rem: c.upTo(weight - 1)},
		})
	}
	shuffle(c, s.Groups, 1)
	shuffle(c, s.Tasks, 0)
	return s
}

// orders are all orders of a list's items, its first ones staying where they are.
func orders[T any](l []T, first int) [][]T {
	if first >= len(l) {
		return [][]T{slices.Clone(l)}
	}
	var all [][]T
	for i := first; i < len(l); i++ {
		o := slices.Clone(l)
		o[first], o[i] = o[i], o[first]
		all = append(all, orders(o, first+1)...)
	}
	return all
}
