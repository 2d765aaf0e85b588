package image_test

import (
	"diapause/api"
	"diapause/scene"
)

// small is a scene that can be, of each thing more than one, no number twice beside another one.
func small() api.Scene {
	return api.Scene{
		Groups: []api.GroupSnap{
			{Id: 0x010203, Weight: 3},
			{Id: 20, Parent: 0x010203, Weight: maxWeight, Band: api.Band{Period: 10, Quota: 0x0a0b0c, Used: 0x00f403020100}},
			{Id: 60, Parent: 20, Weight: 1, Band: api.Band{Period: 7}},
			{Id: 0x030201, Parent: 0x010203, Weight: 0x0f0e0d, Band: api.Band{Period: maxPeriod, Quota: maxPeriod, Used: maxTicks}},
		},
		Tasks: []api.TaskSnap{
			{Id: 10, Group: 60, Weight: 0x040506, Cores: 0x8877665544332211, Ran: 0x00a1a2a3a4a5, Lag: api.Pace{V: 0x1112131415161718, Rem: 0x030405}},
			{Id: 40, Group: 0x010203, Weight: 1, Cores: 1 << 63, Asleep: true, Ran: 9},
			{Id: maxId, Group: 60, Weight: maxWeight, Cores: 6, Ran: maxTicks, Lag: api.Pace{V: maxFar, Rem: maxWeight - 1}},
		},
	}
}

// chain is so many groups, each below the one ahead of it, from the Id first on.
func chain(first, many int) api.Scene {
	var s api.Scene
	for i := range many {
		parent := first + i - 1
		if i == 0 {
			parent = 0
		}
		s.Groups = append(s.Groups, api.GroupSnap{Id: first + i, Parent: parent, Weight: 1})
	}
	return s
}

// fan is a top with groups below it, and tasks in it.
func fan(groups, tasks int) api.Scene {
	s := chain(1, 1)
	for i := 1; i < groups; i++ {
		s.Groups = append(s.Groups, api.GroupSnap{Id: 1 + i, Parent: 1, Weight: 1 + i})
	}
	for i := range tasks {
		s.Tasks = append(s.Tasks, api.TaskSnap{Id: 10000 + i, Group: 1 + i%groups, Weight: 2 + i, Cores: uint64(1 + i), Asleep: i%3 == 0, Ran: i * i, Lag: api.Pace{V: i << 40, Rem: i}})
	}
	return s
}

// band is one that can be.
func (c *chance) band() api.Band {
	switch c.upTo(2) {
	case 0:
		return api.Band{}
	case 1:
		return api.Band{Period: c.upTo(maxPeriod)}
	}
	return api.Band{Period: 1 + c.upTo(maxPeriod-1), Quota: 1 + c.upTo(maxPeriod-1), Used: c.upTo(maxTicks)}
}

// task is one that can be.
func (c *chance) task(id, group int) api.TaskSnap {
	weight := 1 + c.upTo(maxWeight-1)
	return api.TaskSnap{
		Id: id, Group: group, Weight: weight, Cores: c.next() | 1<<c.upTo(63), Asleep: c.upTo(1) == 0, Ran: c.upTo(maxTicks),
		Lag: api.Pace{V: c.upTo(maxFar), Rem: c.upTo(weight - 1)},
	}
}

// ids are so many, none twice, in no order.
func (c *chance) ids(many int) []int {
	seen := map[int]bool{}
	var l []int
	for len(l) < many {
		id := 1 + c.upTo(maxId-1)
		if c.upTo(1) == 0 {
			id = 1 + c.upTo(2*many)
		}
		if !seen[id] {
			seen[id] = true
			l = append(l, id)
		}
	}
	return l
}

// scene is one that can be, of so many groups and tasks.
func (c *chance) scene(groups, tasks int) api.Scene {
	ids := c.ids(groups + tasks)
	var s api.Scene
	for i := range groups {
		g := api.GroupSnap{Id: ids[i], Weight: 1 + c.upTo(maxWeight-1), Band: c.band()}
		if i > 0 {
			g.Parent = ids[c.upTo(min(i-1, maxDeep-2))]
		}
		s.Groups = append(s.Groups, g)
	}
	for _, id := range ids[groups:] {
		s.Tasks = append(s.Tasks, c.task(id, ids[c.upTo(groups-1)]))
	}
	return scene.Order(s)
}
