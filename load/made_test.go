package load_test

import "diapause/api"

// on is seats with rising Ids from 1 on, that may be anywhere: of each core so many as stand at its number.
func on(many ...int) []api.Seat {
	var l []api.Seat
	for core, n := range many {
		for range n {
			l = append(l, api.Seat{Id: len(l) + 1, Core: core, Cores: every})
		}
	}
	return l
}

// may is the same seats, which may be on other cores.
func may(cores uint64, seats []api.Seat) []api.Seat {
	var l []api.Seat
	for _, s := range seats {
		l = append(l, api.Seat{Id: s.Id, Core: s.Core, Cores: cores})
	}
	return l
}

// wild are numbers that are no cores, some of them like one in their lower bits.
func wild() []int {
	return []int{-1, -2, -63, -64, -65, 64, 65, 127, 128, 1 << 31, 1<<32 + 1, 1<<40 + 2, 1<<62 + 3, -1 << 32, -1<<32 + 1, minInt, minInt + 1, minInt + 63, maxInt, maxInt - 62, maxInt - 63}
}

// set is some cores, of few numbers or of all 64.
func (c *chance) set() uint64 {
	switch c.upTo(6) {
	case 0:
		return 0
	case 1:
		return every
	case 2:
		return 1 << c.upTo(maxCores-1)
	case 3:
		return c.next()
	case 4:
		return c.next() & c.next() & c.next()
	case 5:
		return uint64(c.upTo(15)) << c.upTo(60)
	}
	return uint64(c.upTo(15))
}

// id is a seat's, often one that others have.
func (c *chance) id() int {
	switch c.upTo(4) {
	case 0:
		return c.upTo(3)
	case 1:
		return int(c.next())
	case 2:
		return -c.upTo(3)
	}
	return 1 + c.upTo(1<<20-1)
}

// core is a seat's: few of them are none.
func (c *chance) core(cores int) int {
	if c.upTo(15) == 0 {
		return wild()[c.upTo(len(wild())-1)]
	}
	if c.upTo(1) == 0 {
		return c.upTo(cores - 1)
	}
	return c.upTo(cores-1) & c.upTo(cores-1) & c.upTo(cores-1)
}

// seats are so many on the first cores, whatever Ids they have.
func (c *chance) seats(many, cores int) []api.Seat {
	var l []api.Seat
	for range many {
		l = append(l, api.Seat{Id: c.id(), Core: c.core(cores), Cores: c.set()})
	}
	return l
}

// people are so many on the first cores, no two of one Id, in no order.
func (c *chance) people(many, cores int) []api.Seat {
	seen := map[int]bool{}
	var l []api.Seat
	for len(l) < many {
		s := api.Seat{Id: c.id(), Core: c.core(cores), Cores: c.set()}
		if !seen[s.Id] {
			seen[s.Id] = true
			l = append(l, s)
		}
	}
	return l
}
