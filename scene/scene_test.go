package scene_test

import (
	"slices"
	"testing"

	"diapause/api"
	"diapause/kin"
	"diapause/scene"
)

func TestOrderOfWhateverOrder(t *testing.T) { // P13.2, P13.3: it is put in order, and what is in order stays
	c, seen := chance(1), map[api.Errno]int{}
	for round := range 6000 {
		s := c.scene(1+c.upTo(5+round%5*12), c.upTo(20), round%101)
		e := check(t, s)
		o := order(t, s)
		if e == api.OK && !same(o, s) {
			t.Fatalf("what is in order, %v, is put into another one, %v", s, o)
		}
		if again := order(t, o); !same(again, o) {
			t.Fatalf("%v is in order, but put into another one, %v", o, again)
		}
		want := api.OK
		if modelTall(s) >= maxDeep {
			want = api.ErrDeep
		}
		tell(t, check(t, o), want, o)
		shuffle(&c, s.Groups, 1)
		shuffle(&c, s.Tasks, 0)
		if again := order(t, s); !same(again, o) {
			t.Fatalf("one scene has the orders %v and %v", o, again)
		}
		seen[e]++
		seen[want]++
	}
	for _, e := range []api.Errno{api.OK, api.ErrForm, api.ErrDeep} {
		if seen[e] < 300 {
			t.Errorf("%v was told %d times", e, seen[e])
		}
	}
}

func TestOrderIsThatOfATree(t *testing.T) { // P13.1, P13.2: as kin tells it
	c := chance(2)
	for range 400 {
		s := c.scene(1+c.upTo(60), 3, 30)
		if modelTall(s) >= maxDeep {
			continue
		}
		k, left := kin.New(), slices.Clone(s.Groups)
		for len(left) > 0 {
			left = slices.DeleteFunc(left, func(g api.GroupSnap) bool { return k.Add(g.Id, g.Parent) == api.OK })
		}
		var ids []int
		for _, g := range order(t, s).Groups {
			ids = append(ids, g.Id)
		}
		if want := k.Under(s.Groups[0].Id); !slices.Equal(ids, want) {
			t.Fatalf("%v, not %v", ids, want)
		}
		if got, want := scene.Tall(order(t, s)), k.Tall(s.Groups[0].Id); got != want {
			t.Fatalf("Tall(%v) = %d, not %d", s, got, want)
		}
	}
}

func TestOrderOfMany(t *testing.T) { // P13.2: as many as may be, deep and wide
	c := chance(3)
	for _, s := range []api.Scene{fan(maxEach, maxEach), c.scene(maxEach, maxEach, 0), c.scene(maxEach, maxEach, 95), c.scene(maxEach, 0, 100)} {
		for range 2 {
			shuffle(&c, s.Groups, 1)
			shuffle(&c, s.Tasks, 0)
			tell(t, check(t, s), api.ErrForm, len(s.Groups))
			if e := check(t, order(t, s)); e != api.OK && e != api.ErrDeep {
				t.Error(e)
			}
		}
	}
}

func TestOrderOfWhatCantBe(t *testing.T) { // P13.2, R1: it ends, and changes nothing
	double := api.Scene{}
	for i := range 200 { // each Id twice, so that there are 2^100 ways down
		double.Groups = append(double.Groups, api.GroupSnap{Id: 1 + i/2, Parent: i / 2, Weight: 1})
	}
	self := chain(5, 3)
	self.Groups[0].Parent = 5
	round := chain(5, 3)
	round.Groups[0].Parent = 7
	back := chain(1, 500)
	slices.Reverse(back.Groups)
	equal := api.Scene{Groups: slices.Repeat([]api.GroupSnap{{Id: 3, Parent: 3}}, 500), Tasks: slices.Repeat(small().Tasks, 100)}
	long := chain(1, 200000)
	for i, s := range []api.Scene{{}, {Groups: []api.GroupSnap{}, Tasks: []api.TaskSnap{}}, {Tasks: small().Tasks}, {Groups: make([]api.GroupSnap, 3)}, double, self, round, back, equal, long, fan(200000, 0)} {
		was := own(s)
		scene.Order(s)
		scene.Tall(s)
		if !same(s, was) {
			t.Errorf("scene %d has changed", i)
		}
		check(t, s)
	}
	c := chance(4)
	for range 20000 {
		s := c.scene(1+c.upTo(12), c.upTo(4), 50)
		for range 1 + c.upTo(8) {
			if len(s.Groups) > 0 {
				c.spoil(&s)
			}
		}
		was := own(s)
		o, tall := scene.Order(s), scene.Tall(s)
		apart(t, s, o)
		if again := scene.Order(s); !same(s, was) || !same(again, o) || scene.Tall(s) != tall {
			t.Fatalf("%v was %v: its order is %v, and then %v", s, was, o, again)
		}
	}
}

func TestIds(t *testing.T) { // P13.2, R5: as they stand, whatever they are
	for _, x := range []struct {
		s    api.Scene
		want []int
	}{
		{api.Scene{}, nil},
		{small(), []int{50, 20, 60, 30, 10, 40, 70}},
		{api.Scene{Groups: small().Groups}, []int{50, 20, 60, 30}},
		{api.Scene{Tasks: small().Tasks}, []int{10, 40, 70}},
		{api.Scene{Groups: []api.GroupSnap{{Id: 9}, {Id: -1, Parent: 4}, {Id: 9}}, Tasks: []api.TaskSnap{{Id: 1 << 40, Group: 5}, {Id: 9}, {}}}, []int{9, -1, 9, 1 << 40, 9, 0}},
	} {
		was := own(x.s)
		got := scene.Ids(x.s)
		if !slices.Equal(got, x.want) {
			t.Errorf("Ids(%v) = %v", x.s, got)
		}
		for i := range got {
			got[i] = -7
		}
		if again := scene.Ids(x.s); !slices.Equal(again, x.want) || !same(x.s, was) {
			t.Errorf("Ids(%v) = %v, then", x.s, again)
		}
	}
	c := chance(5)
	for range 300 {
		s := c.scene(1+c.upTo(40), c.upTo(40), 50)
		if got := scene.Ids(s); !slices.Equal(got, modelIds(s)) {
			t.Fatalf("Ids(%v) = %v", s, got)
		}
	}
	s := fan(maxEach, maxEach)
	if got := scene.Ids(s); !slices.Equal(got, modelIds(s)) {
		t.Error("of many")
	}
}

func TestTall(t *testing.T) { // P13.2
	for many := 1; many <= maxDeep; many++ {
		if got := scene.Tall(chain(1, many)); got != many-1 {
			t.Errorf("of %d in a chain: %d", many, got)
		}
	}
	for want, s := range []api.Scene{fan(1, 3), fan(maxEach, maxEach), small()} {
		if got := scene.Tall(s); got != want {
			t.Errorf("Tall is %d, not %d", got, want)
		}
	}
	c, seen := chance(6), map[int]int{}
	for round := range 4000 {
		s := modelOrder(c.scene(1+c.upTo(40), c.upTo(3), round%101))
		if check(t, s) != api.OK {
			continue
		}
		was, want := own(s), modelTall(s)
		if got := scene.Tall(s); got != want || !same(s, was) {
			t.Fatalf("Tall(%v) = %d, not %d", s, got, want)
		}
		seen[want]++
	}
	for steps := range maxDeep {
		if seen[steps] == 0 {
			t.Errorf("none was %d steps tall", steps)
		}
	}
}

func TestRename(t *testing.T) { // P13.2: nothing but the numbers of groups and tasks changes
	got, e := rename(t, small(), 1000)
	want := small()
	for i, id := range []int{1050, 1020, 1060, 1030} {
		want.Groups[i].Id = id
	}
	for i, parent := range []int{0, 1050, 1020, 1050} {
		want.Groups[i].Parent = parent
	}
	for i, id := range []int{1010, 1040, 1070} {
		want.Tasks[i].Id = id
	}
	for i, group := range []int{1060, 1050, 1060} {
		want.Tasks[i].Group = group
	}
	if e != api.OK || !same(got, want) {
		t.Errorf("%v, %v, not %v", got, e, want)
	}
	if same0, e := rename(t, small(), 0); e != api.OK || !same(same0, small()) {
		t.Errorf("by 0: %v, %v", same0, e)
	}
}

func TestRenameByNumbersThatCantBe(t *testing.T) { // P13.2, R2, R3: ahead of what is wrong with the scene
	for _, by := range append(wild(), maxId+1, maxId+2, 1<<32, 1<<32+1) {
		for _, s := range []api.Scene{small(), {}, {Groups: make([]api.GroupSnap, 1)}, chain(1, 17), chain(maxId, 1), fan(maxEach+1, 0)} {
			_, e := rename(t, s, by)
			tell(t, e, api.ErrArg, by)
		}
	}
}

func TestRenameToNumbersThatCantBe(t *testing.T) { // P13.2: whichever one is the greatest
	for i := range scene.Ids(small()) {
		for _, most := range []int{71, 1000, maxId - 1, maxId} {
			s := small()
			old := *idAt(&s, i)
			*idAt(&s, i) = most
			for k, g := range s.Groups {
				if g.Parent == old {
					s.Groups[k].Parent = most
				}
			}
			for k, x := range s.Tasks {
				if x.Group == old {
					s.Tasks[k].Group = most
				}
			}
			s = order(t, s)
			for by, want := range map[int]api.Errno{0: api.OK, maxId - most: api.OK, maxId - most + 1: api.ErrRange, maxId - 1: api.ErrRange, maxId: api.ErrRange} {
				_, e := rename(t, s, by)
				tell(t, e, want, by)
			}
		}
	}
	one := chain(1, 1)
	for by, want := range map[int]api.Errno{maxId - 1: api.OK, maxId: api.ErrRange} {
		_, e := rename(t, one, by)
		tell(t, e, want, by)
	}
}

func TestRenameOfWhatCantBe(t *testing.T) { // P13.2, R2: ahead of numbers that are too great
	far := func(s api.Scene) api.Scene {
		s.Tasks = append(s.Tasks, api.TaskSnap{Id: maxId, Group: s.Groups[0].Id, Weight: 1, Cores: 1})
		return s
	}
	wrong := small()
	wrong.Groups[1].Weight = 0
	for _, x := range []struct {
		s    api.Scene
		want api.Errno
	}{
		{api.Scene{}, api.ErrShort}, {far(fan(maxEach+1, 0)), api.ErrFull}, {far(wrong), api.ErrArg}, {far(far(small())), api.ErrTwice},
		{far(api.Scene{Groups: chain(5, 3).Groups[1:]}), api.ErrNone}, {far(api.Scene{Groups: append(chain(5, 3).Groups, chain(9, 1).Groups...)}), api.ErrForm},
		{far(chain(1, 17)), api.ErrDeep}, {far(chain(1, 16)), api.ErrRange},
	} {
		for _, by := range []int{1, 5, maxId} {
			_, e := rename(t, x.s, by)
			tell(t, e, x.want, by)
		}
	}
}

func TestRenamedCanBe(t *testing.T) { // P13.3: and renamed again goes as far as at once
	c := chance(8)
	for round := range 2000 {
		s := modelOrder(c.scene(1+c.upTo(30), c.upTo(30), round%60))
		a, b := c.upTo(1000), c.upTo(1000)
		if c.upTo(1) == 0 {
			a = maxId - slices.Max(modelIds(s)) - b
		}
		got, e := rename(t, s, a)
		if e != api.OK {
			continue
		}
		tell(t, check(t, got), api.OK, got)
		if o := order(t, got); !same(o, got) || scene.Tall(got) != scene.Tall(s) {
			t.Fatalf("%v was in order, %v isn't", s, got)
		}
		again, e := rename(t, got, b)
		once, f := rename(t, s, a+b)
		if e != f || !same(again, once) {
			t.Fatalf("by %d and by %d: %v, %v; at once %v, %v", a, b, again, e, once, f)
		}
	}
	s := fan(maxEach, maxEach)
	if got, e := rename(t, s, maxId-10000-maxEach+1); e != api.OK || check(t, got) != api.OK {
		t.Error("of many", e)
	}
}
