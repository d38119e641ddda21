package planner_test

import (
	"math"
	"slices"
	"strconv"
	"testing"

	"humpyard/api"
	"humpyard/assign"
	"humpyard/certificate"
	"humpyard/consist"
	"humpyard/job"
	"humpyard/planner"
	"humpyard/rollin"
)

// Numbers of each kind.
const (
	flatNumber = "000000000000"
	tankNumber = "000070000005"
	twoNumber  = "318027731237"
	sixNumber  = "000090000001"
)

// flat returns a wagon with a destination and a length.
func flat(dest string, length int) api.Wagon {
	return api.Wagon{Number: flatNumber, Length: length, Axles: 4, Mass: 600, Dest: dest}
}

// flats returns wagons with some destinations.
func flats(dests ...string) []api.Wagon {
	var l []api.Wagon
	for i, dest := range dests {
		l = append(l, flat(dest, 100+i))
	}
	return l
}

func order(blocks ...string) api.Order { return api.Order{Blocks: blocks} }

// one returns the items of one train, of round 0 and of the length 100, with some blocks.
func one(blocks ...int) []api.Item {
	var l []api.Item
	for _, b := range blocks {
		l = append(l, api.Item{Block: b, Length: 100})
	}
	return l
}

// rounds returns the items of one train, of the length 100; each of them is a block and a round.
func rounds(l ...[2]int) []api.Item {
	var items []api.Item
	for _, x := range l {
		items = append(items, api.Item{Block: x[0], Round: x[1], Length: 100})
	}
	return items
}

// down returns the numbers from n - 1 down to 0.
func down(n int) []int {
	var l []int
	for i := range n {
		l = append(l, n-1-i)
	}
	return l
}

// of returns n equal numbers.
func of(n, x int) []int { return slices.Repeat([]int{x}, n) }

// full returns as many items as possible, in the reverse order of their blocks as far as there are blocks.
func full() []api.Item {
	return one(append(down(maxBlocks), make([]int, maxWagons-maxBlocks)...)...)
}

func cloneSheet(s api.Sheet) api.Sheet {
	s.Job.Items = slices.Clone(s.Job.Items)
	s.Proof.Plan.Codes = slices.Clone(s.Proof.Plan.Codes)
	s.Proof.Chain = slices.Clone(s.Proof.Chain)
	s.Tracks = slices.Clone(s.Tracks)
	return s
}

func isSameSheet(a, b api.Sheet) bool {
	return a.Job.Weight == b.Job.Weight && slices.Equal(a.Job.Items, b.Job.Items) &&
		a.Proof.Plan.Steps == b.Proof.Plan.Steps && slices.Equal(a.Proof.Plan.Codes, b.Proof.Plan.Codes) &&
		slices.Equal(a.Proof.Chain, b.Proof.Chain) && slices.Equal(a.Tracks, b.Tracks)
}

func isSameOrder(a, b api.Order) bool { return slices.Equal(a.Blocks, b.Blocks) }

func sameItems(t *testing.T, orders []api.Order, l []api.Wagon, want []api.Item, wantError api.Errno) {
	t.Helper()
	var ordersBefore []api.Order
	for _, o := range orders {
		ordersBefore = append(ordersBefore, order(slices.Clone(o.Blocks)...))
	}
	before := slices.Clone(l)
	if items, e := planner.Items(orders, l); !slices.Equal(items, want) || e != wantError {
		t.Errorf("Items(%v, %v): %v, error %d; want %v, error %d", orders, l, items, e, want, wantError)
	}
	if !slices.EqualFunc(orders, ordersBefore, isSameOrder) || !slices.Equal(l, before) {
		t.Errorf("Items has changed %v, %v to %v, %v", ordersBefore, before, orders, l)
	}
}

func sameSchemes(t *testing.T, items []api.Item, want []api.Scheme, wantError api.Errno) {
	t.Helper()
	before := slices.Clone(items)
	if l, e := planner.Schemes(items); !slices.Equal(l, want) || e != wantError {
		t.Errorf("Schemes(%v): %v, error %d; want %v, error %d", items, l, e, want, wantError)
	}
	if !slices.Equal(items, before) {
		t.Errorf("Schemes has changed %v to %v", before, items)
	}
}

func samePlan(t *testing.T, items []api.Item, tracks []int, want api.Sheet, wantRefusal []int, wantError api.Errno) {
	t.Helper()
	itemsBefore, tracksBefore := slices.Clone(items), slices.Clone(tracks)
	s, refusal, e := planner.Plan(items, tracks)
	if !isSameSheet(s, want) || !slices.Equal(refusal, wantRefusal) || e != wantError {
		t.Errorf("Plan(%v, %v): %v, %v, error %d; want %v, %v, error %d", items, tracks, s, refusal, e, want, wantRefusal, wantError)
	}
	if !slices.Equal(items, itemsBefore) || !slices.Equal(tracks, tracksBefore) {
		t.Errorf("Plan has changed %v, %v to %v, %v", itemsBefore, tracksBefore, items, tracks)
	}
}

func sameCheck(t *testing.T, s api.Sheet, tracks []int, want api.Errno) {
	t.Helper()
	sBefore, tracksBefore := cloneSheet(s), slices.Clone(tracks)
	if e := planner.Check(s, tracks); e != want {
		t.Errorf("Check(%v, %v): error %d; want %d", s, tracks, e, want)
	}
	if !isSameSheet(s, sBefore) || !slices.Equal(tracks, tracksBefore) {
		t.Errorf("Check has changed %v, %v to %v, %v", sBefore, tracksBefore, s, tracks)
	}
}

// agrees checks Schemes and Plan against the definitions, and Check on what Plan returns.
func agrees(t *testing.T, items []api.Item, tracks []int) api.Errno {
	t.Helper()
	l, _, e := schemesOf(items)
	sameSchemes(t, items, l, e)
	s, refusal, e := planOf(items, tracks)
	samePlan(t, items, tracks, s, refusal, e)
	if e == api.OK {
		sameCheck(t, s, tracks, api.OK)
	}
	return e
}

// overwrite writes over a list up to its capacity.
func overwrite[T any](l []T, x T) {
	for i := range l[:cap(l)] {
		l[:cap(l)][i] = x
	}
}

// P17.1

func TestP17_1Items(t *testing.T) {
	orders := []api.Order{order("a", "b", "a"), {}, order("b", "c", "d", "c", "a")}
	for _, c := range []struct {
		orders []api.Order
		l      []api.Wagon
		items  []api.Item
	}{
		{nil, nil, nil},
		{orders, nil, nil},
		{orders, []api.Wagon{}, nil},
		// the first train and its first block
		{orders, []api.Wagon{flat("a", 400)}, []api.Item{{Length: 400}}},
		{orders, []api.Wagon{flat("b", 80)}, []api.Item{{Block: 1, Length: 80}}},
		{orders, []api.Wagon{flat("c", 200)}, []api.Item{{Train: 2, Block: 1, Length: 200}}},
		{orders, []api.Wagon{flat("d", 81)}, []api.Item{{Train: 2, Block: 2, Length: 81}}},
		// in the order of the wagons
		{orders, flats("d", "b", "a", "c", "b"), []api.Item{
			{Train: 2, Block: 2, Length: 100}, {Block: 1, Length: 101}, {Length: 102}, {Train: 2, Block: 1, Length: 103}, {Block: 1, Length: 104}}},
		// the first train counts before the first block
		{[]api.Order{order("x", "y"), order("y")}, flats("y"), []api.Item{{Block: 1, Length: 100}}},
		{[]api.Order{order("y"), order("x", "y")}, flats("x"), []api.Item{{Train: 1, Length: 100}}},
		// the whole name counts
		{[]api.Order{order("aa", "a"), order("b", "ab")}, flats("a", "aa", "ab", "b"), []api.Item{
			{Block: 1, Length: 100}, {Length: 101}, {Train: 1, Block: 1, Length: 102}, {Train: 1, Length: 103}}},
		// elements of Blocks that are no names are not objected to
		{[]api.Order{order("", "A", "thirteenbytes", "a\x00", "a")}, flats("a"), []api.Item{{Block: 4, Length: 100}}},
	} {
		sameItems(t, c.orders, c.l, c.items, api.OK)
		want, e := itemsOf(c.orders, c.l)
		sameItems(t, c.orders, c.l, want, e)
	}
}

// Nothing of a wagon but its Dest and Length matters for its item, if the wagon is valid; a Number may be used twice.
func TestP17_1Wagons(t *testing.T) {
	l := []api.Wagon{
		{Number: flatNumber, Length: 200, Axles: 4, Mass: 600, Brake: 500, Goods: 3, Gentle: true, Dest: "b"},
		{Number: tankNumber, Length: 160, Axles: 4, Mass: 800, Brake: 700, Goods: 9, Dest: "b"},
		{Number: twoNumber, Length: 80, Axles: 2, Mass: 50, Dest: "b"},
		{Number: sixNumber, Length: 400, Axles: 6, Mass: 2000, Brake: 2000, Goods: 1, Gentle: true, Dest: "b"},
		{Number: twoNumber, Length: 80, Axles: 2, Mass: 50, Dest: "b"},
	}
	var want []api.Item
	for _, w := range l {
		want = append(want, api.Item{Train: 1, Block: 2, Length: w.Length})
	}
	sameItems(t, []api.Order{order("a"), order("c", "d", "b")}, l, want, api.OK)
}

// fullOrders returns as many orders as possible with as many blocks as possible.
func fullOrders() []api.Order {
	var orders []api.Order
	for t := range maxTrains {
		var o api.Order
		for b := range maxBlocks {
			o.Blocks = append(o.Blocks, "t"+strconv.Itoa(t)+"b"+strconv.Itoa(b))
		}
		orders = append(orders, o)
	}
	return orders
}

// Every block of every order, and as many wagons as possible.
func TestP17_1EachBlock(t *testing.T) {
	orders := fullOrders()
	var l []api.Wagon
	var want []api.Item
	for train, o := range orders {
		for block, dest := range o.Blocks {
			l = append(l, flat(dest, 80+len(l)))
			want = append(want, api.Item{Train: train, Block: block, Length: 80 + len(want)})
			if len(l) == maxWagons {
				sameItems(t, orders, l, want, api.OK)
				l, want = nil, nil
			}
		}
	}
	sameItems(t, orders, l, want, api.OK)
}

func TestP17_1Limits(t *testing.T) {
	orders := []api.Order{order("a")}
	sameItems(t, make([]api.Order, maxTrains), nil, nil, api.OK)
	sameItems(t, append(make([]api.Order, maxTrains-1), orders...), flats("a"), []api.Item{{Train: maxTrains - 1, Length: 100}}, api.OK)
	sameItems(t, append(orders, make([]api.Order, maxTrains)...), flats("a"), nil, api.ErrLimit)
	sameItems(t, make([]api.Order, 5000), nil, nil, api.ErrLimit)
	few, many := append(make([]string, maxBlocks-1), "a"), append(make([]string, maxBlocks), "a")
	sameItems(t, []api.Order{order(few...)}, flats("a"), []api.Item{{Block: maxBlocks - 1, Length: 100}}, api.OK)
	for _, o := range [][]api.Order{
		{order(many...)}, {order(many...), order("a")}, {order("a"), order(many...)}, {order("a"), order(make([]string, 5000)...), {}},
		append(make([]api.Order, maxTrains-1), order(many...)),
	} {
		sameItems(t, o, nil, nil, api.ErrLimit)
		sameItems(t, o, flats("a"), nil, api.ErrLimit)
	}
	wagons := slices.Repeat(flats("a"), maxWagons)
	sameItems(t, orders, wagons, slices.Repeat(one(0), maxWagons), api.OK)
	sameItems(t, orders, append(wagons, wagons[0]), nil, api.ErrLimit)
	sameItems(t, nil, make([]api.Wagon, 5000), nil, api.ErrLimit)
}

// spoilings returns ways to spoil a wagon, with each error of consist.Valid among them, and a Dest that no order has.
func spoilings() []func(w *api.Wagon) {
	return []func(w *api.Wagon){
		func(w *api.Wagon) { w.Number = "00000000000" },
		func(w *api.Wagon) { w.Number = "000000000001" },
		func(w *api.Wagon) { w.Axles = 2 },
		func(w *api.Wagon) { w.Length = 79 },
		func(w *api.Wagon) { w.Length = maxLength + 1 },
		func(w *api.Wagon) { w.Length = math.MaxInt },
		func(w *api.Wagon) { w.Mass = math.MinInt },
		func(w *api.Wagon) { w.Brake = -1 },
		func(w *api.Wagon) { w.Goods = 10 },
		func(w *api.Wagon) { w.Dest = "" },
		func(w *api.Wagon) { w.Dest = "A" },
		func(w *api.Wagon) { w.Dest = "nowhere" },
	}
}

// spoilt returns a wagon for "a" that is spoilt.
func spoilt(spoil func(w *api.Wagon)) api.Wagon {
	w := flat("a", 100)
	spoil(&w)
	return w
}

// Each error of a wagon, in each place, and the first of two errors.
func TestP17_1Errors(t *testing.T) {
	// Names that no wagon may have stand in the order all the same.
	orders := []api.Order{order("", "A"), order("a")}
	counts := map[api.Errno]int{}
	for _, spoil := range spoilings() {
		w := spoilt(spoil)
		want := consist.Valid(w)
		if want == api.OK {
			want = api.ErrMissing
		}
		counts[want]++
		sameItems(t, orders, []api.Wagon{w}, nil, want)
		for n := range maxWagons {
			l := slices.Repeat(flats("a"), maxWagons)
			l[n] = w
			sameItems(t, orders, l, nil, want)
		}
		for _, other := range spoilings() {
			sameItems(t, orders, []api.Wagon{flat("a", 100), w, spoilt(other)}, nil, want)
			both := spoilt(func(w *api.Wagon) { spoil(w); other(w) })
			_, e := itemsOf(orders, []api.Wagon{both})
			sameItems(t, orders, []api.Wagon{both}, nil, e)
		}
		// too many elements come before each error of a wagon
		sameItems(t, append(make([]api.Order, maxTrains), order("a")), []api.Wagon{w}, nil, api.ErrLimit)
		sameItems(t, []api.Order{order(make([]string, maxBlocks+1)...)}, []api.Wagon{w}, nil, api.ErrLimit)
		sameItems(t, orders, slices.Repeat([]api.Wagon{w}, maxWagons+1), nil, api.ErrLimit)
	}
	for _, e := range []api.Errno{api.ErrForm, api.ErrChecksum, api.ErrInvalid, api.ErrRange, api.ErrName, api.ErrMissing} {
		if counts[e] == 0 {
			t.Errorf("no wagon has the error %d", e)
		}
	}
	sameItems(t, nil, flats("a"), nil, api.ErrMissing)
	sameItems(t, []api.Order{{}, {}}, flats("a"), nil, api.ErrMissing)
	sameItems(t, []api.Order{order("ab", "b")}, flats("a"), nil, api.ErrMissing)
}

// Random orders with few names, and wagons, of which some are spoilt.
func TestP17_1RandomOrders(t *testing.T) {
	r := random(1)
	names := []string{"a", "b", "c", "d", "e", "aa", "ab", "ba", "0", "00", ""}
	counts := map[api.Errno]int{}
	for range 4000 {
		orders := make([]api.Order, r.IntN(6))
		for t := range orders {
			for range r.IntN(6) {
				orders[t].Blocks = append(orders[t].Blocks, names[r.IntN(len(names))])
			}
		}
		var l []api.Wagon
		for range r.IntN(6) {
			w := flat(names[r.IntN(len(names)-1)], 80+r.IntN(maxLength-79))
			if r.IntN(9) == 0 {
				spoilings()[r.IntN(len(spoilings()))](&w)
			}
			l = append(l, w)
		}
		want, e := itemsOf(orders, l)
		sameItems(t, orders, l, want, e)
		counts[e]++
	}
	if len(counts) != 7 || counts[api.OK] < 1000 || counts[api.ErrMissing] < 1000 {
		t.Errorf("%v", counts)
	}
}

// The items are a valid job with every weight.
func TestP17_1Job(t *testing.T) {
	orders := fullOrders()
	r := random(2)
	for range 300 {
		var l []api.Wagon
		for range r.IntN(maxWagons + 1) {
			o := orders[r.IntN(maxTrains)]
			l = append(l, flat(o.Blocks[r.IntN(maxBlocks)], 80+r.IntN(maxLength-79)))
		}
		items, e := planner.Items(orders, l)
		if e != api.OK || len(items) != len(l) {
			t.Fatalf("Items(%v): %v, error %d", l, items, e)
		}
		for _, weight := range weights() {
			if e := job.Valid(api.Job{Items: items, Weight: weight}); e != api.OK {
				t.Errorf("Items(%v): %v, job.Valid: error %d", l, items, e)
			}
		}
	}
}

func TestP17_1NewMemory(t *testing.T) {
	orders, l := []api.Order{order("a", "b"), order("c")}, flats("b", "c", "a", "b", "b")
	first, _ := planner.Items(orders, l)
	second, _ := planner.Items(orders, l)
	want := slices.Clone(first)
	overwrite(first, api.Item{Train: -77})
	if !slices.Equal(second, want) {
		t.Errorf("%v has become %v", want, second)
	}
	sameItems(t, orders, l, want, api.OK)
}

// P17.2

// listed returns schemes, each of which is given as its weight, steps, moves and pushes.
func listed(l [][4]int) []api.Scheme {
	var schemes []api.Scheme
	for _, x := range l {
		schemes = append(schemes, api.Scheme{Weight: x[0], Steps: x[1], Moves: x[2], Pushes: x[3]})
	}
	return schemes
}

func TestP17_2Schemes(t *testing.T) {
	for _, c := range []struct {
		items []api.Item
		want  [][4]int
	}{
		{nil, [][4]int{{0}, {1}, {2}, {12}}},
		{[]api.Item{}, [][4]int{{0}, {1}, {2}, {12}}},
		// blocks that do not fall need no steps
		{one(0, 0, 1), [][4]int{{0, 0, 3, 1}, {1, 0, 3, 1}, {2, 0, 3, 1}, {12, 0, 3, 1}}},
		// a fall is not possible by train, and a short one is as good with each other weight
		{one(1, 0), [][4]int{{1, 1, 3, 2}, {2, 1, 3, 2}, {12, 1, 3, 2}}},
		{one(1, 3, 0, 2), [][4]int{{1, 2, 7, 3}, {2, 2, 7, 3}, {12, 2, 7, 3}}},
		// fewer steps come before fewer moves
		{one(3, 2, 1, 0), [][4]int{{2, 2, 8, 3}, {12, 2, 8, 3}, {1, 3, 7, 4}}},
		{one(down(8)...), [][4]int{{12, 3, 20, 4}, {2, 4, 18, 5}, {1, 7, 15, 8}}},
		// with as many steps, fewer moves come first, whether the weight is the greater or the lesser one
		{one(8, 8, 8, 7, 6, 5, 4, 3, 2, 1, 0), [][4]int{{12, 4, 26, 5}, {2, 4, 27, 5}, {1, 8, 21, 9}}},
		{one(8, 7, 7, 7, 7, 6, 5, 4, 3, 2, 1, 0), [][4]int{{2, 4, 27, 5}, {12, 4, 34, 5}, {1, 8, 23, 9}}},
		// fourteen blocks that fall are too many for the weight 1, thirteen are not
		{one(down(13)...), [][4]int{{12, 4, 35, 5}, {2, 5, 32, 6}, {1, 12, 25, 13}}},
		{one(down(14)...), [][4]int{{12, 4, 39, 5}, {2, 5, 35, 6}}},
		// the fall is in another train
		{[]api.Item{{Train: 0, Block: 1, Length: 1}, {Train: 1, Block: 0, Length: 1}}, [][4]int{{0, 0, 2, 1}, {1, 0, 2, 1}, {2, 0, 2, 1}, {12, 0, 2, 1}}},
		// an item of a later round is missed by the steps before it
		{rounds([2]int{0, 3}), [][4]int{{0, 3, 1, 1}, {1, 3, 1, 1}, {2, 3, 1, 1}, {12, 3, 1, 1}}},
		{rounds([2]int{5, 0}, [2]int{5, 12}), [][4]int{{0, 12, 2, 2}, {1, 12, 2, 2}, {2, 12, 2, 2}, {12, 12, 2, 2}}},
		{rounds([2]int{1, 0}, [2]int{0, 1}), [][4]int{{1, 2, 3, 3}, {2, 2, 3, 3}, {12, 2, 3, 3}}},
	} {
		sameSchemes(t, c.items, listed(c.want), api.OK)
		want, _, e := schemesOf(c.items)
		sameSchemes(t, c.items, want, e)
	}
}

// wrongItems returns items that are no valid job with the weight 0, for each error of job.Valid.
func wrongItems() [][]api.Item {
	l := [][]api.Item{
		make([]api.Item, maxWagons+1),
		slices.Repeat(one(0), maxWagons+1),
		make([]api.Item, 5000),
		rounds([2]int{0, 1}, [2]int{0, 0}),
		rounds([2]int{1, 0}, [2]int{0, 2}, [2]int{5, 1}),
		// the first error comes first, and each of them before ErrNone
		append(rounds([2]int{1, 12}, [2]int{0, 12}, [2]int{0, 11}), api.Item{}),
		append(rounds([2]int{1, 12}, [2]int{0, 12}), api.Item{Round: 11}),
	}
	for _, n := range []int{-1, 0, maxRound + 1, maxTrains, maxBlocks, maxLength + 1, math.MinInt, math.MaxInt} {
		for _, x := range []api.Item{{Train: n, Length: 1}, {Block: n, Length: 1}, {Round: n, Length: 1}, {Length: n}} {
			for _, items := range [][]api.Item{{x}, append(one(1, 0), x)} {
				if job.Valid(api.Job{Items: items}) != api.OK {
					l = append(l, items)
				}
			}
		}
	}
	return l
}

// impossible returns items for which no scheme is possible.
func impossible() [][]api.Item {
	return [][]api.Item{
		rounds([2]int{1, 12}, [2]int{0, 12}),
		rounds([2]int{1, 0}, [2]int{0, 12}),
		rounds([2]int{0, 0}, [2]int{3, 11}, [2]int{2, 11}, [2]int{1, 11}),
		append(one(1, 3, 0, 2), api.Item{Train: 15, Block: 7, Round: 12, Length: 1}, api.Item{Train: 15, Block: 6, Round: 12, Length: 1}),
	}
}

func TestP17_2Errors(t *testing.T) {
	counts := map[api.Errno]int{}
	for _, items := range wrongItems() {
		e := job.Valid(api.Job{Items: items})
		sameSchemes(t, items, nil, e)
		counts[e]++
	}
	if len(counts) != 3 || counts[api.OK] != 0 {
		t.Errorf("%v", counts)
	}
	for _, items := range impossible() {
		sameSchemes(t, items, nil, api.ErrNone)
	}
	// one weight is enough
	sameSchemes(t, rounds([2]int{1, 11}, [2]int{0, 11}), listed([][4]int{{1, 12, 3, 2}, {2, 12, 3, 2}, {12, 12, 3, 2}}), api.OK)
	sameSchemes(t, rounds([2]int{2, 10}, [2]int{1, 10}, [2]int{0, 10}), listed([][4]int{{1, 12, 5, 3}, {2, 12, 5, 3}, {12, 12, 5, 3}}), api.OK)
	sameSchemes(t, rounds([2]int{3, 10}, [2]int{2, 10}, [2]int{1, 10}, [2]int{0, 10}), listed([][4]int{{2, 12, 8, 3}, {12, 12, 8, 3}}), api.OK)
	sameSchemes(t, rounds(eachDown(8, 9)...), listed([][4]int{{12, 12, 20, 4}}), api.OK)
	sameSchemes(t, rounds(eachDown(9, 9)...), nil, api.ErrNone)
}

// eachDown returns n blocks that fall, in one round.
func eachDown(n, round int) [][2]int {
	var l [][2]int
	for _, b := range down(n) {
		l = append(l, [2]int{b, round})
	}
	return l
}

func TestP17_2Longest(t *testing.T) {
	sameSchemes(t, full(), listed([][4]int{{12, 5, 80 + maxWagons, 6}, {2, 8, 54 + maxWagons, 9}}), api.OK)
	want, _, e := schemesOf(full())
	sameSchemes(t, full(), want, e)
	sameSchemes(t, make([]api.Item, maxWagons), nil, api.ErrRange)
}

// The schemes are those for which package rollin finds these numbers.
func TestP17_2Numbers(t *testing.T) {
	r := random(3)
	possible := map[int]int{}
	for range 300 {
		items := randomItems(r, randomShape(r, 24))
		l, e := planner.Schemes(items)
		for _, weight := range weights() {
			j := api.Job{Items: items, Weight: weight}
			proof, makeError := certificate.Make(j)
			n := slices.IndexFunc(l, func(s api.Scheme) bool { return s.Weight == weight })
			if (makeError == api.OK) != (n >= 0) {
				t.Fatalf("Schemes(%v): %v, error %d; weight %d: error %d", items, l, e, weight, makeError)
			}
			if n < 0 {
				continue
			}
			possible[weight]++
			sorted, _ := rollin.Run(j, proof.Plan)
			pushes, _ := rollin.Pushes(j, proof.Plan)
			if want := (api.Scheme{Weight: weight, Steps: proof.Plan.Steps, Moves: sorted.Moves, Pushes: pushes}); l[n] != want {
				t.Errorf("Schemes(%v): %v; want %v among them", items, l, want)
			}
		}
	}
	for _, weight := range weights() {
		if possible[weight] < 30 {
			t.Errorf("%v", possible)
		}
	}
}

// The consequences: the first scheme has the fewest steps, the geometric one never more than another one.
func TestP17_2FewestSteps(t *testing.T) {
	r := random(4)
	orders := map[[4]int]bool{}
	for range 600 {
		items := randomItems(r, randomShape(r, 48))
		l, e := planner.Schemes(items)
		if e != api.OK {
			continue
		}
		var ranks [4]int
		for n, s := range l {
			ranks[slices.Index(weights(), s.Weight)] = n + 1
			if s.Steps < l[0].Steps {
				t.Errorf("Schemes(%v): %v", items, l)
			}
		}
		last := slices.IndexFunc(l, func(s api.Scheme) bool { return s.Weight == 12 })
		if last < 0 || l[last].Steps != l[0].Steps {
			t.Errorf("Schemes(%v): the geometric scheme is not as good as the first one of %v", items, l)
		}
		orders[ranks] = true
	}
	if len(orders) < 5 {
		t.Errorf("only the orders %v", orders)
	}
}

func TestP17_2NewMemory(t *testing.T) {
	for _, items := range [][]api.Item{nil, one(0, 0, 1), one(1, 3, 0, 2), one(down(8)...)} {
		before := slices.Clone(items)
		first, _ := planner.Schemes(items)
		second, _ := planner.Schemes(items)
		want := slices.Clone(first)
		overwrite(first, api.Scheme{Weight: -77})
		if !slices.Equal(second, want) || !slices.Equal(items, before) {
			t.Errorf("%v, %v have become %v, %v", before, want, items, second)
		}
		sameSchemes(t, items, want, api.OK)
	}
}

// P17.3

// sheet returns a sheet.
func sheet(items []api.Item, weight, steps int, codes, chain, tracks []int) api.Sheet {
	return api.Sheet{
		Job:    api.Job{Items: items, Weight: weight},
		Proof:  api.Proof{Plan: api.Plan{Steps: steps, Codes: codes}, Chain: chain},
		Tracks: tracks,
	}
}

func TestP17_3Plan(t *testing.T) {
	fall := one(3, 2, 1, 0)
	trains := []api.Item{{Train: 2, Block: 9, Length: 100}, {Train: 0, Length: 80}, {Train: 2, Block: 4, Length: 200}}
	for _, c := range []struct {
		items  []api.Item
		tracks []int
		want   api.Sheet
	}{
		{nil, nil, api.Sheet{}},
		{nil, []int{1}, api.Sheet{}},
		// the first of schemes with the same numbers
		{one(0, 0, 1), []int{200, 300}, sheet(one(0, 0, 1), 0, 0, of(3, 0), []int{0}, []int{1})},
		{one(1, 3, 0, 2), []int{400, 100, 200}, sheet(one(1, 3, 0, 2), 1, 2, []int{1, 2, 0, 1}, []int{2, 0, 3, 1}, []int{2, 1, 0})},
		// the fewest steps
		{fall, []int{400, 200, 200}, sheet(fall, 2, 2, down(4), down(4), []int{1, 2, 0})},
		{fall, of(maxTracks, longest), sheet(fall, 2, 2, down(4), down(4), []int{1, 2, 0})},
		// more steps, if the tracks for the fewest are too short
		{fall, []int{400, 100, 100, 100}, sheet(fall, 1, 3, []int{4, 2, 1, 0}, down(4), []int{1, 2, 3, 0})},
		{fall, []int{100, 199, 100, 400}, sheet(fall, 1, 3, []int{4, 2, 1, 0}, down(4), []int{0, 2, 1, 3})},
		{fall, []int{100, 200, 200, 400}, sheet(fall, 2, 2, down(4), down(4), []int{1, 2, 3})},
		// trains without items need no track
		{trains, []int{80, 300, 100}, sheet(trains, 1, 1, []int{1, 0, 0}, []int{2, 0}, []int{2, 0, -1, 1})},
		{[]api.Item{{Train: 1, Length: 7}}, []int{7}, sheet([]api.Item{{Train: 1, Length: 7}}, 0, 0, []int{0}, []int{0}, []int{-1, 0})},
		// steps that an item has missed need none either
		{rounds([2]int{5, 3}), []int{99, 100}, sheet(rounds([2]int{5, 3}), 0, 3, []int{7}, []int{0}, []int{-1, -1, -1, 1})},
	} {
		samePlan(t, c.items, c.tracks, c.want, nil, api.OK)
		agrees(t, c.items, c.tracks)
	}
}

// eight returns items for which the second and the third scheme need shorter tracks than those before, but more of them.
func eight() []api.Item { return one(down(8)...) }

// Each scheme in turn is the first one that finds tracks.
func TestP17_3EachScheme(t *testing.T) {
	for _, c := range []struct {
		weight int
		tracks []int
	}{
		{12, []int{800, 400, 400, 400}},
		{2, []int{800, 300, 300, 300, 100}},
		{2, []int{800, 400, 300, 300, 100}},
		{2, []int{800, 400, 400, 399, 100}},
		{1, []int{800, 100, 100, 100, 100, 100, 100, 100}},
		{1, []int{800, 300, 300, 299, 100, 100, 100, 100}},
		{1, []int{800, 400, 399, 299, 100, 100, 100, 100}},
		{12, []int{800, 400, 400, 400, 100, 100, 100, 100}},
	} {
		s, refusal, e := planner.Plan(eight(), c.tracks)
		if s.Job.Weight != c.weight || len(refusal) != 0 || e != api.OK {
			t.Errorf("Plan(.., %v): %v, %v, error %d; want the weight %d", c.tracks, s, refusal, e, c.weight)
		}
		agrees(t, eight(), c.tracks)
	}
}

func TestP17_3Refusals(t *testing.T) {
	fall := one(3, 2, 1, 0)
	for _, c := range []struct {
		items   []api.Item
		tracks  []int
		refusal []int
	}{
		{fall, nil, []int{2}},
		{fall, []int{399}, []int{2}},
		{fall, []int{399, 399, 399, 399}, []int{2}},
		{fall, []int{400}, []int{0, 2}},
		{fall, []int{400, 199, 100}, []int{0, 2}},
		{fall, []int{400, 200, 100}, []int{0, 1, 2}},
		{one(0, 0, 1), []int{299}, []int{0}},
		{[]api.Item{{Train: 3, Length: 8}}, []int{7}, []int{3}},
		{[]api.Item{{Train: 1, Length: 8}, {Train: 3, Length: 9}}, []int{8, 8}, []int{3}},
		{[]api.Item{{Train: 1, Length: 8}, {Train: 3, Length: 9}}, []int{9}, []int{1, 3}},
		{rounds([2]int{5, 3}), []int{99}, []int{3}},
		// the refusals for the other schemes have other indexes: the tracks of the trains have the indexes 3, 4 and 7
		{eight(), []int{799}, []int{3}},
		{eight(), []int{800, 399, 399, 399}, []int{0, 3}},
		{eight(), []int{800, 400, 400}, []int{0, 1, 2, 3}},
	} {
		samePlan(t, c.items, c.tracks, api.Sheet{}, c.refusal, api.ErrRoom)
		agrees(t, c.items, c.tracks)
	}
}

func TestP17_3Errors(t *testing.T) {
	wrongTracks := []struct {
		tracks []int
		e      api.Errno
	}{
		{of(maxTracks+1, 1), api.ErrLimit},
		{of(maxTracks+1, 0), api.ErrLimit},
		{of(5000, longest+1), api.ErrLimit},
		{[]int{0}, api.ErrRange},
		{[]int{-1}, api.ErrRange},
		{[]int{longest + 1}, api.ErrRange},
		{[]int{math.MinInt}, api.ErrRange},
		{[]int{math.MaxInt}, api.ErrRange},
		{[]int{1, 0}, api.ErrRange},
		{append(of(maxTracks-1, longest), longest+1), api.ErrRange},
		{append(of(maxTracks-1, 1), 0), api.ErrRange},
	}
	for _, c := range wrongTracks {
		for _, items := range [][]api.Item{nil, one(0, 0, 1), one(3, 2, 1, 0), full()} {
			samePlan(t, items, c.tracks, api.Sheet{}, nil, c.e)
		}
	}
	// the errors of Schemes come before those of the tracks
	for _, items := range append(wrongItems(), impossible()...) {
		_, want := planner.Schemes(items)
		if want == api.OK {
			t.Errorf("Schemes(%v): no error", items)
		}
		for _, c := range wrongTracks {
			samePlan(t, items, c.tracks, api.Sheet{}, nil, want)
		}
		samePlan(t, items, of(maxTracks, longest), api.Sheet{}, nil, want)
		samePlan(t, items, nil, api.Sheet{}, nil, want)
	}
	// the ends of the ranges
	fall := one(3, 2, 1, 0)
	for _, tracks := range [][]int{of(maxTracks, longest), append(of(maxTracks-3, 1), 200, 200, 400)} {
		if e := agrees(t, fall, tracks); e != api.OK {
			t.Errorf("Plan(%v, %v): error %d", fall, tracks, e)
		}
	}
	if e := agrees(t, fall, of(maxTracks, 1)); e != api.ErrRoom {
		t.Errorf("Plan(%v, ..): error %d", fall, e)
	}
}

// As many items as possible, as long as possible.
func TestP17_3Longest(t *testing.T) {
	items := full()
	for x := range items {
		items[x].Length = maxLength
	}
	if e := agrees(t, items, of(maxTracks, longest)); e != api.OK {
		t.Errorf("error %d", e)
	}
	if e := agrees(t, items, of(maxTracks, longest-1)); e != api.ErrRoom {
		t.Errorf("error %d", e)
	}
}

// As many loads above 0 as possible: those of 12 steps and 16 trains.
func TestP17_3MostLoads(t *testing.T) {
	items := one(down(13)...)
	for train := 1; train < maxTrains; train++ {
		items = append(items, api.Item{Train: train, Length: 100})
	}
	tracks := append(of(maxSteps+maxTrains-1, 100), 1300)
	s, _, e := planner.Plan(items, tracks)
	if e != api.OK || s.Job.Weight != 1 || len(s.Tracks) != maxSteps+maxTrains || slices.Contains(s.Tracks, -1) {
		t.Errorf("Plan(%v, %v): %v, error %d", items, tracks, s, e)
	}
	agrees(t, items, tracks)
	if e := agrees(t, items, tracks[1:]); e != api.ErrRoom {
		t.Errorf("Plan(%v, %v): error %d", items, tracks[1:], e)
	}
}

// All items of small jobs, with some tracks.
func TestP17AllSmallJobs(t *testing.T) {
	counts := map[api.Errno]int{}
	for _, s := range []shape{{0, 1, 1, 1}, {1, 2, 2, 4}, {2, 2, 2, 4}, {3, 2, 3, 2}, {4, 1, 4, 1}, {4, 2, 2, 1}, {4, 1, 2, 3}} {
		eachItems(s, func(items []api.Item) {
			for _, tracks := range [][]int{nil, {15, 15, 15}, {1, 2, 4, 8, 16}, {15, 7, 3, 1}, {2, 9, 5, 4, 7, 3}} {
				counts[agrees(t, items, tracks)]++
			}
		})
	}
	if counts[api.OK] < 1000 || counts[api.ErrRoom] < 1000 {
		t.Errorf("%v", counts)
	}
}

// Random items, and tracks that are about long enough for one of the schemes.
func TestP17RandomJobs(t *testing.T) {
	r := random(5)
	counts := map[api.Errno]int{}
	chosen := map[int]int{}
	for n := range 800 {
		shape := randomShape(r, 20)
		switch {
		case n%20 == 0:
			shape = randomShape(r, maxWagons)
		case n%2 == 0:
			// In one long train, the schemes differ the most.
			shape.items, shape.trains, shape.blocks, shape.rounds = 12+r.IntN(12), 1, maxBlocks, 1
		}
		items := randomItems(r, shape)
		tracks := randomTracks(r, items)
		counts[agrees(t, items, tracks)]++
		if l, _, e := schemesOf(items); e == api.OK {
			s, _, _ := planOf(items, tracks)
			for n := range l {
				if len(s.Tracks) > 0 && l[n].Weight == s.Job.Weight {
					chosen[n]++
				}
			}
		}
	}
	if len(counts) != 3 || counts[api.OK] < 100 || counts[api.ErrRoom] < 100 || counts[api.ErrNone] < 50 {
		t.Errorf("%v", counts)
	}
	if chosen[0] < 100 || chosen[1] < 20 || chosen[2] < 20 {
		t.Errorf("how many times each place of a scheme was chosen: %v", chosen)
	}
}

// A sheet sorts its job, no possible scheme with fewer steps finds tracks, and a refusal is one of the first scheme.
func TestP17_3Sheets(t *testing.T) {
	r := random(6)
	sheets, refusals := 0, 0
	for range 400 {
		items := randomItems(r, randomShape(r, 16))
		tracks := randomTracks(r, items)
		schemes, e := planner.Schemes(items)
		if e != api.OK {
			continue
		}
		s, refusal, e := planner.Plan(items, tracks)
		for n, scheme := range schemes {
			j := api.Job{Items: items, Weight: scheme.Weight}
			proof, _ := certificate.Make(j)
			loads, _ := rollin.Loads(j, proof.Plan)
			if e == api.ErrRoom && n == 0 && !assign.Refuses(loads, tracks, refusal) {
				t.Errorf("Plan(%v, %v): %v is no refusal", items, tracks, refusal)
			}
			_, _, matchError := assign.Match(loads, tracks)
			if e == api.OK && scheme.Weight == s.Job.Weight {
				break
			}
			if matchError != api.ErrRoom {
				t.Errorf("Plan(%v, %v): %v, error %d; but the weight %d finds tracks", items, tracks, s, e, scheme.Weight)
			}
		}
		if e == api.ErrRoom {
			refusals++
			continue
		}
		sheets++
		sorted, _ := rollin.Run(s.Job, s.Proof.Plan)
		if is, e := job.Sorted(s.Job, sorted.Trains); !is || e != api.OK {
			t.Errorf("Plan(%v, %v): %v does not sort, error %d", items, tracks, s, e)
		}
	}
	if sheets < 100 || refusals < 50 {
		t.Errorf("%d sheets, %d refusals", sheets, refusals)
	}
}

// The consequence: if a longer track takes the place of a track, a plan that was possible stays possible, with no more steps.
func TestP17_3LongerTracks(t *testing.T) {
	r := random(7)
	count := 0
	for range 600 {
		items := randomItems(r, randomShape(r, 12))
		tracks := randomTracks(r, items)
		s, _, e := planner.Plan(items, tracks)
		if e != api.OK || len(tracks) == 0 {
			continue
		}
		n := r.IntN(len(tracks))
		tracks[n] += r.IntN(longest + 1 - tracks[n])
		longer, _, e := planner.Plan(items, tracks)
		if e != api.OK || longer.Proof.Plan.Steps > s.Proof.Plan.Steps {
			t.Errorf("Plan(%v, %v): %v, error %d; with a shorter track %v", items, tracks, longer, e, s)
		}
		count++
	}
	if count < 150 {
		t.Errorf("only %d plans", count)
	}
}

// Writing into a list of a result, up to its capacity, changes neither another list of it, nor another result, nor an argument.
func TestP17_3NewMemory(t *testing.T) {
	for _, c := range []struct {
		items  []api.Item
		tracks []int
	}{
		{one(1, 3, 0, 2), []int{400, 100, 200}}, {one(0, 0, 1), []int{300}}, {eight(), []int{800, 300, 300, 300, 100}}, {full(), of(maxTracks, longest)},
		{eight(), []int{800}}, {one(3, 2, 1, 0), []int{400, 200, 100}},
	} {
		itemsBefore, tracksBefore := slices.Clone(c.items), slices.Clone(c.tracks)
		first, refusal, e := planner.Plan(c.items, c.tracks)
		second, secondRefusal, _ := planner.Plan(c.items, c.tracks)
		want, wantRefusal := cloneSheet(first), slices.Clone(refusal)
		rest := cloneSheet(first)
		overwrite(first.Job.Items, api.Item{Train: -77})
		rest.Job.Items = first.Job.Items
		for _, l := range []struct{ written, kept *[]int }{
			{&first.Proof.Plan.Codes, &rest.Proof.Plan.Codes}, {&first.Proof.Chain, &rest.Proof.Chain}, {&first.Tracks, &rest.Tracks},
		} {
			if !isSameSheet(first, rest) {
				t.Errorf("%v has become %v", rest, first)
			}
			overwrite(*l.written, -77)
			*l.kept = *l.written
		}
		overwrite(refusal, -77)
		if !isSameSheet(second, want) || !slices.Equal(secondRefusal, wantRefusal) {
			t.Errorf("%v, %v have become %v, %v", want, wantRefusal, second, secondRefusal)
		}
		if !slices.Equal(c.items, itemsBefore) || !slices.Equal(c.tracks, tracksBefore) {
			t.Errorf("%v, %v have become %v, %v", itemsBefore, tracksBefore, c.items, c.tracks)
		}
		samePlan(t, c.items, c.tracks, want, wantRefusal, e)
	}
}

// P17.4

// four returns the sheet of the document's example, with tracks for it.
func four() (api.Sheet, []int) {
	return sheet(one(1, 3, 0, 2), 1, 2, []int{1, 2, 0, 1}, []int{2, 0, 3, 1}, []int{2, 1, 0}), []int{400, 100, 200, 200}
}

func TestP17_4Check(t *testing.T) {
	for _, c := range []struct {
		change func(s *api.Sheet)
		e      api.Errno
	}{
		{func(s *api.Sheet) {}, api.OK},
		// another weight, also one that is none of the schemes, and codes that are not the least ones
		{func(s *api.Sheet) { s.Job.Weight = 2 }, api.OK},
		{func(s *api.Sheet) { s.Job.Weight = 7 }, api.OK},
		{func(s *api.Sheet) { s.Job.Weight = 12 }, api.OK},
		{func(s *api.Sheet) { s.Job.Weight, s.Proof.Plan.Codes[1], s.Tracks[0] = 2, 3, 2 }, api.ErrRoom},
		{func(s *api.Sheet) {
			s.Job.Weight, s.Proof.Plan.Codes[1], s.Job.Items[1].Length = 2, 3, 20
			s.Job.Items[0].Length, s.Job.Items[3].Length = 90, 90
		}, api.OK},
		// another assignment
		{func(s *api.Sheet) { s.Tracks = []int{3, 1, 0} }, api.OK},
		{func(s *api.Sheet) { s.Tracks = []int{3, 2, 0} }, api.OK},
		// the errors of certificate.Check
		{func(s *api.Sheet) { s.Job.Items = make([]api.Item, maxWagons+1) }, api.ErrLimit},
		{func(s *api.Sheet) { s.Job.Weight = 13 }, api.ErrRange},
		{func(s *api.Sheet) { s.Job.Weight = -1 }, api.ErrRange},
		{func(s *api.Sheet) { s.Job.Items[3].Length = 0 }, api.ErrRange},
		{func(s *api.Sheet) { s.Job.Items[0].Round = 1 }, api.ErrOrder},
		{func(s *api.Sheet) { s.Job.Weight = 0 }, api.ErrInvalid},
		{func(s *api.Sheet) { s.Proof.Plan.Steps = 1 }, api.ErrInvalid},
		{func(s *api.Sheet) { s.Proof.Plan.Steps = math.MaxInt }, api.ErrInvalid},
		{func(s *api.Sheet) { s.Proof.Plan.Codes = s.Proof.Plan.Codes[:3] }, api.ErrInvalid},
		{func(s *api.Sheet) { s.Proof.Plan.Codes[1] = 1 }, api.ErrOrder},
		{func(s *api.Sheet) { s.Proof.Chain[0] = 1 }, api.ErrInvalid},
		{func(s *api.Sheet) { s.Proof.Chain = nil }, api.ErrConflict},
		{func(s *api.Sheet) { s.Proof.Plan.Steps, s.Tracks = 3, []int{2, 1, -1, 0} }, api.ErrConflict},
		// lists that are no assignment
		{func(s *api.Sheet) { s.Tracks = nil }, api.ErrRoom},
		{func(s *api.Sheet) { s.Tracks = []int{2, 1} }, api.ErrRoom},
		{func(s *api.Sheet) { s.Tracks = []int{2, 1, 0, -1} }, api.ErrRoom},
		{func(s *api.Sheet) { s.Tracks = []int{2, 2, 0} }, api.ErrRoom},
		{func(s *api.Sheet) { s.Tracks = []int{1, 2, 0} }, api.ErrRoom},
		{func(s *api.Sheet) { s.Tracks = []int{2, 1, 3} }, api.ErrRoom},
		{func(s *api.Sheet) { s.Tracks = []int{2, 1, 4} }, api.ErrRoom},
		{func(s *api.Sheet) { s.Tracks = []int{2, -1, 0} }, api.ErrRoom},
		{func(s *api.Sheet) { s.Tracks = []int{2, 1, math.MinInt} }, api.ErrRoom},
		// a load that is too great for its track
		{func(s *api.Sheet) { s.Job.Items[1].Length++ }, api.ErrRoom},
		{func(s *api.Sheet) { s.Job.Items[2].Length++ }, api.ErrRoom},
		{func(s *api.Sheet) { s.Job.Items[2].Length-- }, api.OK},
		// the errors of certificate.Check come first
		{func(s *api.Sheet) { s.Tracks, s.Proof.Chain = nil, nil }, api.ErrConflict},
		{func(s *api.Sheet) { s.Tracks, s.Proof.Plan.Codes[1] = nil, 1 }, api.ErrOrder},
		{func(s *api.Sheet) { s.Tracks, s.Job.Weight = nil, 0 }, api.ErrInvalid},
		{func(s *api.Sheet) { s.Tracks, s.Job.Weight = nil, 99 }, api.ErrRange},
	} {
		s, tracks := four()
		c.change(&s)
		sameCheck(t, s, tracks, c.e)
		sameCheck(t, s, tracks, checkOf(s, tracks))
	}
}

// Check with other tracks than those for which a sheet was made.
func TestP17_4Tracks(t *testing.T) {
	for _, c := range []struct {
		tracks []int
		e      api.Errno
	}{
		{[]int{400, 100, 200, 200}, api.OK},
		{[]int{400, 100, 200}, api.OK},
		{[]int{longest, longest, longest}, api.OK},
		{append([]int{400, 100, 200}, of(maxTracks-3, 1)...), api.OK},
		{append([]int{400, 100, 200}, of(maxTracks-2, 1)...), api.ErrRoom},
		{[]int{399, 100, 200}, api.ErrRoom},
		{[]int{400, 99, 200}, api.ErrRoom},
		{[]int{400, 100, 199}, api.ErrRoom},
		{[]int{400, 100}, api.ErrRoom},
		{nil, api.ErrRoom},
		{[]int{400, 100, 200, 0}, api.ErrRoom},
		{[]int{400, 100, 200, -1}, api.ErrRoom},
		{[]int{400, 100, 200, longest + 1}, api.ErrRoom},
		{[]int{math.MaxInt, 100, 200}, api.ErrRoom},
		{[]int{math.MinInt, 100, 200}, api.ErrRoom},
	} {
		s, _ := four()
		sameCheck(t, s, c.tracks, c.e)
		sameCheck(t, s, c.tracks, checkOf(s, c.tracks))
		// and the error of certificate.Check, whatever the tracks are
		s.Proof.Chain = []int{2}
		sameCheck(t, s, c.tracks, api.ErrConflict)
	}
}

func TestP17_4NoItems(t *testing.T) {
	for weight := range maxSteps + 1 {
		s := api.Sheet{Job: api.Job{Weight: weight}}
		sameCheck(t, s, nil, api.OK)
		sameCheck(t, s, []int{1}, api.OK)
		sameCheck(t, s, []int{0}, api.ErrRoom)
		sameCheck(t, s, of(maxTracks+1, 1), api.ErrRoom)
		s.Tracks = []int{-1}
		sameCheck(t, s, nil, api.ErrRoom)
		s.Proof.Plan.Steps = 1
		sameCheck(t, s, nil, api.ErrConflict)
	}
}

// spoil changes one number or one length of a sheet or of the tracks.
func spoil(s *api.Sheet, tracks *[]int, n func(n int) int) {
	lists := []*[]int{&s.Proof.Plan.Codes, &s.Proof.Chain, &s.Tracks, &s.Tracks, tracks, tracks}
	l := lists[n(len(lists))]
	switch kind := n(8); {
	case kind == 0 && len(s.Job.Items) > 0:
		x := &s.Job.Items[n(len(s.Job.Items))]
		fields := []*int{&x.Train, &x.Block, &x.Round, &x.Length}
		*fields[n(4)] += n(3) - 1
	case kind == 1:
		s.Job.Weight += n(5) - 2
	case kind == 2:
		s.Proof.Plan.Steps += n(3) - 1
	case kind == 3 && len(*l) > 0:
		at := n(len(*l))
		*l = slices.Delete(*l, at, at+1)
	case kind == 4:
		*l = slices.Insert(*l, n(len(*l)+1), n(4))
	case kind == 5 && len(*l) > 0:
		x, y := n(len(*l)), n(len(*l))
		(*l)[x], (*l)[y] = (*l)[y], (*l)[x]
	case len(*l) > 0:
		(*l)[n(len(*l))] += n(5) - 2
	}
}

// Sheets of random jobs, spoilt at one place or two.
func TestP17_4SpoiltSheets(t *testing.T) {
	r := random(8)
	counts := map[api.Errno]int{}
	for range 2000 {
		items := randomItems(r, randomShape(r, 10))
		tracks := randomTracks(r, items)
		s, _, e := planner.Plan(items, tracks)
		if e != api.OK {
			continue
		}
		for range 1 + r.IntN(2) {
			spoil(&s, &tracks, r.IntN)
		}
		want := checkOf(s, tracks)
		sameCheck(t, s, tracks, want)
		counts[want]++
	}
	for _, e := range []api.Errno{api.OK, api.ErrRange, api.ErrInvalid, api.ErrOrder, api.ErrConflict, api.ErrRoom} {
		if counts[e] < 10 {
			t.Errorf("only %d sheets with the error %d", counts[e], e)
		}
	}
}

// What Items returns is planned, and the sheet is right.
func TestP17Whole(t *testing.T) {
	orders := []api.Order{order("a", "b", "c"), order("d", "b")}
	wagons := flats("c", "d", "a", "b", "d", "a")
	items, e := planner.Items(orders, wagons)
	if e != api.OK {
		t.Fatal(e)
	}
	tracks := []int{410, 310, 300, 207}
	s, refusal, e := planner.Plan(items, tracks)
	if e != api.OK || len(refusal) != 0 || s.Job.Weight != 1 {
		t.Fatalf("Plan(%v, %v): %v, %v, error %d", items, tracks, s, refusal, e)
	}
	sameCheck(t, s, tracks, api.OK)
	sorted, _ := rollin.Run(s.Job, s.Proof.Plan)
	if want := [][]int{{2, 5, 3, 0}, {1, 4}}; !slices.EqualFunc(sorted.Trains, want, slices.Equal[[]int]) {
		t.Errorf("%v; want %v", sorted.Trains, want)
	}
}
