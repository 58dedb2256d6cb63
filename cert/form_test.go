package cert_test

import (
	"fmt"
	"math"
	"math/rand"
	"slices"
	"testing"

	"spillway/api"
	"spillway/cert"
	"spillway/model"
)

func expectForm(t *testing.T, name string, m api.Model, c api.Cert, want api.Fault) {
	t.Helper()
	if got := cert.Form(m, c); got != want {
		t.Errorf("%s: Form: %v; want %v", name, got, want)
	}
}

// expectNoForm holds Form to a fault, and Cost to the same one.
func expectNoForm(t *testing.T, name string, m api.Model, c api.Cert, want api.Fault) {
	t.Helper()
	expectForm(t, name, m, c, want)
	expectCost(t, name, m, c, api.Track{}, want)
}

// P15.1: the certificates that fit have the form of their models.
func TestFitting(t *testing.T) {
	for _, n := range allModels() {
		expectForm(t, n.name, n.m, fitting(n.m), api.Fault{})
	}
}

// P15.1: the fault of a model that isn't well-formed is told first, whatever
// the certificate beside it is.
func TestFaultOfModelComesFirst(t *testing.T) {
	good := fitting(base())
	certs := []api.Cert{
		{}, good, exampleCert(),
		turned(good, func(c *api.Cert) { c.Ranges = nil }),
		turned(good, func(c *api.Cert) { c.Ranges[0] = span(1, 0) }),
		turned(good, func(c *api.Cert) { c.Plans[0] = nil }),
		turned(good, func(c *api.Cert) { c.Plans[0][0].Part = span(1, 0) }),
		turned(good, func(c *api.Cert) { c.Plans[0][0].Width, c.Plans[0][1].Depth = 7, 0 }),
		{Ranges: make([]api.Span, 66), Plans: make([][]api.Chan, 65)},
	}
	told := map[api.Errno]bool{}
	for _, b := range brokenModels() {
		m := b.model()
		if f := model.Check(m); f != b.fault {
			t.Fatalf("%s: the model's fault is %v; want %v", b.name, f, b.fault)
		}
		told[b.fault.Err] = true
		for _, c := range certs {
			expectNoForm(t, b.name, m, c, b.fault)
		}
	}
	if len(told) != 13 {
		t.Errorf("%d errors of chapter 8 told; want 13", len(told))
	}
}

// P15.1: models of nothing, and of numbers as great as an int goes.
func TestModelsOfNothing(t *testing.T) {
	for _, m := range []api.Model{{}, {Ops: []api.Op{{}}}, {Ops: make([]api.Op, 1000)}, {In: of(math.MaxInt, math.MaxInt, math.MaxInt), Lo: math.MinInt, Hi: math.MaxInt, Out: math.MaxInt}} {
		for _, c := range []api.Cert{{}, exampleCert(), {Ranges: make([]api.Span, len(m.Ops)+1), Plans: make([][]api.Chan, len(m.Ops))}} {
			expectNoForm(t, "nothing", m, c, api.Fault{Err: api.ErrShape})
		}
	}
}

// P15.1, fault 1: Ranges and Plans that are nil, empty, too short, right, too
// long: each with each.
func TestLengthsOfLists(t *testing.T) {
	for _, m := range []api.Model{star(of(1, 1, 1)), denseExample(), everyKind(), idle(), mixed()} {
		n := len(m.Ops)
		good := fitting(m)
		for ranges := range n + 5 {
			for plans := range n + 4 {
				c := copied(good)
				c.Ranges = append(c.Ranges, make([]api.Span, 4)...)[:ranges]
				c.Plans = append(c.Plans, nil, nil, nil, nil)[:plans]
				want := api.Fault{Err: api.ErrLens}
				if ranges == n+1 && plans == n {
					want = api.Fault{}
				}
				expectForm(t, fmt.Sprintf("%d ops, %d ranges, %d plans", n, ranges, plans), m, c, want)
				if want != (api.Fault{}) {
					expectCost(t, "lengths", m, c, api.Track{}, want)
				}
			}
		}
		none := api.Fault{Err: api.ErrLens}
		expectNoForm(t, "nil", m, api.Cert{}, none)
		expectNoForm(t, "empty", m, api.Cert{Ranges: []api.Span{}, Plans: [][]api.Chan{}}, none)
		expectNoForm(t, "nil ranges", m, api.Cert{Plans: good.Plans}, none)
		expectNoForm(t, "empty ranges", m, api.Cert{Ranges: good.Ranges[:0], Plans: good.Plans}, none)
		if n > 0 {
			expectNoForm(t, "nil plans", m, api.Cert{Ranges: good.Ranges}, none)
			expectNoForm(t, "empty plans", m, api.Cert{Ranges: good.Ranges, Plans: good.Plans[:0]}, none)
			expectNoForm(t, "one shorter, one longer", m, api.Cert{Ranges: good.Ranges[:n], Plans: append(good.Plans, nil)}, none)
		}
	}
	in := star(of(1, 1, 1))
	for _, plans := range [][][]api.Chan{nil, {}} {
		expectForm(t, "no ops", in, api.Cert{Ranges: list(span(0, 1)), Plans: plans}, api.Fault{})
	}
}

// P15.1, fault 1: it is told ahead of spans, of lists and of plans.
func TestLengthsComeFirst(t *testing.T) {
	m := everyKind()
	spoilt := turned(fitting(m), func(c *api.Cert) {
		c.Ranges[0], c.Ranges[3] = span(1, 0), span(0, 128)
		c.Plans[1], c.Plans[0] = nil, make([]api.Chan, 1)
		c.Plans[3][0].Part = span(1, 0)
	})
	for _, do := range []func(c *api.Cert){
		func(c *api.Cert) { c.Ranges = c.Ranges[:9] },
		func(c *api.Cert) { c.Ranges = append(c.Ranges, span(1, 0)) },
		func(c *api.Cert) { c.Plans = c.Plans[:8] },
		func(c *api.Cert) { c.Plans = append(c.Plans, make([]api.Chan, 1)) },
	} {
		expectNoForm(t, "lengths", m, turned(spoilt, do), api.Fault{Err: api.ErrLens})
	}
	expectNoForm(t, "the right lengths", m, spoilt, api.Fault{Err: api.ErrSpan})
}

// P15.1, fault 2: at each tensor a span that is of values, and one that isn't.
func TestRanges(t *testing.T) {
	for _, m := range []api.Model{star(of(1, 1, 1)), denseExample(), everyKind(), mixed()} {
		good := fitting(m)
		for tensor := range len(m.Ops) + 1 {
			for _, s := range spansOfValues() {
				c := turned(good, func(c *api.Cert) { c.Ranges[tensor] = s })
				expectForm(t, fmt.Sprint(tensor, s), m, c, api.Fault{})
			}
			for _, s := range noneOfValues() {
				c := turned(good, func(c *api.Cert) { c.Ranges[tensor] = s })
				expectNoForm(t, fmt.Sprint(tensor, s), m, c, api.Fault{Err: api.ErrSpan, Op: tensor})
			}
		}
	}
}

// P15.1, fault 2: of several such tensors the first is told, ahead of lists and
// plans of ops that come ahead of it.
func TestFirstOfRanges(t *testing.T) {
	m := everyKind()
	good := fitting(m)
	for first := range len(m.Ops) + 1 {
		for second := first; second <= len(m.Ops); second++ {
			c := turned(good, func(c *api.Cert) { c.Ranges[second], c.Ranges[first] = span(-129, 0), span(1, 0) })
			want := api.Fault{Err: api.ErrSpan, Op: first}
			expectNoForm(t, "two", m, c, want)
			c.Plans[0] = make([]api.Chan, 1)
			expectNoForm(t, "a list", m, c, want)
			c.Plans[0], c.Plans[1][0].Total = nil, span(1, 0)
			expectNoForm(t, "a plan", m, c, want)
		}
	}
	all := turned(good, func(c *api.Cert) { c.Ranges = slices.Repeat(list(span(0, 200)), len(c.Ranges)) })
	expectNoForm(t, "all", m, all, api.Fault{Err: api.ErrSpan})
}

// P15.1, fault 3: lists of plans that are nil, empty, too short, right, too
// long, of each kind, first, behind others, and last.
func TestListsOfPlans(t *testing.T) {
	models := append(firstAndBehind(), named{"every kind", everyKind()}, named{"sides", sides()}, named{"64 ops", mixed()})
	for _, n := range models {
		good := fitting(n.m)
		for op := 1; op <= len(n.m.Ops); op++ {
			channels := secondChannels(n.m, op)
			made := secondShape(n.m, op).C
			for _, count := range []int{0, 1, 2, made - 1, made, made + 1, channels + 1, 2 * made, 1024, 1025} {
				c := turned(good, func(c *api.Cert) { c.Plans[op-1] = make([]api.Chan, count) })
				name := fmt.Sprintf("%s: op %d, %d plans", n.name, op, count)
				if count == channels {
					expectForm(t, name, n.m, c, api.Fault{})
				} else {
					expectNoForm(t, name, n.m, c, api.Fault{Err: api.ErrLens, Op: op})
				}
			}
			for _, plans := range [][]api.Chan{nil, {}, make([]api.Chan, 0, 9)} {
				c := turned(good, func(c *api.Cert) { c.Plans[op-1] = plans })
				want := api.Fault{}
				if channels > 0 {
					want = api.Fault{Err: api.ErrLens, Op: op}
				}
				expectForm(t, fmt.Sprintf("%s: op %d, none", n.name, op), n.m, c, want)
			}
		}
	}
}

// P15.1, fault 3: as many plans as the op has channels, by hand.
func TestPlansByHand(t *testing.T) {
	for i, channels := range []int{3, 3, 2, 2, 0, 0, 0, 0} {
		m := star(of(4, 3, 2), oneOfEach()[i])
		for count := range 8 {
			c := api.Cert{Ranges: list(span(0, 0), span(0, 0)), Plans: [][]api.Chan{make([]api.Chan, count)}}
			want := api.Fault{}
			if count != channels {
				want = api.Fault{Err: api.ErrLens, Op: 1}
			}
			expectForm(t, fmt.Sprintf("kind %d, %d plans", i+1, count), m, c, want)
		}
	}
}

// spoilers make the Part, the Total or both of a plan another span.
func spoilers(s api.Span) []func(p *api.Chan) {
	return []func(p *api.Chan){
		func(p *api.Chan) { p.Part = s },
		func(p *api.Chan) { p.Total = s },
		func(p *api.Chan) { p.Part, p.Total = s, s },
	}
}

// P15.1, fault 3: a Part that isn't valid, a Total that isn't, and both, at each
// channel of each op; spans that are valid are taken, whatever they claim.
func TestSpansOfPlans(t *testing.T) {
	for _, m := range []api.Model{denseExample(), everyKind(), skipping(), mixed()} {
		good := fitting(m)
		for _, op := range reducing(m) {
			for ch := 1; ch <= secondChannels(m, op); ch++ {
				for _, s := range noSpans() {
					for way, spoil := range spoilers(s) {
						c := turned(good, func(c *api.Cert) { spoil(&c.Plans[op-1][ch-1]) })
						expectNoForm(t, fmt.Sprint(op, ch, s, way), m, c, api.Fault{Err: api.ErrSpan, Op: op, Chan: ch})
					}
				}
				for _, s := range validSpans() {
					for way, set := range spoilers(s) {
						c := turned(good, func(c *api.Cert) { set(&c.Plans[op-1][ch-1]) })
						expectForm(t, fmt.Sprint(op, ch, s, way), m, c, api.Fault{})
					}
				}
			}
		}
	}
}

// P15.1, fault 3: the first channel of the first op is told, of two whose spans
// aren't valid.
func TestFirstOfPlans(t *testing.T) {
	m := everyKind()
	good := fitting(m)
	var places [][2]int
	for _, op := range reducing(m) {
		for ch := 1; ch <= secondChannels(m, op); ch++ {
			places = append(places, [2]int{op, ch})
		}
	}
	for i, first := range places {
		for _, second := range places[i:] {
			for way := range 4 {
				c := turned(good, func(c *api.Cert) {
					spoilers(span(1, 0))[way/2](&c.Plans[second[0]-1][second[1]-1])
					spoilers(span(1, 0))[way%2](&c.Plans[first[0]-1][first[1]-1])
				})
				expectNoForm(t, fmt.Sprint(first, second), m, c, api.Fault{Err: api.ErrSpan, Op: first[0], Chan: first[1]})
			}
		}
	}
}

// P15.1, fault 3: an op's list is told ahead of its plans, and an op's plans
// ahead of the next op's list.
func TestListsAndPlansInTurn(t *testing.T) {
	m := everyKind()
	good := fitting(m)
	for op := 1; op <= len(m.Ops); op++ {
		c := turned(good, func(c *api.Cert) {
			longer := append(c.Plans[op-1], api.Chan{})
			for k := range longer {
				longer[k].Part, longer[k].Total = span(1, 0), span(1, 0)
			}
			c.Plans[op-1] = longer
		})
		expectNoForm(t, "its list", m, c, api.Fault{Err: api.ErrLens, Op: op})
		for later := op + 1; later <= len(m.Ops); later++ {
			both := turned(c, func(c *api.Cert) { c.Plans[later-1] = make([]api.Chan, 9) })
			expectNoForm(t, "two lists", m, both, api.Fault{Err: api.ErrLens, Op: op})
		}
	}
	for _, op := range reducing(m) {
		last := secondChannels(m, op)
		for later := op + 1; later <= len(m.Ops); later++ {
			c := turned(good, func(c *api.Cert) {
				c.Plans[op-1][last-1].Total = span(0, -1)
				c.Plans[later-1] = make([]api.Chan, 9)
			})
			expectNoForm(t, "a plan and a later list", m, c, api.Fault{Err: api.ErrSpan, Op: op, Chan: last})
		}
		for earlier := 1; earlier < op; earlier++ {
			c := turned(good, func(c *api.Cert) {
				c.Plans[op-1][0].Part = span(0, -1)
				c.Plans[earlier-1] = make([]api.Chan, 9)
			})
			expectNoForm(t, "a plan and an earlier list", m, c, api.Fault{Err: api.ErrLens, Op: earlier})
		}
	}
}

// P15.1: widths and depths aren't looked at, nor is what is claimed.
func TestFormAlone(t *testing.T) {
	numbers := append(widthsThatAreNone(), 16, 32, 2, 3, 511, 512, 513)
	for _, m := range []api.Model{denseExample(), everyKind()} {
		for _, width := range numbers {
			for _, depth := range numbers {
				c := costing(m, func(_, _, _ int) (int, int) { return width, depth })
				expectForm(t, fmt.Sprintf("width %d, depth %d", width, depth), m, c, api.Fault{})
			}
		}
		c := fitting(m)
		for i := range c.Ranges {
			c.Ranges[i] = span(3, 3)
		}
		expectForm(t, "ranges that don't hold", m, c, api.Fault{})
	}
}

// P1, P15.1: whatever is handed in, Form and Cost end, don't panic, and answer
// what the second reading answers.
func TestFormOfAnything(t *testing.T) {
	r := rand.New(rand.NewSource(1510))
	faults := map[api.Errno]int{}
	for range 30000 {
		m := anyModel(r, 5)
		c := anyCert(r, m)
		for range r.Intn(3) {
			disturbCert(r, &c)
		}
		if r.Intn(4) == 0 {
			disturb(r, &m)
		}
		want := secondForm(m, c)
		faults[want.Err]++
		expectForm(t, "anything", m, c, want)
		track, f := secondCost(m, c)
		faults[f.Err]++
		expectCost(t, "anything", m, c, track, f)
		if t.Failed() {
			t.Fatalf("%+v\n%+v", m, c)
		}
	}
	for _, e := range []api.Errno{api.OK, api.ErrLens, api.ErrSpan, api.ErrEdge, api.ErrShape, api.ErrWidth, api.ErrDepth} {
		if faults[e] < 100 {
			t.Errorf("error %d came up %d times only", int(e), faults[e])
		}
	}
}
