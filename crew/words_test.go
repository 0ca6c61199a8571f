package crew_test

import (
	"bytes"
	"encoding/binary"
	"fmt"
	"math"
	"math/rand"
	"slices"
	"strings"
	"testing"

	"drayage/api"
	"drayage/crew"
)

const greatest = math.MaxUint32 // of epochs and of orders

// source gives the same numbers in every run, so that a failure can be repeated.
func source() *rand.Rand { return rand.New(rand.NewSource(12)) }

func long(n int) string { return strings.Repeat("x", n) }

func work(what, n int, name string) api.Work {
	return api.Work{What: what, N: n, Name: []byte(name)}
}

func isWork(w api.Work) bool {
	return slices.Contains([]int{1, 2, 3, 4, 5, 6}, w.What) && w.N >= 0 && w.N <= 1000000000 && len(w.Name) <= 32
}

// bytesOf writes a work as the chapter says it, whether it is valid or not.
func bytesOf(w api.Work) []byte {
	b := binary.BigEndian.AppendUint32([]byte{byte(w.What)}, uint32(w.N))
	return append(append(b, byte(len(w.Name))), w.Name...)
}

// readByTheWords reads a work as the chapter says it, position by position.
func readByTheWords(b []byte) (api.Work, bool) {
	if len(b) < 6 || len(b) != 6+int(b[5]) {
		return api.Work{}, false
	}
	w := work(int(b[0]), int(binary.BigEndian.Uint32(b[1:5])), string(b[6:]))
	if !isWork(w) {
		return api.Work{}, false
	}
	return w, true
}

func sameWork(a, b api.Work) bool {
	return a.What == b.What && a.N == b.N && bytes.Equal(a.Name, b.Name)
}

// note returns a step with any data, or its undo.
func note(epoch, order uint32, step int, undo bool, data []byte) api.Note {
	return api.Note{Kind: api.NoteStep, Epoch: epoch, Order: order, Step: step, Undo: undo, Data: data}
}

// forward returns a step in epoch 2, in which most steps of these tests are served.
func forward(order uint32, step, what, n int, name string) api.Note {
	return note(2, order, step, false, bytesOf(work(what, n, name)))
}

// back returns the undo of a step in epoch 2.
func back(order uint32, step, what, n int, name string) api.Note {
	return note(2, order, step, true, bytesOf(work(what, n, name)))
}

// in returns the same step in another epoch.
func in(epoch uint32, n api.Note) api.Note {
	n.Epoch = epoch
	return n
}

// with returns the same step with other data.
func with(data string, n api.Note) api.Note {
	n.Data = []byte(data)
	return n
}

func no(epoch uint32, code int) api.Note {
	return api.Note{Kind: api.NoteNo, Epoch: epoch, Code: code}
}

func done(n api.Note, code int, reply string) api.Note {
	return api.Note{Kind: api.NoteDone, Epoch: n.Epoch, Order: n.Order, Step: n.Step, Undo: n.Undo, Code: code, Data: []byte(reply)}
}

func fenced(epoch uint32, n api.Note) api.Note {
	return api.Note{Kind: api.NoteFence, Epoch: epoch, Order: n.Order, Step: n.Step, Undo: n.Undo}
}

func sameNote(a, b api.Note) bool {
	return a.Kind == b.Kind && a.Epoch == b.Epoch && a.Old == b.Old && a.Lsn == b.Lsn && a.Tick == b.Tick &&
		a.Order == b.Order && a.Step == b.Step && a.Undo == b.Undo && a.Code == b.Code &&
		bytes.Equal(a.Key, b.Key) && bytes.Equal(a.Data, b.Data)
}

func copyOf(n api.Note) api.Note {
	n.Key, n.Data = bytes.Clone(n.Key), bytes.Clone(n.Data)
	return n
}

func isStep(n api.Note) bool {
	return n.Kind == 7 && n.Epoch > 0 && n.Order > 0 && n.Step >= 0 && n.Step <= 15 && len(n.Data) <= 255 &&
		n.Old == 0 && n.Lsn == 0 && n.Tick == 0 && n.Code == 0 && len(n.Key) == 0
}

func effect(n api.Note) api.Effect {
	return api.Effect{Order: n.Order, Step: n.Step, Undo: n.Undo}
}

// stores are what a crew begins with.
type stores struct {
	goods    []api.Good
	accounts []api.Account
	room     []int
}

func some() stores {
	return stores{
		goods:    []api.Good{{Name: "a", Free: 5}, {Name: "b", Free: 1}},
		accounts: []api.Account{{Name: "ann", Money: 10}, {Name: "bob", Money: 3}},
		room:     []int{2, 0, 3},
	}
}

// model is a crew by the chapter's words. A hold, a payment or a booking that is over is kept with N 0 where a later one may come, and in its State where none may.
type model struct {
	goods    []api.Good
	accounts []api.Account
	room     []int
	holds    []api.Hold
	pays     []api.Pay
	bookings []api.Booking
	epoch    uint32
	kept     []api.Kept // in the order in which they came
	effects  []api.Effect
	notices  []string
}

func (m *model) kind(name string) *api.Good {
	for i := range m.goods {
		if m.goods[i].Name == name {
			return &m.goods[i]
		}
	}
	return nil
}

func (m *model) account(name string) *api.Account {
	for i := range m.accounts {
		if m.accounts[i].Name == name {
			return &m.accounts[i]
		}
	}
	return nil
}

func (m *model) held(order uint32) *api.Hold {
	for i := range m.holds {
		if m.holds[i].Order == order && m.holds[i].N > 0 {
			return &m.holds[i]
		}
	}
	return nil
}

func (m *model) pay(order uint32) *api.Pay {
	for i := range m.pays {
		if m.pays[i].Order == order {
			return &m.pays[i]
		}
	}
	return nil
}

func (m *model) booked(order uint32) *api.Booking {
	for i := range m.bookings {
		if m.bookings[i].Order == order && m.bookings[i].N > 0 {
			return &m.bookings[i]
		}
	}
	return nil
}

func (m *model) hold(order uint32, name string, n int) bool {
	k := m.kind(name)
	if n < 1 || m.held(order) != nil || k == nil || k.Free < n {
		return false
	}
	k.Free -= n
	m.holds = append(m.holds, api.Hold{Order: order, Name: name, N: n})
	return true
}

// unhold ends a hold, whose units go back or are gone.
func (m *model) unhold(order uint32, isGone bool) bool {
	h := m.held(order)
	if h == nil {
		return false
	}
	if !isGone {
		m.kind(h.Name).Free += h.N
	}
	h.N = 0
	return true
}

func (m *model) authorise(order uint32, name string, n int) bool {
	a := m.account(name)
	if n < 1 || m.pay(order) != nil || a == nil || a.Money-a.Held < n {
		return false
	}
	a.Held += n
	m.pays = append(m.pays, api.Pay{Order: order, Name: name, N: n, State: 1})
	return true
}

// settle brings a payment from one state to another: held and money say how often its sum is added to these.
func (m *model) settle(order uint32, from, to, held, money int) bool {
	p := m.pay(order)
	if p == nil || p.State != from {
		return false
	}
	p.State = to
	a := m.account(p.Name)
	a.Held += held * p.N
	a.Money += money * p.N
	return true
}

func (m *model) book(order uint32, n int) (string, bool) {
	if n < 1 || m.booked(order) != nil {
		return "", false
	}
	for day := range m.room {
		if m.room[day] >= n {
			m.room[day] -= n
			m.bookings = append(m.bookings, api.Booking{Order: order, Day: day, N: n})
			return string([]byte{byte(day)}), true
		}
	}
	return "", false
}

func (m *model) cancel(order uint32) bool {
	b := m.booked(order)
	if b == nil {
		return false
	}
	m.room[b.Day] += b.N
	b.N = 0
	return true
}

// execute is the chapter's table: the verdict and the reply.
func (m *model) execute(n api.Note) (reply string, isDone bool) {
	w, isRight := readByTheWords(n.Data)
	if !isRight {
		return "", false
	}
	what := fmt.Sprint(w.What)
	if n.Undo {
		what += " undo"
	}
	switch name := string(w.Name); what {
	case "1":
		isDone = m.hold(n.Order, name, w.N)
	case "1 undo":
		isDone = m.unhold(n.Order, false)
	case "2":
		isDone = m.unhold(n.Order, true)
	case "2 undo":
		isDone = false
	case "3":
		isDone = m.authorise(n.Order, name, w.N)
	case "3 undo":
		isDone = m.settle(n.Order, 1, 3, -1, 0)
	case "4":
		isDone = m.settle(n.Order, 1, 2, -1, -1)
	case "4 undo":
		isDone = m.settle(n.Order, 2, 3, 0, 1)
	case "5":
		reply, isDone = m.book(n.Order, w.N)
	case "5 undo":
		isDone = m.cancel(n.Order)
	case "6":
		m.notices, isDone = append(m.notices, name), true
	case "6 undo":
		m.notices, isDone = append(m.notices, "!"+name), true
	}
	return reply, isDone
}

// find returns the place of a key among what is kept, or -1.
func (m *model) find(n api.Note, undo bool) int {
	return slices.IndexFunc(m.kept, func(k api.Kept) bool { return k.Order == n.Order && k.Step == n.Step && k.Undo == undo })
}

func (m *model) serve(n api.Note) api.Note {
	if !isStep(n) {
		return no(m.epoch, 1)
	}
	if n.Epoch < m.epoch {
		return fenced(m.epoch, n)
	}
	if at := m.find(n, n.Undo); at >= 0 {
		k := m.kept[at]
		if !bytes.Equal(k.Asked, n.Data) {
			return no(m.epoch, 2)
		}
		m.epoch = n.Epoch
		return done(n, k.Code, string(k.Reply))
	}
	if len(m.kept) == 200 {
		return no(m.epoch, 3)
	}
	reply, isDone := "", false
	opposite := m.find(n, !n.Undo)
	switch {
	case !n.Undo && opposite >= 0:
	case n.Undo && (opposite < 0 || m.kept[opposite].Code == api.Refused):
		isDone = true
	default:
		if reply, isDone = m.execute(n); isDone {
			m.effects = append(m.effects, effect(n))
		}
	}
	code := api.Refused
	if isDone {
		code = api.Done
	}
	m.epoch = n.Epoch
	m.kept = append(m.kept, api.Kept{Order: n.Order, Step: n.Step, Undo: n.Undo, Asked: bytes.Clone(n.Data), Code: code, Reply: []byte(reply)})
	return done(n, code, reply)
}

// story is all that a crew tells: two stories are equal if nothing that can be seen differs.
func story(epoch uint32, effects []api.Effect, notices []string, stores string) string {
	return fmt.Sprintf("epoch %d, effects %v, notices %q, stores %s", epoch, effects, notices, stores)
}

// storesOf tells goods, accounts and capacities.
func storesOf(goods []api.Good, accounts []api.Account, room []int) string {
	return fmt.Sprint(goods, accounts, room)
}

func (m *model) story() string {
	return story(m.epoch, m.effects, m.notices, storesOf(m.goods, m.accounts, m.room))
}

func noticesOf(c *crew.Crew) []string {
	var l []string
	for _, b := range c.Notices() {
		l = append(l, string(b))
	}
	return l
}

// both is a crew beside its model.
type both struct {
	c    *crew.Crew
	m    *model
	days int
}

func (b both) stores() string {
	var room []int
	for day := range b.days {
		room = append(room, b.c.Room(day))
	}
	return storesOf(b.c.Goods(), b.c.Accounts(), room)
}

func (b both) story() string {
	return story(b.c.Epoch(), b.c.Effects(), noticesOf(b.c), b.stores())
}

func begin(t *testing.T, s stores) both {
	t.Helper()
	c, err := crew.New(s.goods, s.accounts, s.room)
	if err != api.OK || c == nil {
		t.Fatalf("New of %v: %#v, %d", s, c, err)
	}
	m := &model{goods: slices.Clone(s.goods), accounts: slices.Clone(s.accounts), room: slices.Clone(s.room)}
	slices.SortFunc(m.goods, func(a, b api.Good) int { return strings.Compare(a.Name, b.Name) })
	slices.SortFunc(m.accounts, func(a, b api.Account) int { return strings.Compare(a.Name, b.Name) })
	return both{c, m, len(s.room)}
}

// serve hands a step to the crew and to its model, which have to give the same answer and to tell the same behind it, and returns the answer.
func (b both) serve(t *testing.T, n api.Note) api.Note {
	t.Helper()
	before, given := b.story(), copyOf(n)
	got, want := b.c.Serve(n), b.m.serve(n)
	if !sameNote(got, want) {
		t.Errorf("Serve of %v: %v, want %v, behind %s", n, got, want, before)
	}
	if !sameNote(n, given) {
		t.Errorf("Serve made %v of %v", n, given)
	}
	b.wantSame(t, fmt.Sprintf("behind %v", n))
	return got
}

// wantSame expects that the crew tells what its model does.
func (b both) wantSame(t *testing.T, about string) {
	t.Helper()
	if got, want := b.story(), b.m.story(); got != want {
		t.Errorf("%s: %s, want %s", about, got, want)
	}
}

// want serves a step and expects this answer, written out.
func (b both) want(t *testing.T, about string, n, want api.Note) {
	t.Helper()
	if got := b.serve(t, n); !sameNote(got, want) {
		t.Errorf("%s: Serve of %v: %v, want %v", about, n, got, want)
	}
}

// wantNothingNew serves a step and expects this answer, and that nothing has changed.
func (b both) wantNothingNew(t *testing.T, about string, n, want api.Note) {
	t.Helper()
	before := b.story()
	b.want(t, about, n, want)
	if after := b.story(); after != before {
		t.Errorf("%s: Serve of %v made %s of %s", about, n, after, before)
	}
}

// wantDone serves steps that have to be Done.
func (b both) wantDone(t *testing.T, l ...api.Note) {
	t.Helper()
	for _, n := range l {
		if a := b.serve(t, n); a.Kind != api.NoteDone || a.Code != api.Done {
			t.Errorf("Serve of %v: %v", n, a)
		}
	}
}
