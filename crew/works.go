package crew

import (
	"drayage/api"
	"drayage/field"
)

// isValid reports whether the numbers and the name of a work are within their bounds.
func isValid(w api.Work) bool {
	return w.What >= api.WorkHold && w.What <= api.WorkNotice && w.N >= 0 && w.N <= api.MaxMoney && len(w.Name) <= api.MaxKey
}

// Encode returns the encoding of w.
func Encode(w api.Work) ([]byte, api.Errno) {
	if !isValid(w) {
		return nil, api.ErrWork
	}
	return field.NewWriter().U8(uint8(w.What)).U32(uint32(w.N)).Text(w.Name).Done()
}

// Decode returns the work whose encoding is b.
func Decode(b []byte) (api.Work, api.Errno) {
	r := field.NewReader(b)
	w := api.Work{What: int(r.U8()), N: int(r.U32()), Name: r.Text()}
	if r.Done() != api.OK || !isValid(w) {
		return api.Work{}, api.ErrWork
	}
	return w, api.OK
}

// execute does the work of a step, or undoes it, and returns the verdict and the reply.
func (c *Crew) execute(n api.Note) (int, []byte) {
	w, err := Decode(n.Data)
	if err != api.OK {
		return api.Refused, nil
	}
	if n.Undo {
		return c.undo(n.Order, w), nil
	}
	return c.forward(n.Order, w)
}

// forward does a work, and returns the verdict and the reply.
func (c *Crew) forward(order uint32, w api.Work) (int, []byte) {
	switch w.What {
	case api.WorkHold:
		return c.stock.Hold(order, string(w.Name), w.N), nil
	case api.WorkShip:
		return c.stock.Ship(order), nil
	case api.WorkAuthorise:
		return c.purse.Authorise(order, string(w.Name), w.N), nil
	case api.WorkCapture:
		return c.purse.Capture(order), nil
	case api.WorkBook:
		return c.book(order, w.N)
	case api.WorkNotice:
		c.notices = append(c.notices, w.Name)
		return api.Done, nil
	}
	return api.Refused, nil
}

// book books n parcels, and replies with their day.
func (c *Crew) book(order uint32, n int) (int, []byte) {
	day, verdict := c.dock.Book(order, 0, n)
	if verdict != api.Done {
		return verdict, nil
	}
	return verdict, []byte{byte(day)}
}

// undo undoes a work. What was shipped does not come back.
func (c *Crew) undo(order uint32, w api.Work) int {
	switch w.What {
	case api.WorkHold:
		return c.stock.Free(order)
	case api.WorkAuthorise:
		return c.purse.Void(order)
	case api.WorkCapture:
		return c.purse.Refund(order)
	case api.WorkBook:
		return c.dock.Cancel(order)
	case api.WorkNotice:
		c.notices = append(c.notices, append([]byte("!"), w.Name...))
		return api.Done
	}
	return api.Refused
}
