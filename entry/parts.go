package entry

import (
	"drayage/api"
	"drayage/field"
)

// parts are the fields that a kind names. They are encoded in the order in which they stand here.
type parts struct {
	order bool
	texts bool // Key and Data
	step  bool // Step, Undo and Try
	codes int  // the greatest Code, or 0 if the kind names none
	mark  bool
}

// partsOf returns what a kind names, and whether there is such a kind.
func partsOf(kind int) (parts, bool) {
	var p parts
	switch kind {
	case api.EntryEpoch:
	case api.EntryOrder:
		p.order, p.texts = true, true
	case api.EntryResult:
		p.codes = api.Unsure
		fallthrough
	case api.EntryIntent:
		p.order, p.step = true, true
	case api.EntryEnd:
		p.order, p.codes = true, api.Stuck
	case api.EntryMode:
		p.codes = api.ModeSolo
	case api.EntryMark:
		p.mark = true
	default:
		return parts{}, false
	}
	return p, true
}

// fit tells whether the fields of e that its kind names are within their bounds, and the others are zero.
func (p parts) fit(e api.Entry) bool {
	return p.fitOrder(e) && p.fitTexts(e) && p.fitStep(e) && p.fitCode(e) && p.fitMark(e)
}

func (p parts) fitOrder(e api.Entry) bool { return p.order == (e.Order != 0) }

func (p parts) fitTexts(e api.Entry) bool {
	if !p.texts {
		return len(e.Key) == 0 && len(e.Data) == 0
	}
	return len(e.Key) >= 1 && len(e.Key) <= api.MaxKey && len(e.Data) <= api.MaxData
}

func (p parts) fitStep(e api.Entry) bool {
	if !p.step {
		return e.Step == 0 && !e.Undo && e.Try == 0
	}
	return e.Step >= 0 && e.Step < api.MaxSteps && e.Try >= 1 && e.Try <= api.MaxTry
}

func (p parts) fitCode(e api.Entry) bool {
	if p.codes == 0 {
		return e.Code == 0
	}
	return e.Code >= 1 && e.Code <= p.codes
}

func (p parts) fitMark(e api.Entry) bool {
	if !p.mark {
		return e.Mark == 0
	}
	return e.Mark < e.Lsn
}

func (p parts) write(w *field.Writer, e api.Entry) {
	if p.order {
		w.U32(e.Order)
	}
	if p.texts {
		w.Text(e.Key).Text(e.Data)
	}
	if p.step {
		w.U8(uint8(e.Step)).U8(flag(e.Undo)).U8(uint8(e.Try))
	}
	if p.codes > 0 {
		w.U8(uint8(e.Code))
	}
	if p.mark {
		w.U64(e.Mark)
	}
}

func (p parts) read(r *field.Reader, e *api.Entry) {
	if p.order {
		e.Order = r.U32()
	}
	if p.texts {
		e.Key, e.Data = r.Text(), r.Text()
	}
	if p.step {
		e.Step, e.Undo, e.Try = int(r.U8()), r.U8() == 1, int(r.U8())
	}
	if p.codes > 0 {
		e.Code = int(r.U8())
	}
	if p.mark {
		e.Mark = r.U64()
	}
}

func flag(b bool) uint8 {
	if b {
		return 1
	}
	return 0
}
