package plan

import (
	"jointure/api"
	"jointure/codec"
)

// Lay: a plan's bytes.
func Lay(w *codec.Writer, p api.Plan) {
	w.Byte(p.Kind).Long(p.Start).Long(p.End).Coins(p.All).Byte(byte(len(p.Periods)))
	for _, q := range p.Periods {
		w.Long(q.Length).Coins(q.Coins)
	}
}

// Take: what Lay has laid; a fault, if it isn't Right.
func Take(r *codec.Reader) api.Plan {
	p := api.Plan{Kind: r.Byte(), Start: r.Long(), End: r.Long(), All: r.Coins()}
	for many := r.Byte(); many > 0 && !r.Bad(); many-- {
		p.Periods = append(p.Periods, api.Period{Length: r.Long(), Coins: r.Coins()})
	}
	if !Right(p) {
		r.Fail()
	}
	if r.Bad() {
		return api.Plan{} // what was read ahead of the fault may be Right as it stands
	}
	return p
}
