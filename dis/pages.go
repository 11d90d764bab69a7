package dis

import (
	"strconv"

	"letterpress/api"
)

// letters begin the names of fragments, each a hundred of them; r is left out, since r and digits are a register, and no word.
const letters = "pqs"

const (
	hundred = 100
	most    = len(letters) * hundred
)

// pages are fragments that are filled, and the text of the one that is being filled.
type pages struct {
	full []api.Frag
	text []byte
}

// put sets a line behind the others, on a new page if this one has no place for it; false: there is no name for that page.
func (p *pages) put(s string) bool {
	if len(p.text)+len(s)+1 > api.MaxText {
		p.turn()
	}
	p.text = append(p.text, s...)
	p.text = append(p.text, '\n')
	return len(p.full) < most
}

func (p *pages) turn() {
	p.full = append(p.full, api.Frag{Name: nameOf(len(p.full)), Text: string(p.text)})
	p.text = p.text[:0]
}

func (p *pages) all() []api.Frag {
	if len(p.text) > 0 {
		p.turn()
	}
	return p.full
}

// nameOf is that of fragment number n, from 0 on.
func nameOf(n int) string {
	digits := strconv.Itoa(hundred + n%hundred)[1:]
	return letters[n/hundred:n/hundred+1] + digits
}
