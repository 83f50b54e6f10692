package work

import "lineage/api"

// coming has the rows of a part that speaks of itself, as they come.
type coming struct {
	bag   bool // of UNION ALL a row may come again
	seen  set
	fresh [][]api.Value // the new rows of the last round
	all   [][]api.Value
}

// set has rows of one part: all of them have as many columns, so it does no harm
// that the keys have more.
type set map[[api.MaxCols]api.Value]struct{}

// add tells whether a row was not there yet.
func (s set) add(row []api.Value) bool {
	var key [api.MaxCols]api.Value
	copy(key[:], row)
	_, there := s[key]
	s[key] = struct{}{}
	return !there
}

// rounds works out a part that speaks of itself, round by round (P9).
func (p Part) rounds(d *desk) ([][]api.Value, api.Errno) {
	again := p.Body.Unions[0]
	c := &coming{bag: again.All, seen: set{}}
	errno := c.round(p.Body.First, d)
	for round := 1; errno == api.OK && len(c.fresh) > 0; round++ {
		if round > api.MaxRounds {
			return nil, api.ErrRounds
		}
		p.Table.Rows = c.fresh
		errno = c.round(again.Select, d)
	}
	if errno != api.OK {
		return nil, errno
	}
	return c.all, api.OK
}

// round takes the rows that come of a select as the new ones. What the select
// spoke of was the last round's, whose buffer is free then.
func (c *coming) round(s Select, d *desk) api.Errno {
	made, errno := s.rows(d)
	if errno != api.OK {
		return errno
	}
	c.fresh = emptied(c.fresh)
	for _, row := range made {
		if c.bag || c.seen.add(row) {
			c.fresh = append(c.fresh, row)
		}
	}
	c.all = append(c.all, c.fresh...)
	if len(c.all) > api.MaxRows {
		return api.ErrMany
	}
	return api.OK
}
