package table

import (
	"debenture/api"
	"debenture/block"
)

// Cursor goes through a table's pairs.
type Cursor struct {
	table *Table
	under *block.Block // the block of the pair at which it stands; nil at none
	block int
	pair  int
	err   api.Errno
}

// Cursor is a cursor that stands at none.
func (t *Table) Cursor() *Cursor {
	if t == nil {
		return nil
	}
	return &Cursor{table: t}
}

// enter takes a block; at none, if there is none, or one wasn't whole.
func (c *Cursor) enter(i int) {
	c.under, c.block, c.pair = nil, i, 0
	if c.err == api.OK && i < len(c.table.spots) {
		c.under, c.err = c.table.load(i)
	}
}

// First stands at the first pair.
func (c *Cursor) First() {
	if c != nil {
		c.enter(0)
	}
}

// Seek stands at the first pair whose key isn't below a key.
func (c *Cursor) Seek(key string) {
	if c != nil {
		c.enter(c.table.index.Seek(key))
		c.pair = c.under.Seek(key)
	}
}

// Next stands at the next pair.
func (c *Cursor) Next() {
	if !c.Valid() {
		return
	}
	c.pair++
	if c.pair >= c.under.Len() {
		c.enter(c.block + 1)
	}
}

// Valid tells whether a cursor stands at a pair.
func (c *Cursor) Valid() bool {
	return c != nil && c.under != nil
}

// Pair is where a cursor stands.
func (c *Cursor) Pair() block.Pair {
	if !c.Valid() {
		return block.Pair{}
	}
	p, _ := c.under.At(c.pair)
	return p
}

// Err is what was wrong with a block.
func (c *Cursor) Err() api.Errno {
	if c == nil {
		return api.ErrArg
	}
	return c.err
}
