package table

import (
	"strings"

	"debenture/api"
	"debenture/block"
	"debenture/bloom"
	"debenture/codec"
	"debenture/crc"
)

const (
	leastSize  = 64
	mostSize   = 16384
	mostBlocks = 4096
	// frameMore is how many bytes a frame has beside what is framed.
	frameMore = 12
)

// Meta is what a table is.
type Meta struct {
	First, Last string
	Count, Size int
}

// spot is where the frame of a block stands, and the block's last key.
type spot struct {
	last     string
	at, size int
}

// Builder makes tables.
type Builder struct {
	size   int
	ended  []byte // the frames of the blocks that have ended
	spots  []spot
	under  block.Builder
	meta   Meta
	fronts []string
}

// NewBuilder is a builder of tables.
func NewBuilder(size int) *Builder {
	return &Builder{size: min(max(size, leastSize), mostSize)}
}

// front is what stands ahead of a key's first byte 00.
func front(key string) string {
	s, _, _ := strings.Cut(key, "\x00")
	return s
}

// Add adds a pair.
func (b *Builder) Add(key, value string) api.Errno {
	if b == nil || key <= b.meta.Last {
		return api.ErrArg
	}
	full := len(b.spots) >= mostBlocks
	if err := b.under.Add(key, value); err != api.OK {
		return err
	}
	if full {
		b.under = block.Builder{}
		return api.ErrLong
	}
	key = b.under.Last()
	if b.meta.Count == 0 {
		b.meta.First = key
	}
	b.meta.Last = key
	b.meta.Count++
	b.fronts = append(b.fronts, front(key))
	if b.under.Size() >= b.size {
		frame, s := b.end()
		b.ended = append(b.ended, frame...)
		b.spots = append(b.spots, s)
		b.under = block.Builder{}
	}
	return api.OK
}

// end is the frame of the block under way, as if it ended now, and where it stands.
func (b *Builder) end() (string, spot) {
	frame, _ := crc.Frame(b.under.Bytes()) // a block is never as long as a frame may be
	return frame, spot{b.under.Last(), len(b.ended), len(frame)}
}

// Size is the bytes of all blocks' frames.
func (b *Builder) Size() int {
	if b == nil {
		return 0
	}
	n := len(b.ended)
	if b.under.Len() > 0 {
		n += b.under.Size() + frameMore
	}
	return n
}

// Finish is the table.
func (b *Builder) Finish() (string, Meta) {
	if b == nil {
		return "", Meta{}
	}
	blocks, spots := string(b.ended), b.spots
	if b.under.Len() > 0 {
		frame, s := b.end()
		blocks += frame
		spots = append(spots[:len(spots):len(spots)], s)
	}
	filter, fits := crc.Frame(bloom.Make(b.fronts))
	index, is := crc.Frame(indexOf(spots))
	if !fits || !is {
		return "", Meta{} // what can't be framed is no table
	}
	var w codec.Writer
	w.Fixed8(uint64(len(blocks))).Fixed8(uint64(len(blocks) + len(filter))).Fixed8(uint64(b.meta.Count))
	end, _ := crc.Frame(w.Bytes())
	s := blocks + filter + index + end
	meta := b.meta
	meta.Size = len(s)
	return s, meta
}

// indexOf is the index of blocks.
func indexOf(spots []spot) string {
	var b block.Builder
	for _, s := range spots {
		b.Add(s.last, new(codec.Writer).Size(s.at).Size(s.size).Bytes())
	}
	return b.Bytes()
}
