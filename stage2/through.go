package stage2

import (
	"slices"

	"demesne/api"
	"demesne/bits"
	"demesne/desc"
	"demesne/walk"
)

// visitor is called with an entry and the first page that it stands for; it tells whether the table that the entry leads to is to be gone through, too.
type visitor func(page uint64, s walk.Step) bool

// each calls visit for each Table, Block and Page of the tables, by page, a Table ahead of what it leads to.
func (t *Table) each(visit visitor) {
	if t.f != nil {
		t.eachOf(t.root, 0, 0, visit)
	}
}

// eachOf is each of a table of the level, whose first page is first.
func (t *Table) eachOf(table uint64, level int, first uint64, visit visitor) {
	for i, d := range t.entries(table, level) {
		page := first + uint64(i)*bits.Span(level)/api.FrameSize
		// The root has more entries than a guest's pages need.
		if page >= endPage {
			return
		}
		if d.Kind == api.None {
			continue
		}
		deeper := visit(page, walk.Step{Level: level, At: entryAt(table, i), Desc: d})
		if deeper && d.Kind == api.Table {
			t.eachOf(d.Addr, level+1, page, visit)
		}
	}
}

// tables are the addresses of all tables.
func (t *Table) tables() []uint64 {
	if t.f == nil {
		return nil
	}
	l := []uint64{t.root}
	t.each(func(_ uint64, s walk.Step) bool {
		if s.Desc.Kind == api.Table {
			l = append(l, s.Desc.Addr)
		}
		// A table of the last level leads to no other one.
		return s.Level+1 < pageLevel
	})
	return l
}

// words are the table's words.
func (t *Table) words(table uint64) []uint64 {
	b, _ := t.f.Mem().Get(frameOf(table))
	l := make([]uint64, 0, api.Words)
	for at := 0; at < len(b); at += entrySize {
		w, _ := bits.Get(b, at, entrySize)
		l = append(l, w)
	}
	return l
}

// entries are the table's descriptors; a word that may not be is None here.
func (t *Table) entries(table uint64, level int) []api.Desc {
	l := make([]api.Desc, 0, api.Words)
	for _, w := range t.words(table) {
		d, _ := desc.Decode(stage, level, w)
		l = append(l, d)
	}
	return l
}

// isEmpty tells whether all words of the table are None. One that may not be is not None.
func (t *Table) isEmpty(table uint64, level int) bool {
	return !slices.ContainsFunc(t.words(table), func(w uint64) bool {
		d, e := desc.Decode(stage, level, w)
		return e != api.OK || d.Kind != api.None
	})
}

// anyPage tells whether a table of the last level has a Page.
func (t *Table) anyPage(table uint64) bool {
	return slices.ContainsFunc(t.entries(table, pageLevel), func(d api.Desc) bool { return d.Kind == api.Page })
}
