package prop

// heap is a queue of variables of which each one knows its place.
type heap struct {
	items []int
	place []int // of each variable, or -1
	less  func(a, b int) bool
}

func (h *heap) swap(i, j int) {
	h.items[i], h.items[j] = h.items[j], h.items[i]
	h.place[h.items[i]], h.place[h.items[j]] = i, j
}

func (h *heap) push(v int) {
	if h.place[v] >= 0 {
		return
	}
	h.place[v] = len(h.items)
	h.items = append(h.items, v)
	h.up(v)
}

// up moves a variable towards the front.
func (h *heap) up(v int) {
	for i := h.place[v]; i > 0 && h.less(h.items[i], h.items[(i-1)/2]); i = (i - 1) / 2 {
		h.swap(i, (i-1)/2)
	}
}

// next removes variables from the front until one is wanted, and returns it, or 0.
func (h *heap) next(wanted func(v int) bool) int {
	for len(h.items) > 0 {
		v := h.items[0]
		h.pop()
		if wanted(v) {
			return v
		}
	}
	return 0
}

func (h *heap) pop() {
	last := len(h.items) - 1
	h.swap(0, last)
	h.place[h.items[last]] = -1
	h.items = h.items[:last]
	for i := 0; ; {
		k := 2*i + 1
		if k >= len(h.items) {
			return
		}
		if k+1 < len(h.items) && h.less(h.items[k+1], h.items[k]) {
			k++
		}
		if !h.less(h.items[k], h.items[i]) {
			return
		}
		h.swap(i, k)
		i = k
	}
}
