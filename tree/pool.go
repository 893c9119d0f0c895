package tree

import "rootstock/api"

// Pool is objects in memory, by their names.
type Pool struct {
	data map[api.Id]string
}

// NewPool: one without objects.
func NewPool() *Pool { return &Pool{data: map[api.Id]string{}} }

// Put: objects are there, as they are.
func (p *Pool) Put(list ...api.Object) {
	if p == nil {
		return
	}
	for _, o := range list {
		p.data[o.Id] = o.Data
	}
}

// Object: one's bytes; ErrNil, ErrNone.
func (p *Pool) Object(id api.Id) (string, api.Errno) {
	if p == nil {
		return "", api.ErrNil
	}
	data, ok := p.data[id]
	if !ok {
		return "", api.ErrNone
	}
	return data, api.OK
}

// Size: how many objects there are.
func (p *Pool) Size() int {
	if p == nil {
		return 0
	}
	return len(p.data)
}
