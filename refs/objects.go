package refs

import (
	"rootstock/api"
	"rootstock/cache"
	"rootstock/ident"
)

// Objects is a cache's objects, as a source.
type Objects struct{ cache *cache.Cache }

// Of: a cache's objects.
func Of(c *cache.Cache) Objects { return Objects{c} }

// Object: an object's bytes; ErrNone, the cache's errors.
func (o Objects) Object(id api.Id) (string, api.Errno) {
	// All names that can't be have one key, under which somebody might have laid something down.
	if !ident.Good(id) {
		return "", api.ErrNone
	}
	return valueOf(o.cache, ObjectKey(id))
}
