package sample

import "mizzen/api"

// Spoil overwrites all the memory that a value has, with the room behind its ends: whatever shares it shows that.
func Spoil(v api.Value) {
	for i, x := range v.List {
		Spoil(x)
		v.List[i] = api.Value{Kind: 99}
	}
	for i, p := range v.Map {
		Spoil(p.Value)
		v.Map[i] = pair("spoiled", api.Value{Kind: 99})
	}
	fill(v.List[len(v.List):cap(v.List)], api.Value{Kind: 98})
	fill(v.Map[len(v.Map):cap(v.Map)], pair("room", api.Value{Kind: 98}))
}

func fill[T any](l []T, x T) {
	for i := range l {
		l[i] = x
	}
}

// Apart says whether no two lists of a value share memory. It numbers what is in them, place by place: in what is shared the later numbers overwrite the first ones.
func Apart(v api.Value) bool {
	last := int64(0)
	inside(v, func(x *api.Value) {
		last++
		x.Int = last
	})
	last, apart := 0, true
	inside(v, func(x *api.Value) {
		last++
		apart = apart && x.Int == last
	})
	return apart
}

// inside shows each value that stands in another one.
func inside(v api.Value, see func(*api.Value)) {
	for i := range v.List {
		see(&v.List[i])
		inside(v.List[i], see)
	}
	for i := range v.Map {
		see(&v.Map[i].Value)
		inside(v.Map[i].Value, see)
	}
}
