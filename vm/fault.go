package vm

import "squinch/api"

const (
	nullFault  = "NullFault"
	indexFault = "IndexFault"
	castFault  = "CastFault"
	zeroFault  = "ZeroFault"
	roomFault  = "RoomFault"
	callFault  = "CallFault"
)

// throw throws an object.
func (m *Machine) throw(thrown api.Value) {
	isA := func(class string) bool { return m.heap.Fits(thrown, class) }
	for !m.ended() {
		if m.inner().catch(thrown, isA) {
			return
		}
		m.drop()
	}
	m.stop(api.EndThrown, thrown)
}

// cause causes a fault. An instruction does nothing more after it.
func (m *Machine) cause(class string) {
	n, e := m.heap.Object(class)
	if e != api.OK {
		m.stop(api.EndFull, api.Value{})
		return
	}
	m.throw(reference(n))
}

// refers reports whether a value refers to an object, and causes a fault if it does not.
func (m *Machine) refers(v api.Value) bool {
	if v.Sort != api.Ref {
		m.cause(nullFault)
		return false
	}
	return true
}

// done reports whether the heap did what it was to do, and causes the fault for its error if it did not.
func (m *Machine) done(e api.Errno) bool {
	switch e {
	case api.OK:
		return true
	case api.ErrHeapPlace:
		m.cause(indexFault)
	case api.ErrHeapRoom:
		m.cause(roomFault)
	default:
		// Only methods that layer 8 does not accept come here, or those whose objects were cut from the heap.
		m.cause(callFault)
	}
	return false
}
