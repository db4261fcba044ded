package wire

import "baton/api"

// MayAsk tells whether the request r may be.
func MayAsk(r api.Req) bool {
	return within(r.Kind, api.Range, api.Write) &&
		numbers(r.Who, r.Seq, r.Lease, r.Rev, r.TTL, r.Token) &&
		mayKey(r.Key) && mayValue(r.Value) &&
		each(r.Txn.If, api.MaxList, mayCmp) &&
		each(r.Txn.Then, api.MaxList, mayMut) &&
		each(r.Txn.Else, api.MaxList, mayMut)
}

// MayTell tells whether the reply r may be.
func MayTell(r api.Reply) bool {
	return within(int(r.Code), int(api.OK), int(api.ErrBreach)) &&
		numbers(r.Who, r.Seq, r.Rev, r.Lease, r.TTL) &&
		each(r.KVs, api.MaxKeys, mayKV) &&
		each(r.Events, api.MaxKeys, mayEvent)
}

func mayCmp(c api.Cmp) bool {
	return mayKey(c.Key) && mayValue(c.Value) && numbers(c.N) &&
		within(c.What, api.Create, api.Value) &&
		within(c.How, api.Equal, api.Greater)
}

func mayMut(m api.Mut) bool {
	return mayKey(m.Key) && mayValue(m.Value) && numbers(m.Lease)
}

func mayKV(x api.KV) bool {
	return mayKey(x.Key) && mayValue(x.Value) && numbers(x.Create, x.Mod, x.Version, x.Lease)
}

func mayEvent(e api.Event) bool {
	return numbers(e.Rev) && mayKV(e.KV)
}

// mayKey holds a key's length alone: what a prefix or a wrong key is, is not for the wire to say.
func mayKey(s string) bool {
	return len(s) <= api.MaxKey
}

func mayValue(s string) bool {
	return len(s) <= api.MaxValue
}

// numbers tells whether all of l are numbers that may be.
func numbers(l ...int) bool {
	return each(l, len(l), func(n int) bool { return within(n, 0, api.MaxNumber) })
}

// each tells whether l has at most most things, and may tells true of all of them.
func each[T any](l []T, most int, may func(T) bool) bool {
	if len(l) > most {
		return false
	}
	for _, x := range l {
		if !may(x) {
			return false
		}
	}
	return true
}

func within(n int, low int, high int) bool {
	return low <= n && n <= high
}
