package votes_test

import (
	"encoding/binary"
	"math"
	"math/rand"
	"slices"
	"strings"
	"testing"

	"bottomry/api"
	"bottomry/votes"
)

// The chapters' limits, as numbers: a change of api's constants is seen too.
const (
	mostN       = 7
	mostClients = 4
	mostView    = 1 << 20
	mostSeq     = 1 << 20
	mostStamp   = 1 << 40
	mostResult  = 99
)

// digestOf is a digest of which each byte is another one than its neighbours.
func digestOf(seed int) api.Digest {
	var d api.Digest
	for i := range d {
		d[i] = byte(seed + 7*i + 1)
	}
	return d
}

// badSizes are numbers of replicas that there may not be.
func badSizes() []int {
	return []int{0, -1, -4, -64, mostN + 1, 10, 32, 64, 256 + 4, 1<<32 + 4, math.MaxInt, math.MaxInt - 3, math.MinInt}
}

// around are numbers at a limit's edges, and those whose lowest bits may be as well.
func around(most int64) []int64 {
	return []int64{0, 1, 2, 255, 256, most - 1, most, most + 1, most + 2, 2 * most, -1, -2, -most, 1<<32 + 1, 1<<48 + 1, 1 << 56, math.MaxInt64, math.MinInt64, math.MinInt64 + 1}
}

// clients are numbers around those of the clients of n replicas, as they stand in a byte.
func clients(n int) []int {
	return []int{0, 1, n - 1, n, n + 1, n + 2, n + mostClients - 1, n + mostClients, n + mostClients + 1, 63, 127, 128, 255}
}

func mayView(x int64) bool         { return x >= 0 && x <= mostView }
func maySeq(x int64) bool          { return x >= 0 && x <= mostSeq }
func mayStamp(x int64) bool        { return x > 0 && x <= mostStamp }
func mayClient(x, n int) bool      { return n <= x && x <= n+mostClients-1 }
func mayMask(x uint32, n int) bool { return x>>n == 0 }

// put writes a number a second way.
func put(b []byte, x int64) []byte {
	return binary.BigEndian.AppendUint64(b, uint64(x))
}

// at reads one, at a place.
func at(b []byte, place int) int64 {
	return int64(binary.BigEndian.Uint64(b[place:]))
}

func voteBody(v api.Vote) []byte {
	return append(put(put(nil, v.View), v.Seq), v.Digest[:]...)
}

func vouchingBody(v api.Vouching) []byte {
	return append(append(put([]byte{byte(v.Client)}, v.Stamp), v.Digest[:]...), byte(v.Mask))
}

func replyBody(r api.Reply) []byte {
	return append(put(append(put(nil, r.View), byte(r.Client)), r.Stamp), byte(r.Result))
}

// voteIn, vouchingIn and replyIn read bodies a second way, by places alone.

func voteIn(b []byte) (api.Vote, api.Errno) {
	if len(b) != 48 {
		return api.Vote{}, api.ErrForm
	}
	v := api.Vote{View: at(b, 0), Seq: at(b, 8), Digest: api.Digest(b[16:])}
	if !mayView(v.View) || !maySeq(v.Seq) {
		return api.Vote{}, api.ErrRange
	}
	return v, api.OK
}

func vouchingIn(b []byte, n int) (api.Vouching, api.Errno) {
	if n < 1 || n > mostN {
		return api.Vouching{}, api.ErrArg
	}
	if len(b) != 42 {
		return api.Vouching{}, api.ErrForm
	}
	v := api.Vouching{Client: int(b[0]), Stamp: at(b, 1), Digest: api.Digest(b[9:]), Mask: uint32(b[41])}
	if !mayClient(v.Client, n) || !mayStamp(v.Stamp) || !mayMask(v.Mask, n) {
		return api.Vouching{}, api.ErrRange
	}
	return v, api.OK
}

func replyIn(b []byte, n int) (api.Reply, api.Errno) {
	if n < 1 || n > mostN {
		return api.Reply{}, api.ErrArg
	}
	if len(b) != 18 {
		return api.Reply{}, api.ErrForm
	}
	r := api.Reply{View: at(b, 0), Client: int(b[8]), Stamp: at(b, 9), Result: api.Errno(b[17])}
	if !mayView(r.View) || !mayClient(r.Client, n) || !mayStamp(r.Stamp) || r.Result > mostResult {
		return api.Reply{}, api.ErrRange
	}
	return r, api.OK
}

// Each kind of body that has numbers and a digest alone is held against its second way; beside an error there is nothing.

func sameVote(t *testing.T, b []byte) {
	t.Helper()
	want, wrong := voteIn(b)
	if got, e := votes.ParseVote(b); e != wrong || got != want {
		t.Fatalf("%x: %v, %d, want %v, %d", b, got, e, want, wrong)
	}
}

func sameVouching(t *testing.T, b []byte, n int) {
	t.Helper()
	want, wrong := vouchingIn(b, n)
	if got, e := votes.ParseVouching(b, n); e != wrong || got != want {
		t.Fatalf("of %d: %x: %v, %d, want %v, %d", n, b, got, e, want, wrong)
	}
}

func sameReply(t *testing.T, b []byte, n int) {
	t.Helper()
	want, wrong := replyIn(b, n)
	if got, e := votes.ParseReply(b, n); e != wrong || got != want {
		t.Fatalf("of %d: %x: %v, %d, want %v, %d", n, b, got, e, want, wrong)
	}
}

func sameAll(t *testing.T, b []byte, n int) {
	t.Helper()
	sameVote(t, b)
	sameVouching(t, b, n)
	sameReply(t, b, n)
	sameProposal(t, b, n)
}

// What may be, around the edges.

func someVote() api.Vote {
	return api.Vote{View: 3, Seq: 5, Digest: digestOf(9)}
}

func someVouching(n int) api.Vouching {
	return api.Vouching{Client: n + 1, Stamp: 7, Digest: digestOf(4), Mask: 1}
}

func someReply(n int) api.Reply {
	return api.Reply{View: 2, Client: n + 2, Stamp: 11, Result: api.ErrPolicy}
}

// P17.1: bodies.

func TestBodiesOfExamples(t *testing.T) {
	digest := "abcdefghijklmnopqrstuvwxyz012345"
	none, one, long := strings.Repeat("\x00", 8), "\x00\x00\x00\x00\x00\x00\x00\x01", "\x01\x02\x03\x04\x05\x06\x07\x08"
	for _, x := range []struct {
		got  []byte
		want string
	}{
		{votes.Vote(api.Vote{}), strings.Repeat("\x00", 48)},
		{votes.Vote(api.Vote{View: 1, Seq: 258, Digest: api.Digest([]byte(digest))}), one + "\x00\x00\x00\x00\x00\x00\x01\x02" + digest},
		{votes.Vote(api.Vote{View: 0x0102030405060708, Seq: -1}), long + strings.Repeat("\xff", 8) + strings.Repeat("\x00", 32)},
		{votes.Vouching(api.Vouching{}), strings.Repeat("\x00", 42)},
		{votes.Vouching(api.Vouching{Client: 4, Stamp: 1, Digest: api.Digest([]byte(digest)), Mask: 0x7f}), "\x04" + one + digest + "\x7f"},
		{votes.Vouching(api.Vouching{Client: 256 + 4, Stamp: 0x0102030405060708, Mask: 256 + 3}), "\x04" + long + strings.Repeat("\x00", 32) + "\x03"},
		{votes.Reply(api.Reply{}), strings.Repeat("\x00", 18)},
		{votes.Reply(api.Reply{View: 1, Client: 5, Stamp: 0x0102030405060708, Result: 17}), one + "\x05" + long + "\x11"},
		{votes.Reply(api.Reply{View: -2, Client: -1, Stamp: 0, Result: 256 + 9}), "\xff\xff\xff\xff\xff\xff\xff\xfe" + "\xff" + none + "\x09"},
	} {
		if string(x.got) != x.want {
			t.Errorf("%x, want %x", x.got, x.want)
		}
	}
}

// Numbers go round, in whatever is said.
func TestBodiesOfWhatMayNotBe(t *testing.T) {
	small := []int{0, 1, 99, 100, 255, 256, 257, 1<<16 + 5, 1<<32 + 6, -1, -255, -256, -257, math.MaxInt, math.MinInt}
	wide := append(around(mostStamp), around(mostView)...)
	for i, x := range small {
		for j, y := range wide {
			for k, z := range wide {
				v := api.Vote{View: y, Seq: z, Digest: digestOf(i + j)}
				if !slices.Equal(votes.Vote(v), voteBody(v)) {
					t.Fatalf("%v: %x", v, votes.Vote(v))
				}
				r := api.Reply{View: y, Client: x, Stamp: z, Result: api.Errno(small[(i+k)%len(small)])}
				if !slices.Equal(votes.Reply(r), replyBody(r)) {
					t.Fatalf("%v: %x", r, votes.Reply(r))
				}
			}
			for _, mask := range []uint32{0, 1, 127, 128, 255, 256, 257, 1 << 16, 1<<31 | 5, math.MaxUint32} {
				v := api.Vouching{Client: x, Stamp: y, Digest: digestOf(i + j), Mask: mask}
				if !slices.Equal(votes.Vouching(v), vouchingBody(v)) {
					t.Fatalf("%v: %x", v, votes.Vouching(v))
				}
			}
		}
	}
}

// P17.1: ErrRange of each number alone, and nothing beside it.

func TestParseVoteAtTheEdges(t *testing.T) {
	for _, view := range around(mostView) {
		for _, seq := range around(mostSeq) {
			want := api.ErrRange
			if mayView(view) && maySeq(seq) {
				want = api.OK
			}
			v := api.Vote{View: view, Seq: seq, Digest: digestOf(1)}
			got, e := votes.ParseVote(votes.Vote(v))
			if e != want || e == api.OK && got != v || e != api.OK && got != (api.Vote{}) {
				t.Errorf("the view %d, the number %d: %v, %d", view, seq, got, e)
			}
		}
	}
}

func TestParseVouchingAtTheEdges(t *testing.T) {
	for n := 1; n <= mostN; n++ {
		for _, client := range clients(n) {
			for _, stamp := range around(mostStamp) {
				for _, mask := range []uint32{0, 1, 1<<n - 1, 1 << n, 1<<n | 1, 127, 128, 255} {
					want := api.ErrRange
					if mayClient(client, n) && mayStamp(stamp) && mayMask(mask, n) {
						want = api.OK
					}
					v := api.Vouching{Client: client, Stamp: stamp, Digest: digestOf(n), Mask: mask}
					got, e := votes.ParseVouching(votes.Vouching(v), n)
					if e != want || e == api.OK && got != v || e != api.OK && got != (api.Vouching{}) {
						t.Errorf("of %d: the client %d, the stamp %d, the mask %b: %v, %d", n, client, stamp, mask, got, e)
					}
				}
			}
		}
	}
}

func TestParseReplyAtTheEdges(t *testing.T) {
	for n := 1; n <= mostN; n++ {
		for _, view := range around(mostView) {
			for _, client := range clients(n) {
				for _, stamp := range around(mostStamp) {
					for _, result := range []api.Errno{0, 17, 18, 98, 99, 100, 101, 127, 128, 255} {
						want := api.ErrRange
						if mayView(view) && mayClient(client, n) && mayStamp(stamp) && result <= 99 {
							want = api.OK
						}
						r := api.Reply{View: view, Client: client, Stamp: stamp, Result: result}
						got, e := votes.ParseReply(votes.Reply(r), n)
						if e != want || e == api.OK && got != r || e != api.OK && got != (api.Reply{}) {
							t.Errorf("of %d: %v: %v, %d", n, r, got, e)
						}
					}
				}
			}
		}
	}
}

// What may be of 4 replicas may not be of others: who is a client hangs on n.
func TestParseOfOtherSizes(t *testing.T) {
	vouching, reply := votes.Vouching(api.Vouching{Client: 4, Stamp: 1, Mask: 0b1000}), votes.Reply(api.Reply{Client: 4, Stamp: 1})
	for n := 1; n <= mostN; n++ {
		wantVouching, wantReply := api.ErrRange, api.ErrRange
		if n == 4 {
			wantVouching = api.OK
		}
		if n <= 4 {
			wantReply = api.OK
		}
		if _, e := votes.ParseVouching(vouching, n); e != wantVouching {
			t.Errorf("a vouching, of %d: %d", n, e)
		}
		if _, e := votes.ParseReply(reply, n); e != wantReply {
			t.Errorf("a reply, of %d: %d", n, e)
		}
	}
}

// P17.1: ErrArg ahead of ErrForm, and that ahead of ErrRange.

func TestParseOfSizesThatMayNotBe(t *testing.T) {
	for _, n := range badSizes() {
		for _, b := range [][]byte{nil, {}, []byte("x"), votes.Vouching(someVouching(4)), votes.Reply(someReply(4)), votes.Vote(someVote()), make([]byte, 42), make([]byte, 18), votes.Proposal(api.Proposal{})} {
			if v, e := votes.ParseVouching(b, n); e != api.ErrArg || v != (api.Vouching{}) {
				t.Errorf("a vouching of %d, %d bytes: %v, %d", n, len(b), v, e)
			}
			if r, e := votes.ParseReply(b, n); e != api.ErrArg || r != (api.Reply{}) {
				t.Errorf("a reply of %d, %d bytes: %v, %d", n, len(b), r, e)
			}
			if p, e := votes.ParseProposal(b, n); e != api.ErrArg || !isNothing(p) {
				t.Errorf("a proposal of %d, %d bytes: %v, %d", n, len(b), p, e)
			}
		}
	}
}

// Bytes that are cut, or go on, are of no form, whether their numbers may be or not.
func TestParseOfNoForm(t *testing.T) {
	for _, b := range [][]byte{
		votes.Vote(someVote()), votes.Vote(api.Vote{View: -1, Seq: mostSeq + 1}),
		votes.Vouching(someVouching(4)), votes.Vouching(api.Vouching{Stamp: -1, Mask: 255}),
		votes.Reply(someReply(4)), votes.Reply(api.Reply{View: -1, Result: 200}),
		slices.Repeat([]byte{0xff}, 48), slices.Repeat([]byte{0xff}, 42), slices.Repeat([]byte{0xff}, 18),
	} {
		for n := range len(b) + 60 {
			l := append(slices.Clone(b), slices.Repeat([]byte{0xff}, 60)...)[:n]
			if v, e := votes.ParseVote(l); n != 48 && (e != api.ErrForm || v != (api.Vote{})) {
				t.Errorf("a vote of %d bytes: %v, %d", n, v, e)
			}
			if v, e := votes.ParseVouching(l, 4); n != 42 && (e != api.ErrForm || v != (api.Vouching{})) {
				t.Errorf("a vouching of %d bytes: %v, %d", n, v, e)
			}
			if r, e := votes.ParseReply(l, 4); n != 18 && (e != api.ErrForm || r != (api.Reply{})) {
				t.Errorf("a reply of %d bytes: %v, %d", n, r, e)
			}
		}
		for _, long := range []int{100, 1 << 16, 1 << 20} {
			l := append(slices.Clone(b), make([]byte, long)...)
			sameAll(t, l, 4)
		}
	}
	if v, e := votes.ParseVote(nil); e != api.ErrForm || v != (api.Vote{}) {
		t.Errorf("nothing: %v, %d", v, e)
	}
}

// P17.1: each byte changed to each other one, against the second ways.
func TestParseOfEachByteChanged(t *testing.T) {
	for n := 1; n <= mostN; n++ {
		for _, b := range [][]byte{
			votes.Vote(someVote()), votes.Vote(api.Vote{View: mostView, Seq: mostSeq}),
			votes.Vouching(someVouching(n)), votes.Vouching(api.Vouching{Client: n, Stamp: mostStamp}),
			votes.Reply(someReply(n)), votes.Reply(api.Reply{View: mostView, Client: n + mostClients - 1, Stamp: mostStamp, Result: 99}),
		} {
			for i := range b {
				was := b[i]
				for x := range 256 {
					b[i] = byte(x)
					sameAll(t, b, n)
				}
				b[i] = was
			}
		}
	}
}

// number is one that may be, mostly; at times at an edge, or far beyond.
func number(r *rand.Rand, most int64) int64 {
	switch r.Intn(8) {
	case 0:
		l := around(most)
		return l[r.Intn(len(l))]
	case 1:
		return int64(r.Uint64())
	}
	return 1 + r.Int63n(most)
}

func digest(r *rand.Rand) (d api.Digest) {
	r.Read(d[:])
	return d
}

// P17.1, P17.2: tens of thousands of bodies, those that may not be as well, and some of them spoilt.
func TestManyBodies(t *testing.T) {
	r := rand.New(rand.NewSource(17))
	fine := 0
	for range 60000 {
		n := 1 + r.Intn(mostN)
		v := api.Vote{View: number(r, mostView), Seq: number(r, mostSeq), Digest: digest(r)}
		h := api.Vouching{Client: n + r.Intn(mostClients+1), Stamp: number(r, mostStamp), Digest: digest(r), Mask: uint32(r.Intn(2 << n))}
		y := api.Reply{View: number(r, mostView), Client: n + r.Intn(mostClients+1), Stamp: number(r, mostStamp), Result: api.Errno(r.Intn(120))}
		for _, b := range [][]byte{votes.Vote(v), votes.Vouching(h), votes.Reply(y)} {
			sameAll(t, b, n)
			sameAll(t, b, n+r.Intn(5)-2)
			sameAll(t, spoilt(r, b), n)
		}
		if _, e := vouchingIn(vouchingBody(h), n); e == api.OK {
			fine++
		}
	}
	if fine < 10000 {
		t.Errorf("just %d vouchings may be", fine)
	}
}

// spoilt changes some of a body's bytes, cuts them, or puts others between or behind.
func spoilt(r *rand.Rand, b []byte) []byte {
	b = slices.Clone(b)
	for range 1 + r.Intn(2) {
		i := r.Intn(len(b))
		switch r.Intn(5) {
		case 0:
			b[i] ^= 1 << r.Intn(8)
		case 1:
			b = append(slices.Delete(b, i, i+1), 0)
		case 2:
			b = slices.Insert(b, i, byte(r.Intn(256)))
		case 3:
			b = append(b, make([]byte, r.Intn(40))...)
		default:
			b = b[:i+1]
		}
	}
	return b
}

// P17.2: what may be is parsed out of its body as it was.

func TestVotesAreParsedAsTheyWere(t *testing.T) {
	for bit := range 21 {
		for other := range 21 {
			for i := range 32 {
				v := api.Vote{View: 1 << bit, Seq: 1 << other}
				v.Digest[i] = byte(1 + bit)
				if got, e := votes.ParseVote(votes.Vote(v)); e != api.OK || got != v {
					t.Fatalf("%v: %v, %d", v, got, e)
				}
			}
		}
	}
}

func TestVouchingsAreParsedAsTheyWere(t *testing.T) {
	for n := 1; n <= mostN; n++ {
		for client := n; client < n+mostClients; client++ {
			for mask := range uint32(1) << n {
				for bit := range 41 {
					v := api.Vouching{Client: client, Stamp: 1 << bit, Digest: digestOf(bit), Mask: mask}
					if got, e := votes.ParseVouching(votes.Vouching(v), n); e != api.OK || got != v {
						t.Fatalf("of %d: %v: %v, %d", n, v, got, e)
					}
				}
			}
		}
	}
}

func TestRepliesAreParsedAsTheyWere(t *testing.T) {
	for n := 1; n <= mostN; n++ {
		for client := n; client < n+mostClients; client++ {
			for result := range mostResult + 1 {
				for bit := range 41 {
					r := api.Reply{View: 1 << (bit % 21), Client: client, Stamp: 1 << bit, Result: api.Errno(result)}
					if got, e := votes.ParseReply(votes.Reply(r), n); e != api.OK || got != r {
						t.Fatalf("of %d: %v: %v, %d", n, r, got, e)
					}
				}
			}
		}
	}
}

// P17.1: what is handed in stays, and answers are memory of their own.
func TestMemory(t *testing.T) {
	for _, b := range [][]byte{votes.Vote(someVote()), votes.Vouching(someVouching(4)), votes.Reply(someReply(4))} {
		whole := append(make([]byte, 0, 200), b...)
		v, _ := votes.ParseVote(whole)
		h, _ := votes.ParseVouching(whole, 4)
		y, _ := votes.ParseReply(whole, 4)
		if !slices.Equal(whole, b) || slices.Max(whole[:200][len(b):]) != 0 {
			t.Error("the bytes were changed")
		}
		clear(whole)
		for _, body := range [][]byte{votes.Vote(v), votes.Vouching(h), votes.Reply(y)} {
			if len(body) == len(b) && !slices.Equal(body, b) {
				t.Errorf("%x changed with its bytes: %x", b, body)
			}
		}
	}
	for _, body := range []func() []byte{
		func() []byte { return votes.Vote(someVote()) },
		func() []byte { return votes.Vouching(someVouching(4)) },
		func() []byte { return votes.Reply(someReply(4)) },
	} {
		one, other := body(), body()
		was := slices.Clone(other)
		clear(one[:cap(one)])
		if !slices.Equal(other, was) || !slices.Equal(body(), was) {
			t.Error("a body is shared")
		}
	}
}
