package curve_test

import (
	"bytes"
	"crypto/ecdh"
	"crypto/ed25519"
	"crypto/sha512"
	"math/big"
	"math/rand"
	"testing"

	"covey/api"
	"covey/curve"
)

var (
	noBytes [32]byte
	noPoint api.Point
	nought  = api.Point{Y: [32]byte{1}}
)

// The answers that must be there: anything beside a nil error ends the test.

func add(t *testing.T, p, q api.Point) api.Point {
	t.Helper()
	s, err := curve.Add(p, q)
	return sound(t, "Add", s, err)
}

func neg(t *testing.T, p api.Point) api.Point {
	t.Helper()
	s, err := curve.Neg(p)
	return sound(t, "Neg", s, err)
}

func times(t *testing.T, k [32]byte, p api.Point) api.Point {
	t.Helper()
	s, err := curve.Times(k, p)
	return sound(t, "Times", s, err)
}

func encode(t *testing.T, p api.Point) [32]byte {
	t.Helper()
	b, err := curve.Encode(p)
	if err != nil {
		t.Fatalf("Encode(%x): %v", p, err)
	}
	return b
}

func decode(t *testing.T, b [32]byte) api.Point {
	t.Helper()
	p, err := curve.Decode(b)
	return sound(t, "Decode", p, err)
}

func scalar(t *testing.T, b []byte) [32]byte {
	t.Helper()
	s, err := curve.Scalar(b)
	if err != nil {
		t.Fatalf("Scalar(%x): %v", b, err)
	}
	return s
}

// sound is a point that was answered: it lies on the curve, and its coordinates are below p.
func sound(t *testing.T, what string, p api.Point, err error) api.Point {
	t.Helper()
	if err != nil {
		t.Fatalf("%s: %v", what, err)
	}
	if whole(p.X[:]).Cmp(prime) >= 0 || whole(p.Y[:]).Cmp(prime) >= 0 {
		t.Fatalf("%s: %x isn't below p", what, p)
	}
	if !oracleIs(spotOf(p)) || !curve.Is(p) {
		t.Fatalf("%s: %x doesn't lie on the curve", what, p)
	}
	return p
}

func isPoint(t *testing.T, what string, got, want api.Point) {
	t.Helper()
	if got != want {
		t.Fatalf("%s: %x; not %x", what, got, want)
	}
}

func isNumber(t *testing.T, what string, got, want [32]byte) {
	t.Helper()
	if got != want {
		t.Fatalf("%s: %x; not %x", what, got, want)
	}
}

func noPointOf(t *testing.T, what string, got api.Point, err error) {
	t.Helper()
	if err != error(api.ErrPoint) || got != noPoint {
		t.Fatalf("%s: %x, %v; not the zero point and ErrPoint", what, got, err)
	}
}

// drawn are n numbers by chance, some of them with long runs of noughts or ones.
func drawn(seed int64, n int) [][32]byte {
	chance := rand.New(rand.NewSource(seed))
	all := make([][32]byte, n)
	for i := range all {
		chance.Read(all[i][:])
		for w := 0; w < 32 && i%2 == 1; w += 8 {
			switch chance.Intn(4) {
			case 0:
				copy(all[i][w:w+8], bytes.Repeat([]byte{0}, 8))
			case 1:
				copy(all[i][w:w+8], bytes.Repeat([]byte{255}, 8))
			}
		}
	}
	return all
}

// drawnSpots are n points by chance, of all kinds of orders.
func drawnSpots(seed int64, n int) []spot {
	var all []spot
	for i := int64(0); len(all) < n; i++ {
		for _, b := range drawn(seed<<32+i, 1) {
			if s, ok := oracleDecode(b); ok {
				all = append(all, s)
			}
		}
	}
	return all
}

// eighth is a point of the order 8.
func eighth() spot {
	for _, s := range drawnSpots(8, 20) {
		e := oracleTimes(order, s)
		if !oracleTimes(big.NewInt(4), e).same(oracleNought()) {
			return e
		}
	}
	panic("no point of the order 8")
}

// smallSpots are the eight points of small order, nought ahead.
func smallSpots() []spot {
	all := []spot{oracleNought()}
	for e := eighth(); len(all) < 8; {
		all = append(all, oracleAdd(all[len(all)-1], e))
	}
	return all
}

// kinds are points of all kinds: the small ones, the base point and some of its multiples, those with a small part, ones by chance.
func kinds(seed int64) []spot {
	base, small := oracleBase(), smallSpots()
	all := append([]spot{base, oracleNeg(base), oracleAdd(base, base)}, small...)
	for _, s := range small {
		all = append(all, oracleAdd(base, s))
	}
	return append(all, drawnSpots(seed, 8)...)
}

// forms are the ways to hand a point in: each coordinate as the number below p, and p or twice that more, where that has room.
func forms(s spot) []api.Point {
	var all []api.Point
	for _, x := range same(s.x) {
		for _, y := range same(s.y) {
			all = append(all, api.Point{X: x, Y: y})
		}
	}
	return all
}

func same(n *big.Int) [][32]byte {
	all := [][32]byte{number(n)}
	for _, times := range []int64{1, 2} {
		if more := new(big.Int).Add(n, product(big.NewInt(times), prime)); more.BitLen() <= 256 {
			all = append(all, number(more))
		}
	}
	return all
}

// off are points that do not lie on the curve.
func off() []api.Point {
	all := []api.Point{{}, {X: [32]byte{1}, Y: [32]byte{1}}, {X: [32]byte{1}}, {Y: [32]byte{2}}, {X: number(prime), Y: number(prime)}}
	for _, s := range kinds(3) {
		right := s.point()
		for _, wrong := range []api.Point{
			{X: number(plus(s.x, 1)), Y: right.Y}, {X: right.X, Y: number(plus(s.y, 1))},
			{X: right.Y, Y: right.X}, {X: right.X, Y: right.X}, {X: right.Y, Y: right.Y},
			{X: right.X}, {Y: right.Y},
		} {
			if !oracleIs(spotOf(wrong)) {
				all = append(all, wrong)
			}
		}
	}
	chance := drawn(4, 40)
	for i := 0; i < len(chance); i += 2 {
		all = append(all, api.Point{X: chance[i], Y: chance[i+1]})
	}
	return all
}

func TestExamples(t *testing.T) {
	base := curve.Base()
	want := append([]byte{0x58}, bytes.Repeat([]byte{0x66}, 31)...)
	if b := encode(t, base); !bytes.Equal(b[:], want) {
		t.Errorf("Encode(Base()): %x", b)
	}
	isPoint(t, "Add(Base(), Neg(Base()))", add(t, base, neg(t, base)), nought)
	isPoint(t, "Times(0, Base())", times(t, noBytes, base), nought)
	if !curve.Is(nought) || curve.Is(api.Point{X: [32]byte{1}, Y: [32]byte{1}}) {
		t.Errorf("Is((0, 1)) or Is((1, 1))")
	}
	none, err := curve.Decode([32]byte{2})
	noPointOf(t, "Decode(2)", none, err)
	isNumber(t, "Scalar(order)", scalar(t, bytesOf(order)), noBytes)
	if curve.Low(number(order)) {
		t.Errorf("Low(order)")
	}
	isNumber(t, "MulAdd(2, 3, 4)", curve.MulAdd([32]byte{2}, [32]byte{3}, [32]byte{4}), [32]byte{10})
}

func bytesOf(n *big.Int) []byte {
	b := number(n)
	return b[:]
}

// TestBase, P7.1: y is 4 / 5, x the even one, and the order is the least number of times that make nought (it is a prime number).
func TestBase(t *testing.T) {
	base := curve.Base()
	isPoint(t, "Base", base, oracleBase().point())
	if y := spotOf(base).y; mod(product(big.NewInt(5), y)).Int64() != 4 {
		t.Errorf("five times y is no 4")
	}
	if base.X[0]&1 == 1 || !curve.Is(base) {
		t.Errorf("Base: %x", base)
	}
	isPoint(t, "order times Base", times(t, number(order), base), nought)
	if !order.ProbablyPrime(20) || base == nought {
		t.Errorf("the order isn't the least one")
	}
	isPoint(t, "Base once more", curve.Base(), base)
}

// TestIs, P7.1.
func TestIs(t *testing.T) {
	for _, s := range append(kinds(1), drawnSpots(2, 200)...) {
		for _, p := range forms(s) {
			if !curve.Is(p) {
				t.Errorf("Is(%x): false", p)
			}
		}
	}
	for _, p := range off() {
		if curve.Is(p) != oracleIs(spotOf(p)) || curve.Is(p) {
			t.Errorf("Is(%x): true", p)
		}
	}
}

// TestIsSmall: every pair of small coordinates, and of those a little below p and above it.
func TestIsSmall(t *testing.T) {
	var all []*big.Int
	for i := int64(-12); i < 12; i++ {
		all = append(all, plus(prime, i))
		if i >= 0 {
			all = append(all, big.NewInt(i))
		}
	}
	on := 0
	for _, x := range all {
		for _, y := range all {
			p := api.Point{X: number(x), Y: number(y)}
			if curve.Is(p) != oracleIs(spotOf(p)) {
				t.Errorf("Is(%x): %v", p, curve.Is(p))
			}
			if curve.Is(p) {
				on++
			}
		}
	}
	if on != 6 { // x as 0 and p; y as 1, p + 1 and p - 1
		t.Errorf("on the curve: %d", on)
	}
}

// TestOff, P7.2: ErrPoint for what doesn't lie on the curve, whatever stands beside it.
func TestOff(t *testing.T) {
	beside := []api.Point{nought, curve.Base(), eighth().point()}
	for _, wrong := range off() {
		for _, p := range append(beside, wrong) {
			got, err := curve.Add(wrong, p)
			noPointOf(t, "Add, the first", got, err)
			got, err = curve.Add(p, wrong)
			noPointOf(t, "Add, the second", got, err)
		}
		got, err := curve.Neg(wrong)
		noPointOf(t, "Neg", got, err)
		for _, k := range [][32]byte{noBytes, {1}, {8}, number(order), drawn(9, 1)[0]} {
			got, err = curve.Times(k, wrong)
			noPointOf(t, "Times", got, err)
		}
		b, err := curve.Encode(wrong)
		if err != error(api.ErrPoint) || b != noBytes {
			t.Errorf("Encode(%x): %x, %v", wrong, b, err)
		}
	}
}

// TestAdd, P7.2: each kind with each kind, itself and its negative among them.
func TestAdd(t *testing.T) {
	all := kinds(5)
	for _, a := range all {
		p := a.point()
		isPoint(t, "p and nought", add(t, p, nought), p)
		isPoint(t, "nought and p", add(t, nought, p), p)
		for _, b := range append(all, oracleNeg(a)) {
			isPoint(t, "Add", add(t, p, b.point()), oracleAdd(a, b).point())
		}
	}
}

func TestNeg(t *testing.T) {
	for _, a := range append(kinds(6), drawnSpots(7, 100)...) {
		p, n := a.point(), neg(t, a.point())
		isPoint(t, "Neg", n, oracleNeg(a).point())
		isPoint(t, "Neg of Neg", neg(t, n), p)
		isPoint(t, "p and its negative", add(t, p, n), nought)
		isPoint(t, "the negative and p", add(t, n, p), nought)
	}
}

// TestForms: numbers of p or more stand for the same elements, in every call that takes a point.
func TestForms(t *testing.T) {
	k := drawn(10, 1)[0]
	for _, a := range append(kinds(11), lowSpots()...) {
		twice, minus, many, code := oracleAdd(a, a).point(), oracleNeg(a).point(), oracleTimes(whole(k[:]), a).point(), oracleEncode(a)
		for _, p := range forms(a) {
			for _, q := range forms(a) {
				isPoint(t, "Add", add(t, p, q), twice)
			}
			isPoint(t, "Neg", neg(t, p), minus)
			isPoint(t, "Times", times(t, k, p), many)
			isPoint(t, "Times 1", times(t, [32]byte{1}, p), a.point())
			isPoint(t, "Times 0", times(t, noBytes, p), nought)
			isNumber(t, "Encode", encode(t, p), code)
			isPoint(t, "Add nought", add(t, p, nought), a.point())
		}
	}
	if n := len(forms(oracleNought())); n != 9 {
		t.Errorf("forms of nought: %d", n)
	}
}

// lowSpots are the points with a y of which also twice p more has room.
func lowSpots() []spot {
	var all []spot
	for y := range int64(38) {
		if s, ok := oracleWith(big.NewInt(y), uint(y%2)); ok {
			all = append(all, s)
		}
	}
	return all
}

// edges are the numbers at which Times may turn.
func edges() []*big.Int {
	all := []*big.Int{new(big.Int), one, two, big.NewInt(3), big.NewInt(7), big.NewInt(8), big.NewInt(9), big.NewInt(255), big.NewInt(256)}
	for _, times := range []int64{1, 2, 4, 8, 15} {
		n := product(big.NewInt(times), order)
		all = append(all, plus(n, -1), n, plus(n, 1))
	}
	all = append(all, plus(prime, -1), prime, plus(prime, 1))
	for _, bits := range []uint{64, 128, 192, 252, 253, 254, 255} {
		all = append(all, plus(pow2(bits), -1), pow2(bits))
	}
	return append(all, plus(pow2(256), -1))
}

// TestTimes, P7.2.
func TestTimes(t *testing.T) {
	points := append([]spot{oracleBase(), oracleNought(), eighth(), oracleAdd(oracleBase(), eighth())}, drawnSpots(12, 1)...)
	numbers := edges()
	for _, k := range drawn(13, 6) {
		numbers = append(numbers, whole(k[:]))
	}
	for _, a := range points {
		for _, k := range numbers {
			isPoint(t, "Times "+k.String(), times(t, number(k), a.point()), oracleTimes(k, a).point())
		}
	}
}

// TestTimesOneByOne: k times p is the sum of as many.
func TestTimesOneByOne(t *testing.T) {
	for _, a := range append(smallSpots(), oracleBase(), oracleAdd(oracleBase(), eighth()), drawnSpots(14, 1)[0]) {
		p, many := a.point(), nought
		for k := range int64(70) {
			isPoint(t, "Times", times(t, number(big.NewInt(k)), p), many)
			many = add(t, many, p)
		}
	}
}

// TestTimesBits: every single bit of k counts as much as it should.
func TestTimesBits(t *testing.T) {
	a := drawnSpots(15, 1)[0]
	p, power := a.point(), a.point()
	for bit := range uint(256) {
		isPoint(t, "Times", times(t, number(pow2(bit)), p), power)
		power = add(t, power, power)
	}
}

// TestSmallOrders: of the eight small points each has the order that it must have.
func TestSmallOrders(t *testing.T) {
	orders := map[int]int{}
	for _, s := range smallSpots() {
		p, many, n := s.point(), s.point(), 1
		for ; many != nought; n++ {
			many = add(t, many, p)
		}
		orders[n]++
		isPoint(t, "order times p", times(t, [32]byte{byte(n)}, p), nought)
		isPoint(t, "8 times the order", times(t, number(product(big.NewInt(8), order)), p), nought)
	}
	if orders[1] != 1 || orders[2] != 1 || orders[4] != 2 || orders[8] != 4 {
		t.Errorf("orders: %v", orders)
	}
}

// TestTimesLibrary: the library's public keys are a number times the base point.
func TestTimesLibrary(t *testing.T) {
	for _, seed := range drawn(16, 40) {
		sum := sha512.Sum512(seed[:])
		k := [32]byte(sum[:32])
		k[0] &= 248
		k[31] = k[31]&127 | 64
		public := ed25519.NewKeyFromSeed(seed[:]).Public().(ed25519.PublicKey)
		if b := encode(t, times(t, k, curve.Base())); !bytes.Equal(b[:], public) {
			t.Fatalf("%x times Base: %x; not %x", k, b, public)
		}
	}
}

// TestTimesOtherCurve: the library reckons on a curve of another form, whose u is (1 + y) / (1 - y).
func TestTimesOtherCurve(t *testing.T) {
	for i, s := range drawnSpots(17, 20) {
		k := drawn(int64(1000+i), 1)[0]
		k[0] &= 248
		k[31] = k[31]&127 | 64
		private, err := ecdh.X25519().NewPrivateKey(k[:])
		if err != nil {
			t.Fatal(err)
		}
		public, err := ecdh.X25519().NewPublicKey(bytesOf(other(s)))
		if err != nil {
			t.Fatal(err)
		}
		want, err := private.ECDH(public)
		if err != nil {
			t.Fatal(err)
		}
		if got := bytesOf(other(spotOf(times(t, k, s.point())))); !bytes.Equal(got, want) {
			t.Fatalf("%x times %x: u is %x; not %x", k, s.point(), got, want)
		}
	}
}

func other(s spot) *big.Int { return quotient(plus(s.y, 1), new(big.Int).Sub(one, s.y)) }

// TestEncode, P7.2 and P7.5: there and back.
func TestEncode(t *testing.T) {
	odd := 0
	for _, a := range append(kinds(18), drawnSpots(19, 200)...) {
		b := encode(t, a.point())
		isNumber(t, "Encode", b, oracleEncode(a))
		isPoint(t, "Decode of Encode", decode(t, b), a.point())
		isNumber(t, "Encode of Decode", encode(t, decode(t, b)), b)
		odd += int(b[31] >> 7)
	}
	if odd < 50 || odd > 180 {
		t.Errorf("odd ones: %d", odd)
	}
}

// anyBytes holds Decode against the oracle at any bytes, and tells whether there is a point.
func anyBytes(t *testing.T, b [32]byte) bool {
	t.Helper()
	want, ok := oracleDecode(b)
	got, err := curve.Decode(b)
	if !ok {
		noPointOf(t, "Decode", got, err)
		return false
	}
	isPoint(t, "Decode", sound(t, "Decode", got, err), want.point())
	isNumber(t, "Encode of Decode", encode(t, got), b)
	return true
}

// TestDecode, P7.3.
func TestDecode(t *testing.T) {
	points, none := 0, 0
	for _, b := range drawn(20, 400) {
		for _, bit := range []byte{0, 128} {
			b[31] = b[31]&127 | bit
			if anyBytes(t, b) {
				points++
			} else {
				none++
			}
		}
	}
	if points < 200 || none < 200 {
		t.Errorf("%d points, %d none", points, none)
	}
}

// TestDecodeEdges, P7.3: y about 0 and about p, up to 2^255 - 1, with both highest bits.
func TestDecodeEdges(t *testing.T) {
	for i := range int64(60) {
		for _, y := range []*big.Int{big.NewInt(i), plus(prime, -i), plus(prime, i%19)} {
			for _, bit := range []byte{0, 128} {
				b := number(y)
				b[31] |= bit
				anyBytes(t, b)
			}
		}
	}
	for _, y := range []*big.Int{prime, plus(prime, 1), plus(prime, 2), plus(pow2(255), -2), plus(pow2(255), -1)} {
		for _, bit := range []byte{0, 128} {
			b := number(y)
			b[31] |= bit
			got, err := curve.Decode(b)
			noPointOf(t, "y of p or more", got, err)
		}
	}
}

// TestDecodeNoughtX, P7.3: only y of 1 and of -1 have an x of 0, which has no odd one beside it.
func TestDecodeNoughtX(t *testing.T) {
	for _, y := range []*big.Int{one, plus(prime, -1)} {
		b := number(y)
		isPoint(t, "x of 0", decode(t, b), api.Point{Y: b})
		b[31] |= 128
		got, err := curve.Decode(b)
		noPointOf(t, "x of 0, odd", got, err)
	}
	// y of 0 has two.
	p, q := decode(t, noBytes), decode(t, [32]byte{31: 128})
	if p.X[0]&1 != 0 || q.X[0]&1 != 1 || neg(t, p) != q || p.Y != noBytes || q.Y != noBytes {
		t.Errorf("y of 0: %x, %x", p, q)
	}
}

// TestScalar, P7.4: bytes of all lengths.
func TestScalar(t *testing.T) {
	chance := rand.New(rand.NewSource(21))
	isNumber(t, "Scalar of nothing", scalar(t, nil), noBytes)
	isNumber(t, "Scalar of an empty list", scalar(t, []byte{}), noBytes)
	for length := range 65 {
		some := make([]byte, length)
		for _, b := range [][]byte{some, bytes.Repeat([]byte{255}, length), bytes.Repeat([]byte{1}, length), bytes.Repeat([]byte{128}, length)} {
			isNumber(t, "Scalar", scalar(t, b), oracleScalar(b))
		}
		for range 8 {
			chance.Read(some)
			isNumber(t, "Scalar", scalar(t, some), oracleScalar(some))
		}
	}
	for _, length := range []int{65, 66, 128, 1000} {
		for _, fill := range []byte{0, 1, 255} {
			got, err := curve.Scalar(bytes.Repeat([]byte{fill}, length))
			if err != error(api.ErrLong) || got != noBytes {
				t.Errorf("Scalar of %d bytes: %x, %v", length, got, err)
			}
		}
	}
}

// wide is a number's 64 bytes.
func wide(n *big.Int) []byte {
	low, high := new(big.Int), new(big.Int)
	high.DivMod(n, pow2(256), low)
	return append(bytesOf(low), bytesOf(high)...)
}

// TestScalarMultiples, P7.4: the order's multiples and what stands beside them.
func TestScalarMultiples(t *testing.T) {
	most := new(big.Int).Div(plus(pow2(512), -1), order)
	multiples := []*big.Int{one, two, big.NewInt(8), big.NewInt(15), big.NewInt(16), order, plus(order, -1), most}
	for _, k := range drawn(22, 20) {
		multiples = append(multiples, whole(k[:]))
	}
	for _, m := range multiples {
		n := product(m, order)
		for _, off := range []int64{-1, 0, 1, 2} {
			want := noBytes
			if off < 0 {
				want = number(plus(order, -1))
			} else {
				want[0] = byte(off)
			}
			isNumber(t, "Scalar", scalar(t, wide(plus(n, off))), want)
		}
	}
	isNumber(t, "Scalar of order - 1", scalar(t, bytesOf(plus(order, -1))), number(plus(order, -1)))
	for bit := range uint(512) {
		b := wide(pow2(bit))
		isNumber(t, "Scalar of a bit", scalar(t, b), oracleScalar(b))
	}
}

// TestMulAdd, P7.4: numbers at the order, below and above it.
func TestMulAdd(t *testing.T) {
	var all [][32]byte
	for _, n := range edges() {
		all = append(all, number(n))
	}
	for _, a := range all {
		for _, b := range all {
			for i := 0; i < len(all); i += 5 {
				c := all[i]
				if got := curve.MulAdd(a, b, c); got != oracleMulAdd(a, b, c) {
					t.Fatalf("MulAdd(%x, %x, %x): %x", a, b, c, got)
				}
			}
		}
	}
	chance := drawn(23, 900)
	for i := 0; i < len(chance); i += 3 {
		a, b, c := chance[i], chance[i+1], chance[i+2]
		got := curve.MulAdd(a, b, c)
		isNumber(t, "MulAdd", got, oracleMulAdd(a, b, c))
		isNumber(t, "MulAdd the other way", curve.MulAdd(b, a, c), got)
		isNumber(t, "once and nothing", curve.MulAdd([32]byte{1}, a, noBytes), oracleScalar(a[:]))
		isNumber(t, "no times", curve.MulAdd(noBytes, a, c), oracleScalar(c[:]))
		if !curve.Low(got) {
			t.Fatalf("MulAdd: %x isn't below the order", got)
		}
	}
}

// TestLow, P7.4.
func TestLow(t *testing.T) {
	all := edges()
	for _, k := range drawn(24, 300) {
		all = append(all, whole(k[:]))
		k[31] &= 31
		all = append(all, whole(k[:]))
	}
	// One more and one less at every byte of the order.
	for byteAt := range uint(32) {
		for _, step := range []*big.Int{pow2(8 * byteAt), new(big.Int).Neg(pow2(8 * byteAt))} {
			if n := new(big.Int).Add(order, step); n.Sign() >= 0 {
				all = append(all, n, plus(n, -1), plus(n, 1))
			}
		}
	}
	below := 0
	for _, n := range all {
		if n.Sign() < 0 {
			continue
		}
		want := n.Cmp(order) < 0
		if got := curve.Low(number(n)); got != want {
			t.Errorf("Low(%v): %v", n, got)
		}
		if want {
			below++
		}
	}
	if below < 100 || below > len(all)-100 {
		t.Errorf("%d of %d are below the order", below, len(all))
	}
	if !curve.Low(noBytes) || !curve.Low(number(plus(order, -1))) || curve.Low(number(order)) || curve.Low(number(plus(order, 1))) {
		t.Errorf("Low about the order")
	}
}

// TestGroup, P7.5: sums in any order and bracketing.
func TestGroup(t *testing.T) {
	all := append(drawnSpots(25, 4), oracleBase(), eighth(), oracleNought())
	for _, a := range all {
		for _, b := range all {
			p, q := a.point(), b.point()
			isPoint(t, "the other way", add(t, p, q), add(t, q, p))
			isPoint(t, "the negative of a sum", neg(t, add(t, p, q)), add(t, neg(t, p), neg(t, q)))
			for _, c := range all {
				r := c.point()
				isPoint(t, "bracketed otherwise", add(t, add(t, p, q), r), add(t, p, add(t, q, r)))
			}
		}
	}
}

// TestTimesSum, P7.5: (k + m) times p.
func TestTimesSum(t *testing.T) {
	chance := drawn(26, 40)
	for i, a := range append(kinds(27), drawnSpots(28, 5)...) {
		k, m := whole(chance[i%20][:]), whole(chance[20+i%20][:])
		k.SetBit(k, 255, 0)
		m.SetBit(m, 255, 0)
		p := a.point()
		both := times(t, number(new(big.Int).Add(k, m)), p)
		isPoint(t, "(k + m) p", both, add(t, times(t, number(k), p), times(t, number(m), p)))
	}
}

// TestTimesReduced, P7.5: for the base point only what is left behind a division by the order counts; for one with a small part it isn't so.
func TestTimesReduced(t *testing.T) {
	numbers := edges()
	for _, k := range drawn(29, 20) {
		numbers = append(numbers, whole(k[:]))
	}
	for _, n := range numbers {
		k := number(n)
		isPoint(t, "k modulo the order", times(t, scalar(t, k[:]), curve.Base()), times(t, k, curve.Base()))
	}
	p := eighth().point()
	if k := number(order); times(t, k, p) == times(t, scalar(t, k[:]), p) {
		t.Errorf("the order times a small point is nought")
	}
}

// TestMulAddPoints: numbers and points go together.
func TestMulAddPoints(t *testing.T) {
	chance := drawn(30, 30)
	for i := 0; i < len(chance); i += 3 {
		a, b, c := chance[i], chance[i+1], chance[i+2]
		left := times(t, curve.MulAdd(a, b, c), curve.Base())
		right := add(t, times(t, a, times(t, b, curve.Base())), times(t, c, curve.Base()))
		isPoint(t, "(a b + c) Base", left, right)
	}
}

// TestHandedIn, R3 and R4: what is handed in stays as it was, and the same call answers the same.
func TestHandedIn(t *testing.T) {
	p, q := curve.Base(), eighth().point()
	k := drawn(31, 1)[0]
	long := append(wide(product(order, order)), 7, 7)
	given := bytes.Clone(long)
	first := scalar(t, long[:64])
	isNumber(t, "Scalar once more", scalar(t, long[:64]), first)
	if !bytes.Equal(long, given) {
		t.Errorf("Scalar changed its bytes, or those behind them: %x", long)
	}
	for i := range long {
		long[i] = 0xee
	}
	isNumber(t, "Scalar behind a change", scalar(t, given[:64]), first)
	isPoint(t, "Add once more", add(t, p, q), add(t, p, q))
	isPoint(t, "Neg once more", neg(t, q), neg(t, q))
	isPoint(t, "Times once more", times(t, k, q), times(t, k, q))
	isNumber(t, "Encode once more", encode(t, q), encode(t, q))
	b := encode(t, neg(t, p))
	kept := b
	decode(t, b)
	if b != kept || p != curve.Base() || k != drawn(31, 1)[0] {
		t.Errorf("something that was handed in has changed")
	}
}
