package ints

import (
	"bytes"
	"math"
	"math/big"
	"testing"

	"avocet/api"
)

// names are what the chapter calls each code, written out one by one, so that no rule of the program's stands behind them.
var names = map[int]string{
	69: "i32.eqz", 70: "i32.eq", 71: "i32.ne", 72: "i32.lt_s", 73: "i32.lt_u", 74: "i32.gt_s", 75: "i32.gt_u",
	76: "i32.le_s", 77: "i32.le_u", 78: "i32.ge_s", 79: "i32.ge_u",
	80: "i64.eqz", 81: "i64.eq", 82: "i64.ne", 83: "i64.lt_s", 84: "i64.lt_u", 85: "i64.gt_s", 86: "i64.gt_u",
	87: "i64.le_s", 88: "i64.le_u", 89: "i64.ge_s", 90: "i64.ge_u",
	103: "i32.clz", 104: "i32.ctz", 105: "i32.popcnt", 106: "i32.add", 107: "i32.sub", 108: "i32.mul",
	109: "i32.div_s", 110: "i32.div_u", 111: "i32.rem_s", 112: "i32.rem_u", 113: "i32.and", 114: "i32.or",
	115: "i32.xor", 116: "i32.shl", 117: "i32.shr_s", 118: "i32.shr_u", 119: "i32.rotl", 120: "i32.rotr",
	121: "i64.clz", 122: "i64.ctz", 123: "i64.popcnt", 124: "i64.add", 125: "i64.sub", 126: "i64.mul",
	127: "i64.div_s", 128: "i64.div_u", 129: "i64.rem_s", 130: "i64.rem_u", 131: "i64.and", 132: "i64.or",
	133: "i64.xor", 134: "i64.shl", 135: "i64.shr_s", 136: "i64.shr_u", 137: "i64.rotl", 138: "i64.rotr",
	167: "i64.wrap", 172: "i32.extend_s", 173: "i32.extend_u",
}

// ofOne are the operators of one, and whether each gives 127 or 126.
var ofOne = map[string]byte{
	"i32.eqz": 127, "i64.eqz": 127, "i32.clz": 127, "i64.clz": 126, "i32.ctz": 127, "i64.ctz": 126,
	"i32.popcnt": 127, "i64.popcnt": 126, "i64.wrap": 127, "i32.extend_s": 126, "i32.extend_u": 126,
}

// codes are all operators, all that stands around them, and the ends of what an int is.
func codes() []int {
	l := []int{math.MinInt, math.MinInt + 69, -1 << 32, -1<<32 + 106, 1<<32 + 106, 1<<63 - 1, 1 << 40}
	for op := -300; op <= 600; op++ {
		l = append(l, op)
	}
	return l
}

// edges are the numbers that the widths make, and both sides of them, small ones, and some of many digits.
func edges() []uint64 {
	l := []uint64{
		0x123456789abcdef0, 0xfedcba9876543210, 0xaaaaaaaaaaaaaaaa, 0x5555555555555555, 0x80000001, 0xdeadbeef00000000,
		1<<32 | 31, 1<<32 | 7, 1<<63 | 1<<31, 1<<64 - 7, 1<<32 - 7, 1<<32 - 2, 1<<64 - 1<<31, 1<<64 - 1<<32,
	}
	for _, k := range []int{0, 5, 6, 31, 32, 33, 63} {
		p := uint64(1) << k
		l = append(l, p-1, p, p+1, -p)
	}
	for v := range uint64(11) {
		l = append(l, v)
	}
	return l
}

// pow is 2 to the k.
func pow(k uint) *big.Int { return new(big.Int).Lsh(big.NewInt(1), k) }

// modulo is v's lowest digits, as a number that is not below 0.
func modulo(v *big.Int, digits uint) *big.Int { return new(big.Int).Mod(v, pow(digits)) }

// signedBig is the signed number of a value, as the chapter's Words tell it.
func signedBig(v *big.Int, digits uint) *big.Int {
	if v.Cmp(pow(digits-1)) >= 0 {
		return new(big.Int).Sub(v, pow(digits))
	}
	return v
}

// digitsOf is how many digits of two the operator's type has.
func digitsOf(name string) uint {
	if name[:3] == "i32" {
		return 32
	}
	return 64
}

// truth is 1 of true, 0 of false.
func truth(ok bool) *big.Int {
	if ok {
		return big.NewInt(1)
	}
	return new(big.Int)
}

// oneBig does an operator of one as P2.2 tells it, in numbers without an end.
func oneBig(name string, a uint64) uint64 {
	digits := digitsOf(name)
	v := modulo(new(big.Int).SetUint64(a), digits)
	switch name[4:] {
	case "eqz":
		return truth(v.Sign() == 0).Uint64()
	case "clz":
		n := uint64(0)
		for k := int(digits) - 1; k >= 0 && v.Bit(k) == 0; k-- {
			n++
		}
		return n
	case "ctz":
		n := uint64(0)
		for k := 0; k < int(digits) && v.Bit(k) == 0; k++ {
			n++
		}
		return n
	case "popcnt":
		n := uint64(0)
		for k := range int(digits) {
			n += uint64(v.Bit(k))
		}
		return n
	case "wrap":
		return modulo(v, 32).Uint64()
	case "extend_s":
		return modulo(signedBig(v, 32), 64).Uint64()
	case "extend_u":
		return v.Uint64()
	}
	panic(name)
}

// twoBig does an operator of two as P2.2 tells it, in numbers without an end.
func twoBig(name string, a, b uint64) (uint64, api.Trap) {
	digits, what := digitsOf(name), name[4:]
	x, y := modulo(new(big.Int).SetUint64(a), digits), modulo(new(big.Int).SetUint64(b), digits)
	turn := uint(new(big.Int).Mod(y, big.NewInt(int64(digits))).Uint64())
	if n := len(what); n > 2 && what[n-2:] == "_s" {
		x, y = signedBig(x, digits), signedBig(y, digits)
	}
	v := new(big.Int)
	switch what {
	case "eq":
		v = truth(x.Cmp(y) == 0)
	case "ne":
		v = truth(x.Cmp(y) != 0)
	case "lt_s", "lt_u":
		v = truth(x.Cmp(y) < 0)
	case "gt_s", "gt_u":
		v = truth(x.Cmp(y) > 0)
	case "le_s", "le_u":
		v = truth(x.Cmp(y) <= 0)
	case "ge_s", "ge_u":
		v = truth(x.Cmp(y) >= 0)
	case "add":
		v.Add(x, y)
	case "sub":
		v.Sub(x, y)
	case "mul":
		v.Mul(x, y)
	case "div_s", "div_u", "rem_s", "rem_u":
		return divideBig(what, x, y, digits)
	case "and":
		v.And(x, y)
	case "or":
		v.Or(x, y)
	case "xor":
		v.Xor(x, y)
	case "shl":
		v.Lsh(x, turn)
	case "shr_s", "shr_u":
		v.Rsh(x, turn)
	case "rotl":
		v = turned(x, digits, turn)
	case "rotr":
		v = turned(x, digits, digits-turn)
	default:
		panic(name)
	}
	return modulo(v, digits).Uint64(), api.None
}

// divideBig is quotient or rest, towards 0, or why there is none.
func divideBig(what string, x, y *big.Int, digits uint) (uint64, api.Trap) {
	if y.Sign() == 0 {
		return 0, api.DivZero
	}
	quotient, rest := new(big.Int).QuoRem(x, y, new(big.Int))
	if what[:3] == "rem" {
		return modulo(rest, digits).Uint64(), api.None
	}
	if what == "div_s" && quotient.Cmp(pow(digits-1)) == 0 {
		return 0, api.Overflow
	}
	return modulo(quotient, digits).Uint64(), api.None
}

// turned is v with its digits turned upwards, one by one.
func turned(v *big.Int, digits, by uint) *big.Int {
	out := new(big.Int)
	for k := range digits {
		out.SetBit(out, int((k+by)%digits), v.Bit(int(k)))
	}
	return out
}

// compareOne holds One against oneBig.
func compareOne(t *testing.T, op int, a uint64) {
	t.Helper()
	v, ok := One(op, a)
	if _, one := ofOne[names[op]]; !one {
		if v != 0 || ok {
			t.Errorf("One(%d, %#x) = %#x, %v of no operator of one", op, a, v, ok)
		}
		return
	}
	if want := oneBig(names[op], a); v != want || !ok {
		t.Errorf("%s of %#x = %#x, %v; want %#x", names[op], a, v, ok, want)
	}
}

// compareTwo holds Two against twoBig.
func compareTwo(t *testing.T, op int, a, b uint64) {
	t.Helper()
	v, trap, ok := Two(op, a, b)
	_, one := ofOne[names[op]]
	if names[op] == "" || one {
		if v != 0 || trap != api.None || ok {
			t.Errorf("Two(%d, %#x, %#x) = %#x, %d, %v of no operator of two", op, a, b, v, trap, ok)
		}
		return
	}
	if want, why := twoBig(names[op], a, b); v != want || trap != why || !ok {
		t.Errorf("%s of %#x, %#x = %#x, %d, %v; want %#x, %d", names[op], a, b, v, trap, ok, want, why)
	}
}

// shapeOf is what P2.1 says of a name.
func shapeOf(name string) ([]byte, byte) {
	takes := []byte{126}
	if name[:3] == "i32" {
		takes[0] = 127
	}
	if gives, one := ofOne[name]; one {
		return takes, gives
	}
	takes = append(takes, takes[0])
	switch name[4:6] {
	case "eq", "ne", "lt", "gt", "le", "ge":
		return takes, 127
	}
	return takes, takes[0]
}

// P2.1
func TestShape(t *testing.T) {
	operators := 0
	for _, op := range codes() {
		takes, gives, ok := Shape(op)
		if names[op] == "" {
			if len(takes) != 0 || gives != 0 || ok {
				t.Errorf("Shape(%d) = %v, %d, %v of no operator", op, takes, gives, ok)
			}
			continue
		}
		operators++
		if want, to := shapeOf(names[op]); !bytes.Equal(takes, want) || gives != to || !ok {
			t.Errorf("Shape(%d), %s = %v, %d, %v; want %v, %d", op, names[op], takes, gives, ok, want, to)
		}
	}
	if operators != 61 {
		t.Errorf("%d operators were asked, want 61", operators)
	}
}

// P2.1, the first and the last of each row, and what stands beside them.
func TestShapeOfRows(t *testing.T) {
	for _, x := range []struct {
		op    int
		takes []byte
		gives byte
	}{
		{68, nil, 0}, {69, []byte{127}, 127}, {70, []byte{127, 127}, 127}, {79, []byte{127, 127}, 127},
		{80, []byte{126}, 127}, {81, []byte{126, 126}, 127}, {90, []byte{126, 126}, 127}, {91, nil, 0},
		{102, nil, 0}, {103, []byte{127}, 127}, {105, []byte{127}, 127}, {106, []byte{127, 127}, 127},
		{120, []byte{127, 127}, 127}, {121, []byte{126}, 126}, {123, []byte{126}, 126},
		{124, []byte{126, 126}, 126}, {138, []byte{126, 126}, 126}, {139, nil, 0},
		{166, nil, 0}, {167, []byte{126}, 127}, {168, nil, 0},
		{171, nil, 0}, {172, []byte{127}, 126}, {173, []byte{127}, 126}, {174, nil, 0},
		{0, nil, 0}, {-1, nil, 0}, {-69, nil, 0}, {69 + 256, nil, 0}, {math.MinInt, nil, 0}, {math.MaxInt, nil, 0},
	} {
		takes, gives, ok := Shape(x.op)
		if !bytes.Equal(takes, x.takes) || gives != x.gives || ok != (x.takes != nil) {
			t.Errorf("Shape(%d) = %v, %d, %v; want %v, %d", x.op, takes, gives, ok, x.takes, x.gives)
		}
	}
}

// P2.1 with R3: what was answered may be changed, and is not seen in what is answered next.
func TestShapeIsNewMemory(t *testing.T) {
	for _, op := range []int{69, 70, 90, 103, 138, 167, 172} {
		takes, _, _ := Shape(op)
		want := bytes.Clone(takes)
		for k := range takes {
			takes[k] = 0
		}
		if again, _, _ := Shape(op); !bytes.Equal(again, want) {
			t.Errorf("Shape(%d) = %v behind a change of the answer before, want %v", op, again, want)
		}
	}
}

// P2.2
func TestOneExamples(t *testing.T) {
	for _, x := range []struct {
		op   int
		a, v uint64
	}{
		{69, 0, 1}, {69, 1, 0}, {69, 1 << 31, 0}, {69, 1 << 32, 1}, {69, 1<<64 - 1<<32, 1}, {80, 0, 1}, {80, 1 << 32, 0}, {80, 1 << 63, 0},
		{103, 1, 31}, {103, 0, 32}, {103, 1<<32 - 1, 0}, {103, 1 << 31, 0}, {103, 1 << 32, 32}, {121, 0, 64}, {121, 1, 63}, {121, 1 << 63, 0}, {121, 1 << 32, 31},
		{104, 0, 32}, {104, 1, 0}, {104, 1 << 31, 31}, {104, 1 << 32, 32}, {122, 0, 64}, {122, 1 << 32, 32}, {122, 1 << 63, 63},
		{105, 0, 0}, {105, 1<<64 - 1, 32}, {105, 1<<33 + 1<<31 + 1, 2}, {123, 0, 0}, {123, 1<<64 - 1, 64}, {123, 1<<33 + 1<<31 + 1, 3},
		{167, 1<<64 - 1, 1<<32 - 1}, {167, 1 << 32, 0}, {167, 1<<32 + 5, 5},
		{172, 1<<32 - 1, 1<<64 - 1}, {172, 1 << 31, 1<<64 - 1<<31}, {172, 1<<31 - 1, 1<<31 - 1}, {172, 1<<63 + 5, 5},
		{173, 1<<32 - 1, 1<<32 - 1}, {173, 1 << 31, 1 << 31}, {173, 1<<63 + 5, 5}, {173, 1 << 32, 0},
	} {
		if v, ok := One(x.op, x.a); v != x.v || !ok {
			t.Errorf("One(%d, %#x) = %#x, %v; want %#x", x.op, x.a, v, ok, x.v)
		}
	}
}

// P2.2: quotients and rests, of both signs, and where there is none.
func TestTwoDivides(t *testing.T) {
	minus := func(n uint64) uint64 { return 1<<32 - n }
	for _, x := range []struct {
		op      int
		a, b, v uint64
		trap    api.Trap
	}{
		{109, minus(7), 2, minus(3), 0}, {109, 7, minus(2), minus(3), 0}, {109, minus(7), minus(2), 3, 0}, {109, 7, 2, 3, 0},
		{111, minus(7), 2, minus(1), 0}, {111, 7, minus(2), 1, 0}, {111, minus(7), minus(2), minus(1), 0}, {111, 7, 2, 1, 0},
		{110, minus(7), 2, 1<<31 - 4, 0}, {112, minus(7), 2, 1, 0}, {110, 7, minus(2), 0, 0}, {112, 7, minus(2), 7, 0},
		{109, 7, 0, 0, api.DivZero}, {110, 7, 0, 0, api.DivZero}, {111, 7, 0, 0, api.DivZero}, {112, 7, 0, 0, api.DivZero},
		{109, 0, 0, 0, api.DivZero}, {109, 1 << 31, 0, 0, api.DivZero}, {109, 1 << 31, 1 << 32, 0, api.DivZero}, {112, 1, 1 << 63, 0, api.DivZero},
		{109, 1 << 31, minus(1), 0, api.Overflow}, {109, 1<<63 + 1<<31, 1<<64 - 1, 0, api.Overflow}, {109, 1 << 31, 1, 1 << 31, 0},
		{109, 1<<31 + 1, minus(1), 1<<31 - 1, 0}, {111, 1 << 31, minus(1), 0, 0}, {110, 1 << 31, minus(1), 0, 0}, {112, 1 << 31, minus(1), 1 << 31, 0},
		{127, 1 << 63, 1<<64 - 1, 0, api.Overflow}, {127, 1 << 63, 1<<32 - 1, 1<<64 - 1<<31, 0}, {127, 1 << 31, 1<<64 - 1, 1<<64 - 1<<31, 0},
		{127, 1<<64 - 7, 2, 1<<64 - 3, 0}, {127, 7, 1<<64 - 2, 1<<64 - 3, 0}, {127, 1<<64 - 7, 1<<64 - 2, 3, 0}, {127, 1<<63 + 1, 1<<64 - 1, 1<<63 - 1, 0},
		{129, 1<<64 - 7, 2, 1<<64 - 1, 0}, {129, 7, 1<<64 - 2, 1, 0}, {129, 1<<64 - 7, 1<<64 - 2, 1<<64 - 1, 0}, {129, 1 << 63, 1<<64 - 1, 0, 0},
		{128, 1 << 63, 1<<64 - 1, 0, 0}, {130, 1 << 63, 1<<64 - 1, 1 << 63, 0}, {128, 7, 1 << 32, 0, 0}, {130, 7, 1 << 32, 7, 0},
		{127, 7, 0, 0, api.DivZero}, {128, 7, 0, 0, api.DivZero}, {129, 7, 0, 0, api.DivZero}, {130, 7, 0, 0, api.DivZero}, {127, 1 << 63, 0, 0, api.DivZero},
	} {
		if v, trap, ok := Two(x.op, x.a, x.b); v != x.v || trap != x.trap || !ok {
			t.Errorf("Two(%d, %#x, %#x) = %#x, %d, %v; want %#x, %d", x.op, x.a, x.b, v, trap, ok, x.v, x.trap)
		}
	}
}

// P2.2: shifts and turns by 0, by the width, and by more than it.
func TestTwoTurns(t *testing.T) {
	const i32, i64 = 0x80000013, 0x8000000000000013
	for _, x := range []struct {
		op      int
		a, b, v uint64
	}{
		{116, i32, 0, i32}, {116, i32, 32, i32}, {116, i32, 33, 0x26}, {116, i32, 1<<32 + 1, 0x26}, {116, i32, 31, 1 << 31}, {116, i32, 1<<32 - 1, 1 << 31},
		{117, i32, 0, i32}, {117, i32, 32, i32}, {117, i32, 33, 0xc0000009}, {117, i32, 31, 1<<32 - 1}, {117, 1<<32 + 2, 1, 1},
		{118, i32, 0, i32}, {118, i32, 32, i32}, {118, i32, 33, 0x40000009}, {118, i32, 31, 1}, {118, 1<<32 + 2, 1, 1},
		{119, i32, 0, i32}, {119, i32, 32, i32}, {119, i32, 33, 0x27}, {119, i32, 31, 0xc0000009}, {119, 1<<63 + 1, 1, 2},
		{120, i32, 0, i32}, {120, i32, 32, i32}, {120, i32, 33, 0xc0000009}, {120, i32, 31, 0x27}, {120, 1<<32 + 2, 1, 1},
		{134, i64, 0, i64}, {134, i64, 64, i64}, {134, i64, 65, 0x26}, {134, i64, 32, 0x1300000000}, {134, i64, 1<<64 - 1, 1 << 63},
		{135, i64, 0, i64}, {135, i64, 64, i64}, {135, i64, 65, 0xc000000000000009}, {135, i64, 63, 1<<64 - 1}, {135, 1 << 31, 31, 1},
		{136, i64, 0, i64}, {136, i64, 64, i64}, {136, i64, 65, 0x4000000000000009}, {136, i64, 63, 1}, {136, i64, 1 << 32, i64},
		{137, i64, 0, i64}, {137, i64, 64, i64}, {137, i64, 65, 0x27}, {137, i64, 63, 0xc000000000000009}, {137, i64, 32, 0x1380000000},
		{138, i64, 0, i64}, {138, i64, 64, i64}, {138, i64, 65, 0xc000000000000009}, {138, i64, 63, 0x27}, {138, i64, 32, 0x1380000000},
	} {
		if v, trap, ok := Two(x.op, x.a, x.b); v != x.v || trap != api.None || !ok {
			t.Errorf("Two(%d, %#x, %#x) = %#x, %d, %v; want %#x", x.op, x.a, x.b, v, trap, ok, x.v)
		}
	}
	for op := 116; op <= 138; op++ {
		if op > 120 && op < 134 {
			continue
		}
		for by := range uint64(200) {
			compareTwo(t, op, 0x8765432187654321, by)
			compareTwo(t, op, 0x0123456701234567, -by)
		}
	}
}

// P2.2, P1: every code, be it an operator or not, of every edge and of every two of them.
func TestEveryCodeOfEveryEdge(t *testing.T) {
	l := edges()
	for _, op := range codes() {
		for _, a := range l {
			compareOne(t, op, a)
			for _, b := range l {
				compareTwo(t, op, a, b)
			}
		}
	}
}

// P2.2: of what an I32 operator is given, the highest 32 digits are nothing to it.
func TestHighDigitsOfI32(t *testing.T) {
	for op, name := range names {
		if digitsOf(name) == 64 {
			continue
		}
		for _, a := range edges() {
			for _, b := range edges() {
				v, why, ok := Two(op, a, b)
				w, also, too := Two(op, a%(1<<32), b|0xffffffff00000000)
				if v != w || why != also || ok != too {
					t.Errorf("%s of %#x, %#x hangs on the highest digits: %#x, %d; %#x, %d", name, a, b, v, why, w, also)
				}
			}
			v, _ := One(op, a)
			if w, _ := One(op, a^0xffffffff00000000); v != w {
				t.Errorf("%s of %#x hangs on the highest digits: %#x, %#x", name, a, v, w)
			}
		}
	}
}

// P2.3
func TestFits(t *testing.T) {
	for _, v := range edges() {
		for k := range 256 {
			want := k == 126 || k == 127 && v < 1<<32
			if got := Fits(byte(k), v); got != want {
				t.Errorf("Fits(%d, %#x) = %v", k, v, got)
			}
		}
	}
	if !Fits(api.I32, 1<<32-1) || Fits(api.I32, 1<<32) || !Fits(api.I64, 1<<64-1) || Fits(0, 0) || Fits(125, 0) || Fits(128, 0) {
		t.Error("Fits at the ends of what a value is")
	}
}

// P2.3
func TestSigned(t *testing.T) {
	for _, x := range []struct {
		t byte
		v uint64
		n int64
	}{
		{api.I32, 0, 0}, {api.I32, 1<<31 - 1, 1<<31 - 1}, {api.I32, 1 << 31, -1 << 31}, {api.I32, 1<<32 - 1, -1}, {api.I32, 1 << 32, 0}, {api.I32, 1<<63 + 5, 5}, {api.I32, 1<<64 - 1, -1},
		{api.I64, 0, 0}, {api.I64, 1 << 31, 1 << 31}, {api.I64, 1<<32 - 1, 1<<32 - 1}, {api.I64, 1<<63 - 1, math.MaxInt64}, {api.I64, 1 << 63, math.MinInt64}, {api.I64, 1<<64 - 1, -1},
		{0, 1 << 31, 1 << 31}, {0, 1<<64 - 2, -2}, {125, 1<<32 - 1, 1<<32 - 1}, {255, 1 << 63, math.MinInt64},
	} {
		if n := Signed(x.t, x.v); n != x.n {
			t.Errorf("Signed(%d, %#x) = %d, want %d", x.t, x.v, n, x.n)
		}
	}
	everyType(func(k byte, digits uint, v uint64) {
		want := signedBig(modulo(new(big.Int).SetUint64(v), digits), digits)
		if n := Signed(k, v); want.Cmp(big.NewInt(n)) != 0 {
			t.Errorf("Signed(%d, %#x) = %d, want %v", k, v, n, want)
		}
	})
}

// P2.3
func TestValue(t *testing.T) {
	for _, x := range []struct {
		t byte
		n int64
		v uint64
	}{
		{api.I32, 0, 0}, {api.I32, -1, 1<<32 - 1}, {api.I32, -1 << 31, 1 << 31}, {api.I32, 1 << 31, 1 << 31}, {api.I32, 1 << 32, 0}, {api.I32, math.MinInt64, 0}, {api.I32, math.MaxInt64, 1<<32 - 1},
		{api.I64, 0, 0}, {api.I64, -1, 1<<64 - 1}, {api.I64, 1 << 32, 1 << 32}, {api.I64, math.MinInt64, 1 << 63}, {api.I64, math.MaxInt64, 1<<63 - 1},
		{0, -2, 1<<64 - 2}, {125, 1 << 32, 1 << 32}, {255, math.MinInt64, 1 << 63},
	} {
		if v := Value(x.t, x.n); v != x.v {
			t.Errorf("Value(%d, %d) = %#x, want %#x", x.t, x.n, v, x.v)
		}
	}
	everyType(func(k byte, digits uint, v uint64) {
		want := modulo(big.NewInt(int64(v)), digits)
		if got := Value(k, int64(v)); want.Uint64() != got {
			t.Errorf("Value(%d, %d) = %#x, want %#x", k, int64(v), got, want)
		}
	})
}

// everyType calls f with every byte that may be a type, its digits, and every edge.
func everyType(f func(k byte, digits uint, v uint64)) {
	for k := range 256 {
		digits := uint(64)
		if k == 127 {
			digits = 32
		}
		for _, v := range edges() {
			f(byte(k), digits, v)
		}
	}
}

// P2.3, P2.4: a value's signed number has that value, and the other way round.
func TestSignedAndValue(t *testing.T) {
	everyType(func(k byte, _ uint, v uint64) {
		if Fits(k, v) && Value(k, Signed(k, v)) != v {
			t.Errorf("Value(%d, Signed(%d, %#x)) = %#x", k, k, v, Value(k, Signed(k, v)))
		}
		if n := Signed(k, v); Signed(k, Value(k, n)) != n {
			t.Errorf("Signed(%d, Value(%d, %d)) = %d", k, k, n, Signed(k, Value(k, n)))
		}
		if w := Value(k, int64(v)); (k == api.I32 || k == api.I64) && !Fits(k, w) {
			t.Errorf("Value(%d, %d) = %#x is none", k, int64(v), w)
		}
	})
}

// P2.4: what is told is a value of the type that Shape tells, and just one of One and Two tells it.
func TestGivenIsAValue(t *testing.T) {
	for _, op := range codes() {
		takes, gives, is := Shape(op)
		for _, a := range edges() {
			v, ok := One(op, a)
			if ok != (len(takes) == 1) || ok && !Fits(gives, v) {
				t.Errorf("One(%d, %#x) = %#x, %v beside Shape's %v, %d", op, a, v, ok, takes, gives)
			}
			for _, b := range edges() {
				w, trap, too := Two(op, a, b)
				if too != (len(takes) == 2) || too && !Fits(gives, w) || trap != api.None && w != 0 {
					t.Errorf("Two(%d, %#x, %#x) = %#x, %d, %v beside Shape's %v, %d", op, a, b, w, trap, too, takes, gives)
				}
				if is != (ok || too) {
					t.Errorf("Shape(%d) tells %v, One %v, Two %v", op, is, ok, too)
				}
			}
		}
	}
}

// P2.4: quotient times b, and the rest, are a; the rest is nearer to 0 than b, and of a's sign.
func TestQuotientAndRest(t *testing.T) {
	for _, x := range []struct {
		div, rem, mul, add int
		t                  byte
		signed             bool
	}{
		{109, 111, 108, 106, api.I32, true}, {110, 112, 108, 106, api.I32, false},
		{127, 129, 126, 124, api.I64, true}, {128, 130, 126, 124, api.I64, false},
	} {
		for _, a := range edges() {
			for _, b := range edges() {
				q, why, _ := Two(x.div, a, b)
				r, also, _ := Two(x.rem, a, b)
				if why == api.Overflow && also == api.None && r == 0 || why == api.DivZero && also == why {
					continue
				}
				product, _, _ := Two(x.mul, q, b)
				sum, _, _ := Two(x.add, product, r)
				if why != api.None || also != api.None || sum != Value(x.t, int64(a)) {
					t.Errorf("%s of %#x, %#x: %#x, %d, rest %#x, %d", names[x.div], a, b, q, why, r, also)
				}
				if !nearer(x.t, x.signed, a, b, r) {
					t.Errorf("%s of %#x, %#x leaves %#x", names[x.rem], a, b, r)
				}
			}
		}
	}
}

// nearer: is r nearer to 0 than b, and 0 or of a's sign?
func nearer(t byte, signed bool, a, b, r uint64) bool {
	if !signed {
		return r < Value(t, int64(b))
	}
	n, by, left := Signed(t, a), big.NewInt(Signed(t, b)), Signed(t, r)
	return big.NewInt(left).CmpAbs(by) < 0 && (left == 0 || n < 0 == (left < 0))
}

// P1 and all of chapter 2: any code of any numbers.
func FuzzOperators(f *testing.F) {
	f.Add(109, uint64(1<<31), uint64(1<<32-1), byte(api.I32))
	f.Add(127, uint64(1<<63), uint64(1<<64-1), byte(api.I64))
	f.Add(167, uint64(1<<32+5), uint64(0), byte(0))
	f.Add(math.MinInt, uint64(0), uint64(0), byte(255))
	f.Fuzz(func(t *testing.T, op int, a, b uint64, k byte) {
		for _, code := range []int{op, 69 + int(uint(op)%105)} {
			compareOne(t, code, a)
			compareTwo(t, code, a, b)
			takes, gives, ok := Shape(code)
			if names[code] == "" {
				if len(takes) != 0 || gives != 0 || ok {
					t.Errorf("Shape(%d) = %v, %d, %v", code, takes, gives, ok)
				}
			} else if want, to := shapeOf(names[code]); !bytes.Equal(takes, want) || gives != to || !ok {
				t.Errorf("Shape(%d) = %v, %d, %v", code, takes, gives, ok)
			}
		}
		if Fits(k, a) && Value(k, Signed(k, a)) != a {
			t.Errorf("Value(%d, Signed(%d, %#x)) = %#x", k, k, a, Value(k, Signed(k, a)))
		}
	})
}
