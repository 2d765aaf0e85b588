package rules

import (
	"bytes"
	"go/ast"
	"go/printer"
	"strings"
	"testing"
)

// chapterCalls: each layer, and the calls that its chapter lists.
const chapterCalls = `
le
	func Put(out []byte, n uint64, width int) []byte
	func Sign(n uint64, width int) int64
	func New(b []byte) *Reader
	func (r *Reader) Take(width int) uint64
	func (r *Reader) Part(many int) []byte
	func (r *Reader) Left() int
	func (r *Reader) Fail() api.Errno
	func (r *Reader) End() api.Errno
crc
	func Of(b []byte) uint32
	func More(check uint32, b []byte) uint32
	func Mend(check uint32, by byte, behind int) uint32
	func Zeros(check uint32, many int) uint32
mask
	func Up(n int) Set
	func (s Set) Has(core int) bool
	func (s Set) With(core int) Set
	func (s Set) Without(core int) Set
	func (s Set) Len() int
	func (s Set) First() int
	func (s Set) Nth(k int) int
	func (s Set) All() []int
	func (s Set) Text() string
	func Parse(t string) (Set, api.Errno)
	func Remap(s, online Set, open bool) (Set, api.Errno)
pace
	func Right(p api.Pace, weight int) bool
	func Run(p api.Pace, weight, ticks int) api.Pace
	func Done(p api.Pace, weight int) int
	func Reweigh(p api.Pace, from, to int) api.Pace
	func Less(a, b api.Item) bool
moment
	func New(base int) Moment
	func (m Moment) Add(v, weight int) Moment
	func (m Moment) Take(v, weight int) Moment
	func (m Moment) Shift(base int) Moment
	func (m Moment) Join(o Moment) Moment
	func (m Moment) Weight() int
	func (m Moment) Mean() int
	func (m Moment) Gap(v int) int
shelf
	func New() *Shelf
	func (s *Shelf) Put(x api.Item) bool
	func (s *Shelf) Drop(x api.Item) bool
	func (s *Shelf) Has(x api.Item) bool
	func (s *Shelf) Len() int
	func (s *Shelf) Rank(x api.Item) int
	func (s *Shelf) At(rank int) (api.Item, bool)
	func (s *Shelf) All() iter.Seq2[int, api.Item]
	func (s *Shelf) Deep() int
queue
	func New() *Queue
	func (q *Queue) Join(m api.Member) api.Errno
	func (q *Queue) Leave(id int) (api.Member, api.Errno)
	func (q *Queue) Run(id, ticks int) api.Errno
	func (q *Queue) Weigh(id, weight int) api.Errno
	func (q *Queue) Get(id int) (api.Member, bool)
	func (q *Queue) All() []api.Member
	func (q *Queue) Base() int
	func (q *Queue) Mean() (int, bool)
band
	func Right(b api.Band) bool
	func Shut(b api.Band) bool
	func Left(b api.Band) int
	func Charge(b api.Band, ticks int) api.Band
	func Ends(period, now, n int) int
	func Pass(b api.Band, now, n int) api.Band
disk
	func New(sectors int) *Disk
	func (d *Disk) Len() int
	func (d *Disk) Read(i int) ([]byte, api.Errno)
	func (d *Disk) Write(i int, b []byte) api.Errno
	func (d *Disk) Flush() api.Errno
	func (d *Disk) Waits() []int
	func (d *Disk) Arm(calls int)
	func (d *Disk) Crash(keep []bool)
	func (d *Disk) Rot(i, bit int)
	func (d *Disk) Kept() [][]byte
parcel
	func Pack(l []api.Section) ([]byte, api.Errno)
	func Unpack(b []byte) ([]api.Section, api.Errno)
	func Find(l []api.Section, kind int) ([]byte, bool)
slots
	func Open(d *disk.Disk) (*Store, api.Errno)
	func (s *Store) Image() ([]byte, bool)
	func (s *Store) Age() int
	func (s *Store) Room() int
	func (s *Store) Commit(image []byte) api.Errno
	func (s *Store) Delete() api.Errno
kin
	func New() *Tree
	func (t *Tree) Add(id, parent int) api.Errno
	func (t *Tree) Drop(id int) api.Errno
	func (t *Tree) Move(id, parent int) api.Errno
	func (t *Tree) Has(id int) bool
	func (t *Tree) Parent(id int) int
	func (t *Tree) Kids(id int) []int
	func (t *Tree) Path(id int) []int
	func (t *Tree) Under(id int) []int
	func (t *Tree) Tall(id int) int
	func (t *Tree) Copy() *Tree
scene
	func Check(s api.Scene) api.Errno
	func Order(s api.Scene) api.Scene
	func Ids(s api.Scene) []int
	func Tall(s api.Scene) int
	func Rename(s api.Scene, by int) (api.Scene, api.Errno)
image
	func Encode(s api.Scene) ([]byte, api.Errno)
	func Decode(b []byte) (api.Scene, api.Errno)
	func Size(s api.Scene) int
load
	func Loads(seats []api.Seat, cores int) []int
	func Choose(cores uint64, loads []int) int
	func Balance(seats []api.Seat, online uint64) (id, to int, ok bool)
	func Settle(seats []api.Seat, online uint64) ([]api.Seat, int)
lane
	func New() *Lane
	func (l *Lane) Enter(path []api.Step, m api.Member) api.Errno
	func (l *Lane) Leave(id int) (api.Member, api.Errno)
	func (l *Lane) Run(id int) api.Errno
	func (l *Lane) Weigh(id, weight int) api.Errno
	func (l *Lane) Pick(shut []int) int
	func (l *Lane) Get(id int) (api.Member, bool)
	func (l *Lane) Way(id int) []int
	func (l *Lane) Tasks() []int
	func (l *Lane) Queue(group int) []api.Member
	func (l *Lane) Base(group int) int
	func (l *Lane) Forget(group int) api.Errno
board
	func New(cores int) (*Board, api.Errno)
	func (b *Board) Group(g api.GroupInfo) api.Errno
	func (b *Board) Drop(id int) api.Errno
	func (b *Board) Move(id, parent int) api.Errno
	func (b *Board) Spawn(id, group, weight int, cores uint64) api.Errno
	func (b *Board) Adopt(t api.TaskInfo) api.Errno
	func (b *Board) Exit(id int) api.Errno
	func (b *Board) Sleep(id int) api.Errno
	func (b *Board) Wake(id int) api.Errno
	func (b *Board) Weigh(id, weight int) api.Errno
	func (b *Board) Bind(id int, cores uint64) api.Errno
	func (b *Board) Mark(id int, is bool) api.Errno
	func (b *Board) Tick(core int) (int, api.Errno)
	func (b *Board) Pass(n int) api.Errno
	func (b *Board) Balance() (id, to int, ok bool)
	func (b *Board) Switch(core int, on bool) []int
	func (b *Board) Place(id int) api.Errno
	func (b *Board) Cores() int
	func (b *Board) Task(id int) (api.TaskInfo, bool)
	func (b *Board) One(id int) (api.GroupInfo, bool)
	func (b *Board) Tasks() []int
	func (b *Board) Under(id int) []int
	func (b *Board) Cold(id int) bool
	func (b *Board) Cur(core int) int
	func (b *Board) Online() uint64
	func (b *Board) Now() int
plug
	func Offline(b *board.Board, core int) ([]int, api.Errno)
	func Online(b *board.Board, core int) ([]int, api.Errno)
	func Lost(b *board.Board) []int
frost
	func Freeze(b *board.Board, id int) api.Errno
	func Thaw(b *board.Board, id int) api.Errno
	func State(b *board.Board, id int) (int, api.Errno)
	func Runs(b *board.Board, id int) []int
	func Drain(b *board.Board, id int) ([]int, api.Errno)
graft
	func Capture(b *board.Board, id int) (api.Scene, api.Errno)
	func Restore(b *board.Board, s api.Scene, parent int, open bool) api.Errno
	func Fits(b *board.Board, s api.Scene, parent int, open bool) api.Errno
vault
	func Open(d *disk.Disk) (*Vault, api.Errno)
	func (v *Vault) Save(b *board.Board, id int) api.Errno
	func (v *Vault) Peek() (api.Scene, api.Errno)
	func (v *Vault) Load(b *board.Board, parent int, open bool) api.Errno
	func (v *Vault) Delete() api.Errno
	func (v *Vault) List() (api.Info, bool)
script
	func New(cores, sectors int) (*Machine, api.Errno)
	func (m *Machine) Do(x api.Event) api.Outcome
	func (m *Machine) Board() *board.Board
	func Run(cores, sectors int, l []api.Event) ([]api.Outcome, api.Errno)
	func Trace(l []api.Event, out []api.Outcome) []int
share
	func Counts(trace []int, ids []int) []int
	func Ahead(counts, weights []int) int
	func Worst(trace, ids, weights []int) int
	func Fold(trace []int, pairs [][2]int) []int
`

// calls are a package's exported functions and methods, as the chapters write them.
func calls(t *testing.T, layer string) map[string]int {
	of := map[string]int{}
	for _, file := range parse(t, layer) {
		for _, d := range file.tree.Decls {
			f, is := d.(*ast.FuncDecl)
			if !is || !f.Name.IsExported() {
				continue
			}
			head := &ast.FuncDecl{Recv: f.Recv, Name: f.Name, Type: f.Type}
			var text bytes.Buffer
			if err := printer.Fprint(&text, file.set, head); err != nil {
				t.Fatal(err)
			}
			of[text.String()]++
		}
	}
	return of
}

func TestListedCallsAreThere(t *testing.T) {
	layer, has := "", map[string]int{}
	for _, line := range strings.Split(strings.Trim(chapterCalls, "\n"), "\n") {
		call, is := strings.CutPrefix(line, "\t")
		if !is {
			layer, has = line, calls(t, line)
			continue
		}
		if has[call] == 0 {
			t.Errorf("%s lacks: %s", layer, call)
		}
	}
}
