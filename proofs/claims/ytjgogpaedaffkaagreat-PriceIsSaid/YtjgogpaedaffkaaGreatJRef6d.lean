/- What the document's answers for layer 6 (poundageref06) come to: text, window. -/
import Derived.Test.YtjgogpaedaffkaaGreatJRef6b
import Derived.StillTail
import Derived.Lib.QuietBelow
import Derived.BigQuiet
import Derived.Laws.IdiomStrings
namespace Go.Proofs.YtjgogpaedaffkaaGreat.P
end Go.Proofs.YtjgogpaedaffkaaGreat.P
namespace Go.Proofs.YtjgogpaedaffkaaGreat.Mm
end Go.Proofs.YtjgogpaedaffkaaGreat.Mm
namespace Go.Proofs.YtjgogpaedaffkaaGreat.Tl
end Go.Proofs.YtjgogpaedaffkaaGreat.Tl
namespace Go.Proofs.YtjgogpaedaffkaaGreat.R6
open Go.RowKit Go.Sort P Mm
def byteOf (x : Int) : UInt8 := UInt8.ofNat x.toNat
/-- A number's eight bytes, the least first. -/
def b8 (u : Int) : List UInt8 := [byteOf (u % 256), byteOf (u / 256 % 256), byteOf (u / 65536 % 256), byteOf (u / 16777216 % 256), byteOf (u / 4294967296 % 256), byteOf (u / 1099511627776 % 256), byteOf (u / 281474976710656 % 256), byteOf (u / 72057594037927936 % 256)]
def c8 (u : Int) : Array Value := #[.int .u8 (u % 256), .int .u8 (u / 256 % 256), .int .u8 (u / 65536 % 256), .int .u8 (u / 16777216 % 256), .int .u8 (u / 4294967296 % 256), .int .u8 (u / 1099511627776 % 256), .int .u8 (u / 281474976710656 % 256), .int .u8 (u / 72057594037927936 % 256)]
def t8 (n : Int) : ByteArray := ⟨(b8 (IntKind.u64.wrap n)).toArray⟩
end Go.Proofs.YtjgogpaedaffkaaGreat.R6
/- What the document's answers for layer 6 (poundageref06) come to: window. -/
namespace Go.Proofs.YtjgogpaedaffkaaGreat.R6
open Go.RowKit Go.Sort P Mm Tl
def yes : ByteArray := ⟨#[121, 101, 115]⟩
def no : ByteArray := ⟨#[110, 111]⟩
def rW (w : Win) : List ByteArray := [if w.has then yes else no, t8 w.a.y, t8 w.a.m, t8 w.a.d, t8 w.b.y, t8 w.b.m, t8 w.b.d]
end Go.Proofs.YtjgogpaedaffkaaGreat.R6
