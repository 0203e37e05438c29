/-
  When entries are sound, by the program and by the reference: fields.Within, SoundPlace, entry.Sound; in, Entry.
-/
import Derived.Test.YtdifnipjmnbojaaWalksV3
import Derived.Test.YtdifnipjmnbojaaEnt
import Derived.Test.YtdifnipjmnbojaaArgI
namespace Go.Proofs.Ytdifnipjmnbojaa
open Go.RowKit

def win2 (n l m : Int) : Bool := decide (l ≤ n) && decide (n ≤ m)

/-- An entry's value: its bytes lie at x. -/
def eval8 (a b c d : Int) (k : ByteArray) (f s : Int) (x : Option Addr) (l cap : Nat) : Value := .agg #[.int .i64 a, .int .i64 b, .int .i64 c, .int .i64 d, .string k, .int .i64 f, .int .u32 s, .slice x l cap]

def sndRaw (a b c d : Int) (k : ByteArray) (f : Int) (l : Nat) : Bool := win a 1099511627776 && win b 3 && win c 1099511627776 && win d 5 && decide (k.size ≤ 16) && win f 256 && decide (l ≤ 256)



end Go.Proofs.Ytdifnipjmnbojaa
