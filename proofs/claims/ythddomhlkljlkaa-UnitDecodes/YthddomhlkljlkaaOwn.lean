/- What the statements on memory share: mark, Spare, Kept. -/
import Derived.Test.YthddomhlkljlkaaCSeal
namespace Go.Proofs.Ythddomhlkljlkaa
open Go.RowKit

/-- The byte that a list has in a place. -/
def mrk (i k : Nat) : Nat := (17 * i + 5 * k + 3) % 256
theorem mrk_lt (i k : Nat) : mrk i k < 256 := Nat.mod_lt _ (by omega)
theorem conv_any (a : Option Addr) (n cap : Nat) (bs : Nat → Nat) (w : World) (hr : Row8 w a n cap bs) :
    (convert 27 9 (.slice a n cap)).run Try.prog w = .ok (.string (BA bs n)) w := by
  cases a with
  | none =>
    obtain ⟨rfl, rfl⟩ := hr.nil rfl
    rw [run_convert_bytes_string w 27 9 5 _ 0 0 Try.underlying27 Try.underlying5 Try.underlying9]
    rfl
  | some x =>
    obtain ⟨b, off, spot⟩ := x
    by_cases h0 : n = 0
    · subst h0
      rw [run_convert_bytes_string w 27 9 5 _ 0 cap Try.underlying27 Try.underlying5 Try.underlying9]
      rfl
    · obtain ⟨b', off', he, _, _⟩ := hr.plain (by omega)
      cases he
      exact conv_str b off n cap bs w hr

end Go.Proofs.Ythddomhlkljlkaa
