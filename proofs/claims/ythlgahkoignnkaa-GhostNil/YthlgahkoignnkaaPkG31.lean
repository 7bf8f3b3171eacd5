/- Part 32 of the texts on which the proof rests: contracts of Go functions. -/
import Derived.Test.YthlgahkoignnkaaPkG28
import Derived.Test.YthlgahkoignnkaaPkG29
import Derived.Test.YthlgahkoignnkaaPkG30
namespace Go.Proofs.Ythlgahkoignnkaa
open Go.RowKit Go.Maps Go.Sort
theorem rout (g p : Nat) (x : Ex) (fk fc fs : Int) (fss fnn : Nat) (fon : Bool) (fcd : Int) (fn : Nat) (fb : Nat → Nat) (a : Option Addr) (cap : Nat) (dev : Bool) (ses : Nat) (w : World) (h : ExW w g p x) (hr : Row8 w a fn cap fb) (hn : fn ≤ 140737488351232) :
    Calls Try.prog 37 #[.pointer (some ⟨g, p, none⟩), .agg #[.int .i64 fk, .int .i64 fc, .int .i64 fs, .int .u32 (fss : Nat), .int .u32 (fnn : Nat), .bool fon, .int .i64 fcd, .slice a fn cap], .bool dev, .int .u32 (ses : Nat)] w fun r w' => r = .returned (.int .i64 (x.orl ⟨fk, fc, fs, fss, fnn, fon, fcd, fn, fb⟩ dev ses)) ∧ Hid (Tn w w' g p (p + 11) ∧ ExW w' g p (x.shw ⟨fk, fc, fs, fss, fnn, fon, fcd, fn, fb⟩ dev ses)) := by
  cases fon with
  | false => exact rout_off g p x fk fc fs fss fnn fcd fn fb a cap dev ses w h hr hn
  | true =>
    cases dev with
    | false => exact rout_h g p x fk fc fs fss fnn fcd fn fb a cap ses w h hr hn
    | true => exact rout_d g p x fk fc fs fss fnn fcd fn fb a cap ses w h hr hn
end Go.Proofs.Ythlgahkoignnkaa
