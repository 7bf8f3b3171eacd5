/- Part 15 of the texts on which the proof rests: contracts of Go functions. -/
import Derived.Test.YthlgahkoignnkaaPkG01
import Derived.Test.YthlgahkoignnkaaPkG13
namespace Go.Proofs.Ythlgahkoignnkaa
open Go.RowKit Go.Maps
theorem OpRow.facts {w : World} {a : Option Addr} {len : Nat} (h : OpRow w a len) : ∃ F : Nat → Fa, FRow w a len F ∧ ∀ i, i < len → (F i).Ok := by
  by_cases h0 : 0 < len
  · obtain ⟨b, off, rfl, hb, hh⟩ := h.2 h0
    have key : ∀ i, ∃ f : Fa, i < len → f.Ok ∧ ∃ da dc, w.cell? ⟨b, off + i * 8, none⟩ = some (.int .i64 f.k) ∧ w.cell? ⟨b, off + i * 8 + 1, none⟩ = some (.int .i64 f.c) ∧ w.cell? ⟨b, off + i * 8 + 2, none⟩ = some (.int .i64 f.s) ∧ w.cell? ⟨b, off + i * 8 + 3, none⟩ = some (.int .u32 (f.ss : Nat)) ∧ w.cell? ⟨b, off + i * 8 + 4, none⟩ = some (.int .u32 (f.nn : Nat)) ∧ w.cell? ⟨b, off + i * 8 + 5, none⟩ = some (.bool f.on) ∧ w.cell? ⟨b, off + i * 8 + 6, none⟩ = some (.int .i64 f.cd) ∧ w.cell? ⟨b, off + i * 8 + 7, none⟩ = some (.slice da f.n dc) ∧ Row8 w da f.n dc f.b := fun i => by
      by_cases hi : i < len
      · obtain ⟨fk, fc, fs, ss, nn, on, cd, x, l, c, bs, c0, c1, c2, c3, c4, c5, c6, c7, R, hl, wc, ws, hss, hnn, _⟩ := hh i hi
        exact ⟨⟨fk, fc, fs, ss, nn, on, cd, l, bs⟩, fun _ => ⟨⟨wc, ws, hss, hnn, hl⟩, x, c, c0, c1, c2, c3, c4, c5, c6, c7, R⟩⟩
      · exact ⟨⟨0, 0, 0, 0, 0, false, 0, 0, fun _ => 0⟩, fun q => absurd q hi⟩
    obtain ⟨F, hF⟩ := Classical.axiomOfChoice key
    refine ⟨F, fun i hi => ?_, fun i hi => (hF i hi).1⟩
    obtain ⟨_, da, dc, k⟩ := hF i hi
    exact ⟨b, off, da, dc, rfl, k⟩
  · exact ⟨fun _ => ⟨0, 0, 0, 0, 0, false, 0, 0, fun _ => 0⟩, fun i hi => by omega, fun i hi => by omega⟩
theorem FRow.upto {w : World} {a : Option Addr} {len : Nat} {F : Nat → Fa} (h : FRow w a len F) {n : Nat} (hn : n ≤ len) : FRow w a n F := fun i hi => h i (by omega)
end Go.Proofs.Ythlgahkoignnkaa
