/- Part 43 of the texts on which the proofs of layer 13 rest: contracts of Go functions. -/
import Derived.Deep.RegionHeld3
import Derived.Test.YtffehehghpafdaaGreatPkB16
import Derived.Test.YtffehehghpafdaaGreatPkB20
namespace Go.Proofs.YtffehehghpafdaaGreat
set_option maxRecDepth 100000
open Go.RowKit
theorem step_append8L {ops:Array Oper} {o:Oper} {a:Act} {w:World} {K:Act→World→Prop} {Q:Exit→Act→World→Prop} {E:Prop}
  (hg:o.guard=none) (s x:Operand) (hop:o.op=Op.call { callee:=Callee.builtin Builtin.append,args:=#[s,x],argTypes:=#[29,29] })
  (B:Nat) (v:Value) (hs:a.eval s=v) (hown:w.ownsRow B 5 1 v 0 [])
  (ao:Option Addr) (m c:Nat) (bs:Nat→Nat) (hx:a.eval x=.slice ao m c) (hrow:Row8 w ao m c bs) (hm:m≤140737488351232)
  (w0:World) (hb:Below B w0 w) (hB0:B≤w0.heap.size)
  (hK:∀ a' c' w',Hid (w'.ownsRow B 5 1 (.slice a' m c') m (CB bs m))→Below B w0 w'→K (a.put o.dst (.slice a' m c')) w') :
  if Region.wanted o (yielded ops a.tmps)=true then Oper.wp Tryz.prog o a w K Q else E:=by
 obtain⟨i0,hi,hz0,hz1,hz2⟩:=info_parts info_u8
 have hw:Region.wanted o (yielded ops a.tmps)=true:=by simp[Region.wanted,hg]
 rw[if_pos hw]
 have hBw:B≤w.heap.size:=Nat.le_trans hB0 hb.size
 have fin:∀ v' w',w'.ownsRow B 5 1 v' m (CB bs m)→w.grownBy w' v.ownBlock→K (a.put o.dst v') w':=by
  intro v' w' h1 h2
  have h3:=hb.grown h2 hBw (fun j hj=>(hown.lt j hj).1)
  obtain⟨a',c',rfl,_⟩:=own_row8 h1 hrow.byte
  exact hK a' c' w' h1 h3
 cases ao with
 | none=>
  obtain⟨rfl,rfl⟩:=hrow.nil rfl
  have hrun:=run_append_owned_none (P:=Tryz.prog) (w:=w) B 29 o.type 5 i0 1 Tryz.underlying29 hi v 0 [] hown
  have hk:=fin v w hown ⟨rfl,rfl,rfl,Nat.le_refl _,fun _ _ _=>rfl⟩
  unfold Oper.wp
  simp[execOp,hop,resolve,invoke,builtin,hs,hx,hrun,Result.andThen]
  exact hk
 | some ad=>
  refine wp_append_own w s x _ hop B 5 i0 (.int .u8 0) 1 1 Tryz.underlying29 hi hz0 hz1 hz2 rfl (by decide) v 0 [] hs hown ad m c (CB bs m) hx (by rw[CB_length,Nat.mul_one]) ?_ (CB_one bs m) (by unfold maxLen;omega) (by omega) hBw (fun v' w' h1 h2 _=>fin v' w' (by simpa using h1) h2)
  intro j u hj
  by_cases hlt:j<m
  ·rw[CB_get bs m j hlt]at hj
   cases hj
   exact hrow.src ad rfl j hlt
  ·rw[CB_none bs m j (by omega)]at hj;cases hj
theorem own0L (B:Nat) (w:World) (h:B≤w.heap.size):(w.alloc (.cells #[] 5)).ownsRow B 5 1 (.slice (some ⟨w.heap.size,0,none⟩) 0 0) 0 []:=World.ownsRow_made w #[] 0 h (Nat.zero_le _) rfl
theorem own0Ld (B:Nat) (w:World) (h:B≤w.heap.size):(w.alloc (.cells #[] 5)).drew.ownsRow B 5 1 (.slice (some ⟨w.heap.size,0,none⟩) 0 0) 0 []:=own0L B w h
end Go.Proofs.YtffehehghpafdaaGreat
