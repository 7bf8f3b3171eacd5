/- Part 6: contracts that the proof rests on. -/
import Derived.Lib.SlKeysI
import Derived.Test.YtdpahjfekoikiaaGreatPkX00
set_option maxHeartbeats 64000000
set_option maxRecDepth 100000
namespace Go.Proofs.YtdpahjfekoikiaaGreat
abbrev R4:=Int × Int × Int × Int
def rv (x:R4):List Value:=[.int .i64 x.1,.int .i64 x.2.1,.int .u32 x.2.2.1,.int .u32 x.2.2.2]
def vV (L:List R4):List Value:=L.flatMap rv
def Nmb (L:List R4):Prop:=∀ i (h:i<L.length),(L[i]).1=i+1
theorem Nmb.nil:Nmb []:=fun i h=>by simp at h
theorem Nmb.snoc {L:List R4} (h:Nmb L) (c s n:Int):Nmb (L ++ [(((L.length+1:Nat):Int),c,s,n)]):=by
 intro i hi
 by_cases hl:i<L.length
 ·rw[List.getElem_append_left hl];exact h i hl
 ·have:i=L.length:=by simp at hi;omega
  subst this
  simp
def jU (L:List R4) (c:Int):Nat:=L.countP (fun r=>decide (r.2.1=c))
theorem fi (L:List R4) (r:R4) (c:Int):jU (L ++ [r]) c=jU L c+if r.2.1=c then 1 else 0:=by
 simp[jU,List.countP_append,List.countP_cons]
theorem tI (L:List R4) (c:Int):jU L c≤L.length:=List.countP_le_length
def lo (c:Int):List Int→Nat
 | []=>0
 | x :: l=>if x<c then lo c l+1 else 0
end Go.Proofs.YtdpahjfekoikiaaGreat
