/- Part 32 of the texts on which the proofs of layer 13 rest: contracts of Go functions. -/
import Derived.Test.YthbogkaoidbpgaaGreatPkB29
import Derived.Test.YthbogkaoidbpgaaGreatPkB30
namespace Go.Proofs.YthbogkaoidbpgaaGreat
set_option maxRecDepth 100000
open Go.RowKit
set_option maxHeartbeats 6400000 in
theorem runit4_any (d m g n mx:Nat) (P:Pm) (U:List Nat) (s:Sd) (c ss num fl:Nat) (a:Option Addr) (len cap:Nat) (bs:Nat→Nat) (w:World) (h:RW w d m g n mx P U s) (hr:Row8 w a len cap bs) (ha:∀ x,a=some x→x.block<w.heap.size∧x.block ∉ U) (hsn:s.st=4→s.sn+1<4294967296) (hs:s.st≠6) (ho:s.od<4) (hL:s.L.length<800000) (ht:s.ms.t<9223372036854774000) (hss:s.ss<4294967296) :
  Calls Tryz.prog 52 #[.pointer (some ⟨d,0,none⟩),.agg #[.int .i64 4,.int .u32 (c:Nat),.int .u32 (ss:Nat),.int .u32 (num:Nat),.int .i64 (fl:Nat),.slice a len cap]] w fun e w'=>∃ v,e=.returned (.tuple #[v,.int .i64 (dtake P mx n s 4 ss num fl len bs).e])∧Hid (OutR U w w' d m g n mx P (dtake P mx n s 4 ss num fl len bs).s (dtake P mx n s 4 ss num fl len bs).f v):=by
 by_cases hno:(ss=s.ss∧s.st=4∧s.nm<num)∧num<P.n∧len=P.o
 ·by_cases h8:8≤fl
  ·exact runit4t_any d m g n mx P U s c ss num fl a len cap bs w h hr ha hsn hs ho hL ht hss hno.1.1 hno.1.2.1 hno.1.2.2 hno.2.1 hno.2.2 h8
  ·exact runit4f_any d m g n mx P U s c ss num fl a len cap bs w h hr ha hsn hs ho hL ht hss hno.1.1 hno.1.2.1 hno.1.2.2 hno.2.1 hno.2.2 h8
 ·exact runit4r_any d m g n mx P U s c ss num fl a len cap bs w h hr ha hsn hs ho hL ht hss hno
end Go.Proofs.YthbogkaoidbpgaaGreat
