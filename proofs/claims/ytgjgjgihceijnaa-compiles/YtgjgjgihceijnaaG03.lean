/- Texts put together: CkPure3, ScPure, LyPure, LyRd, LyNums, StAlike, LyCond, ScPure4, LyImg, LyWalk, CkImg, LyRead, CuMem, ScHope, ScCut, CuW, CuLook, StPart. -/
import Derived.Test.YtgjgjgihceijnaaG02
import Derived.Test.YtgjgjgihceijnaaG01
import Derived.Test.YtgjgjgihceijnaaChecked
import Derived.WalkKit
import Derived.WalkSpells
import Derived.WalkLawsBesides
import Derived.Deep.QuietTactic
import Derived.Deep.LoopGhost
import Derived.BigQuiet
import Derived.Deep.AppendLies
import Derived.Laws.StructEq
import Derived.Deep.CutBlock
namespace Go.Stn
def iR (s:ByteArray):Nat:=bt s 3
def iM (s:ByteArray):Nat:=bt s (4+iR s)
def iK (s:ByteArray):Nat:=bt s (5+iR s)+1
def iAt (s:ByteArray):Nat→Nat
 | 0=>262+iR s
 | c+1=>stNext s (iR s) (iK s) (iAt s c)
def headA (s:ByteArray):Bool:=
 decide (4≤s.size) && (decide (bt s 0=83∧bt s 1=84∧bt s 2=1) && (decide (1≤iR s) && decide (iR s≤8)))
def headB (s:ByteArray):Bool:=belowB s (4+iR s) 1 4 && decide (iM s≠0)
def headC (s:ByteArray):Bool:=belowB s 4 (iR s) (1+(iM s:Int)) && belowB s (5+iR s) 1 255
def headD (s:ByteArray):Bool:=belowB s (6+iR s) 256 ((iK s:Int) - 1)
def imgOk (s:ByteArray):Bool:=
 headA s && (headB s && (headC s && (headD s && (decide (∀c,c<iM s→stOk s (iR s) (iK s) (iAt s c)=true) && decide (iAt s (iM s)=s.size)))))
theorem imgOk_iff {s:ByteArray}:imgOk s=true↔
  headA s=true∧headB s=true∧headC s=true∧headD s=true∧(∀c,c<iM s→stOk s (iR s) (iK s) (iAt s c)=true)∧iAt s (iM s)=s.size:=by
 unfold imgOk;simp only[Bool.and_eq_true,decide_eq_true_eq]
theorem headA_iff {s:ByteArray}:headA s=true↔4≤s.size∧(bt s 0=83∧bt s 1=84∧bt s 2=1)∧1≤iR s∧iR s≤8:=by
 unfold headA;simp only[Bool.and_eq_true,decide_eq_true_eq]
theorem iAt_step {s:ByteArray}{c:Nat}(h:stOk s (iR s) (iK s) (iAt s c)=true):
  iAt s (c+1)=iAt s c+1+bt s (iAt s c)*(1+iK s)∧iAt s (c+1)≤s.size:=by
 have h2:iAt s (c+1)=stNext s (iR s) (iK s) (iAt s c):=rfl
 rw[h2,(st_yes h).2]
 exact⟨rfl,(stOk_iff.1 h).2.2.2.1⟩
theorem belowB_le {s:ByteArray}{i n:Nat}{m:Int}(h:belowB s i n m=true):∀j,j<n→(bt s (i+j):Int)≤m:=by
 unfold belowB at h;simp only[Bool.and_eq_true,decide_eq_true_eq]at h;exact h.2
end Go.Stn

namespace Go.Stn
def nSt (s:ByteArray)(c:Nat):Nat:=bt s (iAt s c)
def rwAt (s:ByteArray)(c st:Nat):Nat:=iAt s c+1+st*(1+iK s)
def clsN (s:ByteArray)(v:Nat):Nat:=bt s (6+iR s+v)
def leadN (s:ByteArray)(c st v:Nat):Nat:=bt s (rwAt s c st+1+clsN s v)
def markN (s:ByteArray)(c st:Nat):Nat:=bt s (rwAt s c st)
theorem cls_lt {s:ByteArray}(h:imgOk s=true)(v:Nat)(hv:v<256):clsN s v<iK s:=by
 rw[imgOk_iff]at h
 have hD:=h.2.2.2.1
 unfold headD at hD
 have:=belowB_le hD v hv
 unfold clsN
 omega
theorem img_st {s:ByteArray}(h:imgOk s=true){c:Nat}(hc:c<iM s):stOk s (iR s) (iK s) (iAt s c)=true:=(imgOk_iff.1 h).2.2.2.2.1 c hc
theorem nSt_le {s:ByteArray}(h:imgOk s=true){c:Nat}(hc:c<iM s):nSt s c≤100∧1≤nSt s c:=by
 have hs:=stOk_iff.1 (img_st h hc)
 unfold nSt
 have:=hs.2.1
 have:=hs.2.2.1
 omega
end Go.Stn

namespace Go.Stn
abbrev LSt:=Nat×Bool
def leadI (x:Nat):Int:=if x=255 then -1 else(x:Int)
end Go.Stn

namespace Go.Proofs.Ytgjgjgihceijnaa
open Go.RowKit Go.Stn
theorem hidZ {p:Prop}(h:p):Hid p:=h
variable {w w':World} {rb:Nat} {s:ByteArray} {r:LSt}
end Go.Proofs.Ytgjgjgihceijnaa

namespace Go.Stn
open Go.RowKit
theorem wpList_fits1 {P:Program}(w:World){ops:Array Oper}{rest:List Oper}{o:Oper}{a:Act}{Q:Exit→Act→World→Prop}(hgd:o.guard=none)(s x:Operand)(t:TypeId)
  (ho:o.op= .call {callee:= .builtin .append,args:= #[s,x],argTypes:= #[t,t]})
  (base:Nat) (e:TypeId) (z:Value) (size bytes:Nat) (ht:P.underlying t=some (.slice e)) (hinfo:(P.info? e).map (fun i=>(i.zero,i.size,i.bytes))=some (some z,size,bytes))
  (g k cap:Nat) (xs cs:List Value) (e':TypeId) (hs:a.eval s= .slice (some ⟨g,0,none⟩) k cap) (hown:w.ownsRow base e size (.slice (some ⟨g,0,none⟩) k cap) k xs)
  (B:Nat) (hB:w.heap.size=B) (hx:a.eval x= .slice (some ⟨B,0,none⟩) 1 1) (hl:cs.length=size) (h1:∀u∈cs,u.oneCell'=true) (hk:k+1≤cap)
  (h:∀w',w'.ownsRow base e size (.slice (some ⟨g,0,none⟩) (k+1) cap) (k+1) (xs++cs)→(w.alloc (.cells cs.toArray e')).grownBy w' (some g)→
   wpList P ops Q rest (a.put o.dst (.slice (some ⟨g,0,none⟩) (k+1) cap)) w'):wpList P ops Q (o::rest) a (w.alloc (.cells cs.toArray e')):=by
 subst hB
 obtain⟨i,hi,hz,hsize,hb⟩:=info_parts hinfo
 refine wpList_append_fits _ hgd s x t ho base e i size ht hi hsize g k cap xs hs (hown.alloc _) ⟨w.heap.size,0,none⟩ 1 1 cs hx (by omega) ?_ h1 hk h
 have:=World.news_of_block (w:=w.alloc (.cells cs.toArray e')) (B:=w.heap.size) (cs:=cs.toArray) (t:=e') (fr:=(0,0)) (heap_alloc_new w _)
 simpa using this
def natC (l:List Nat):List Value:=l.map fun(x:Nat)=>Value.int .i64 (x:Int)
def intC (l:List Int):List Value:=l.map fun(x:Int)=>Value.int .i64 x
theorem natC_snoc (l:List Nat)(x:Nat):natC (l++ [x])=natC l++ [.int .i64 (x:Int)]:=by simp[natC]
theorem intC_snoc (l:List Int)(x:Int):intC (l++ [x])=intC l++ [.int .i64 x]:=by simp[intC]
end Go.Stn
namespace Go.Proofs.Ytgjgjgihceijnaa
open Go.RowKit Go.Stn
theorem Try.infoInt:(Try.prog.info? 3).map (fun i=>(i.zero,i.size,i.bytes))=some (some (.int .i64 0),1,8):=by kernel_rfl
end Go.Proofs.Ytgjgjgihceijnaa

namespace Go.Stn
open Go.RowKit
structure SIn (w:World)(top g n K:Nat)(zb:Nat→Nat)(tk:Nat→Nat)(nx:Nat→Nat→Int):Prop where
 tkc:∀s,s<n→w.cell? ⟨g,s*2,none⟩=some (.int .i64 (tk s))
 nxc:∀s,s<n→w.cell? ⟨g,s*2+1,none⟩=some (.slice (some ⟨zb s,0,none⟩) K K)
 ldc:∀s k,s<n→k<K→w.cell? ⟨zb s,k,none⟩=some (.int .i64 (nx s k))
 bg:g<top
 bz:∀s,s<n→zb s<top
theorem SIn.below {w w':World}{top g n K B:Nat}{zb tk:Nat→Nat}{nx:Nat→Nat→Int}(h:SIn w top g n K zb tk nx)(hB:Below B w w')(hb:top≤B):SIn w' top g n K zb tk nx:=
 ⟨fun s hs=>(hB.cell (p:=⟨g,s*2,none⟩) (Nat.lt_of_lt_of_le h.bg hb)).trans (h.tkc s hs),fun s hs=>(hB.cell (p:=⟨g,s*2+1,none⟩) (Nat.lt_of_lt_of_le h.bg hb)).trans (h.nxc s hs),
  fun s k hs hk=>(hB.cell (p:=⟨zb s,k,none⟩) (Nat.lt_of_lt_of_le (h.bz s hs) hb)).trans (h.ldc s k hs hk),h.bg,h.bz⟩
theorem SIn.drewN {w:World}{top g n K:Nat}{zb tk:Nat→Nat}{nx:Nat→Nat→Int}(h:SIn w top g n K zb tk nx)(q:Nat):SIn (w.drewN q) top g n K zb tk nx:=⟨h.tkc,h.nxc,h.ldc,h.bg,h.bz⟩
def NIn (w:World)(g n:Nat)(f:Nat→Int):Prop:=∀i,i<n→w.cell? ⟨g,i,none⟩=some (.int .i64 (f i))
theorem NIn.below {w w':World}{g n B:Nat}{f:Nat→Int}(h:NIn w g n f)(hB:Below B w w')(hb:g<B):NIn w' g n f:=fun i hi=>(hB.cell (p:=⟨g,i,none⟩) hb).trans (h i hi)
theorem NIn.of_row {w:World}{base e g cap:Nat}{l:List Nat}(h:w.ownsRow base e 1 (.slice (some ⟨g,0,none⟩) l.length cap) l.length (natC l)):NIn w g l.length (listF l):=fun i hi=>by
 have h1:=h.cells rfl i (.int .i64 (listF l i)) (by
  unfold natC listF
  rw[List.getElem?_map,List.getElem?_eq_getElem hi,List.getD_eq_getElem?_getD,List.getElem?_eq_getElem hi];rfl)
 by_cases hj:i=0
 ·subst hj;simpa[Addr.add]using h1
 ·simpa[Addr.add,hj]using h1
theorem ledB_no {pt:Nat→Int}{nx:Nat→Nat→Int}{s t K g:Nat}(hg:g<K)(h:prtP pt (nx s g)≠prtP pt (nx t g)):ledB pt nx s t K=false:=by
 unfold ledB;rw[decide_eq_false_iff_not];intro q;exact h (q g hg)
theorem ledB_yes {pt:Nat→Int}{nx:Nat→Nat→Int}{s t K:Nat}(h:∀g,g<K→prtP pt (nx s g)=prtP pt (nx t g)):ledB pt nx s t K=true:=by
 unfold ledB;rw[decide_eq_true_eq];exact h
end Go.Stn
namespace Go.Proofs.Ytgjgjgihceijnaa
open Go.RowKit Go.Stn
theorem spartOf_any (pt:Nat→Int)(g n cap:Nat)(x:Int)(w:World)(hx:x= -1∨(0≤x∧x<n))(h:NIn w g n pt):
  Calls Try.prog 122 #[.slice (some ⟨g,0,none⟩) n cap,.int .i64 x] w fun e w'=>e= .returned (.int .i64 (prtP pt x))∧w'=w:=by
 by_cases hm:x= -1
 ·subst hm
  go_enter Try.func122,Try.ntmps122
  go_wp2
  go_ret
  exact⟨rfl,rfl⟩
 ·have hd:(x== -1)=false:=beq_eq_false_iff_ne.2 hm
  obtain⟨k,rfl⟩:∃k:Nat,x=(k:Int):=⟨x.toNat,by omega⟩
  have hk:k<n:=by omega
  have hc:=h k hk
  have HE:Hid (prtP pt (k:Int)=pt k):=by unfold Hid prtP;rw[if_neg hm];simp
  have hkI:(0:Int)≤(k:Int)∧(k:Int)<(n:Int):=by omega
  clear hm hx h
  go_enter Try.func122,Try.ntmps122
  go_wp2
  go_ret
  exact⟨by rw[HE.out];rfl,rfl⟩
set_option maxRecDepth 100000 in
set_option maxHeartbeats 1000000 in
theorem salike_any (pt:Nat→Int)(g n cap K top pg pcap:Nat)(zb tk:Nat→Nat)(nx:Nat→Nat→Int)(s t:Nat)(w:World)(hs:s<n)(ht:t<n)(hK:K≤300)
  (hr:∀i k,i<n→k<K→nx i k= -1∨(0≤nx i k∧nx i k<n)) (hS:SIn w top g n K zb tk nx) (hP:NIn w pg n pt):
  Calls Try.prog 121 #[.slice (some ⟨g,0,none⟩) n cap,.slice (some ⟨pg,0,none⟩) n pcap,.int .i64 s,.int .i64 t] w fun e w'=>e= .returned (.bool (alikeB pt tk nx K s t))∧∃q,w'=w.drewN q:=by
 have p1:=hP s hs
 have p2:=hP t ht
 have t1:=hS.tkc s hs
 have t2:=hS.tkc t ht
 have n1:=hS.nxc s hs
 have n2:=hS.nxc t ht
 have hsI:(0:Int)≤(s:Int)∧(s:Int)<(n:Int):=by omega
 have htI:(0:Int)≤(t:Int)∧(t:Int)<(n:Int):=by omega
 have HS:=hidZ hS
 have HP:=hidZ hP
 have HR:=hidZ hr
 clear hS hP hr
 by_cases e1:pt s=pt t
 ·have hd1:(pt s !=pt t)=false:=by rw[e1];simp
  by_cases e2:tk s=tk t
  ·have hd2:((tk s:Int) !=(tk t:Int))=false:=by rw[e2];simp
   have HE:Hid (alikeB pt tk nx K s t=ledB pt nx s t K):=by unfold Hid alikeB;rw[decide_eq_true e1,decide_eq_true e2];simp
   generalize pt s=a1 at*
   generalize pt t=a2 at*
   generalize tk s=a3 at*
   generalize tk t=a4 at*
   clear e1 e2
   go_enter Try.func121,Try.ntmps121
   go_wp2_with fail
   go_quiet (fail)
   go_wp2_with fail
   go_loopw [41] (fun x wr=>∃(k q:Nat),x= .int .i64 (k:Int)∧k≤K∧wr=w.drewN q∧∀j,j<k→prtP pt (nx s j)=prtP pt (nx t j)) (fun x _=>K - (intOf x).toNat)
   case atStart=>exact⟨0,nq,rfl,Nat.zero_le _,rfl,fun j hj=>absurd hj (Nat.not_lt_zero _)⟩
   case round=>
    obtain⟨k,q,rfl,hk,rfl,hall⟩:=hrel
    have HA:=hidZ hall
    clear hall
    by_cases hlt:k<K
    ·have c1:=HS.out.ldc s k hs hlt
     have c2:=HS.out.ldc t k ht hlt
     have HC1:=hidZ (fun W (hW:NIn W pg n pt)=>spartOf_any pt pg n pcap (nx s k) W (HR.out s k hs hlt) hW)
     have HC2:=hidZ (fun W (hW:NIn W pg n pt)=>spartOf_any pt pg n pcap (nx t k) W (HR.out t k ht hlt) hW)
     have HN:=hidZ (@ledB_no pt nx s t K k hlt)
     have HL:Hid (prtP pt (nx s k)=prtP pt (nx t k)→∀j,j<k+1→prtP pt (nx s j)=prtP pt (nx t j)):=fun h j hj=>by
      by_cases e:j=k
      ·rw[e];exact h
      ·exact HA.out j (by omega)
     have hkI:(0:Int)≤(k:Int)∧(k:Int)<(K:Int):=by omega
     have hd3:decide ((k:Int)<(K:Int))=true:=by simp;omega
     generalize nx s k=x1 at*
     generalize nx t k=x2 at*
     go_wp2_with fail
     refine(HC1.out (w.drewN q) HP.out).mono ?_
     rintro e w2 ⟨rfl,rfl⟩
     go_wp2_with fail
     refine(HC2.out (w.drewN q) HP.out).mono ?_
     rintro e w2 ⟨rfl,rfl⟩
     by_cases hne:prtP pt x1=prtP pt x2
     ·have hd4:(prtP pt x1 !=prtP pt x2)=false:=by rw[hne];simp
      have HA2:=hidZ (HL.out hne)
      generalize prtP pt x1=y1 at*
      generalize prtP pt x2=y2 at*
      clear hne
      go_wp2
      go_roundw
      case rel=>exact⟨k+1,q,by go_num,hlt,rfl,HA2.out⟩
      case measure=>simp[intOf];omega
     ·have hd4:(prtP pt x1 !=prtP pt x2)=true:=by rw[bne_iff_ne];exact hne
      have HE2:=hidZ (HN.out hne)
      generalize prtP pt x1=y1 at*
      generalize prtP pt x2=y2 at*
      clear hne
      go_wp2
      go_ret
      exact⟨by rw[HE.out,HE2.out];rfl,_,rfl⟩
    ·have e:k=K:=by omega
     subst e
     have HE2:Hid (ledB pt nx s t k=true):=ledB_yes HA.out
     have hd3:decide ((k:Int)<(k:Int))=false:=by simp
     go_wp2
     go_ret
     exact⟨by rw[HE.out,HE2.out];rfl,_,rfl⟩
  ·have hd2:((tk s:Int) !=(tk t:Int))=true:=by rw[bne_iff_ne];omega
   have HE:Hid (alikeB pt tk nx K s t=false):=by unfold Hid alikeB;rw[decide_eq_false e2];simp
   generalize pt s=a1 at*
   generalize pt t=a2 at*
   generalize tk s=a3 at*
   generalize tk t=a4 at*
   clear e1 e2
   go_enter Try.func121,Try.ntmps121
   go_wp2_with fail
   go_quiet (fail)
   go_wp2
   go_ret
   exact⟨by rw[HE.out];rfl,_,rfl⟩
 ·have hd1:(pt s !=pt t)=true:=by rw[bne_iff_ne];exact e1
  have HE:Hid (alikeB pt tk nx K s t=false):=by unfold Hid alikeB;rw[decide_eq_false e1];simp
  generalize pt s=a1 at*
  generalize pt t=a2 at*
  clear e1
  go_enter Try.func121,Try.ntmps121
  go_wp2_with fail
  go_quiet (fail)
  go_wp2
  go_ret
  exact⟨by rw[HE.out];rfl,_,rfl⟩
end Go.Proofs.Ytgjgjgihceijnaa

namespace Go.Stn
def stC (cl:Nat)(zs:List ((Nat×List Int)×Nat)):List Value:=zs.flatMap fun z=>[Value.int .i64 (z.1.1:Int),Value.slice (some ⟨z.2,0,none⟩) cl cl]
theorem stC_snoc (cl:Nat)(zs:List ((Nat×List Int)×Nat))(z:(Nat×List Int)×Nat):stC cl (zs++ [z])=stC cl zs++ [Value.int .i64 (z.1.1:Int),Value.slice (some ⟨z.2,0,none⟩) cl cl]:=by simp[stC]
def StRows (w:World)(lo:Nat)(zs:List ((Nat×List Int)×Nat)):Prop:=∀z∈zs,lo≤z.2∧z.2<w.heap.size∧w.rangeAt z.2 0 (intC z.1.2)
theorem StRows.grown {w w':World}{lo g:Nat}{zs:List ((Nat×List Int)×Nat)}(h:StRows w lo zs)(hg:w.grownBy w' (some g))(hl:g<lo):StRows w' lo zs:=fun z hz=>by
 obtain⟨h1,h2,h3⟩:=h z hz
 exact⟨h1,Nat.lt_of_lt_of_le h2 hg.size,rangeAt_block h3 (hg.block z.2 h2 (by intro e;injection e;omega))⟩
theorem StRows.nil (w:World)(lo:Nat):StRows w lo []:=fun _ hz=>absurd hz (List.not_mem_nil)
theorem StRows.snoc {w:World}{lo:Nat}{zs:List ((Nat×List Int)×Nat)}{z:(Nat×List Int)×Nat}(h:StRows w lo zs)(h1:lo≤z.2∧z.2<w.heap.size∧w.rangeAt z.2 0 (intC z.1.2)):StRows w lo (zs++ [z]):=fun y hy=>by
 rcases List.mem_append.1 hy with h2 | h2
 ·exact h y h2
 ·rw[List.mem_singleton]at h2;rw[h2];exact h1
theorem StRows.below {w w':World}{lo B:Nat}{zs:List ((Nat×List Int)×Nat)}(h:StRows w lo zs)(hg:RowKit.Below B w w')(hl:w.heap.size≤B):StRows w' lo zs:=fun z hz=>by
 obtain⟨h1,h2,h3⟩:=h z hz
 exact⟨h1,Nat.lt_of_lt_of_le h2 hg.size,rangeAt_block h3 (hg.block z.2 (by omega))⟩
theorem row_range {w:World}{base e g k cap:Nat}{xs:List Value}(h:w.ownsRow base e 1 (.slice (some ⟨g,0,none⟩) k cap) k xs):w.rangeAt g 0 xs:=fun j v hv=>by
 have:=h.cells rfl j v hv
 by_cases hj:j=0
 ·subst hj;simpa[Addr.add]using this
 ·simpa[Addr.add,hj]using this
end Go.Stn
namespace Go.Proofs.Ytgjgjgihceijnaa
open Go.RowKit Go.Stn
theorem Try.infoState:(Try.prog.info? 153).map (fun i=>(i.zero,i.size,i.bytes))=some (some (.agg #[.int .i64 0,.slice none 0 0]),2,32):=by kernel_rfl
end Go.Proofs.Ytgjgjgihceijnaa

namespace Go.Stn
def thenB (s:ByteArray)(r:Nat):Nat:=bt s (4+r)
end Go.Stn

namespace Go.Stn
open Go.RowKit
theorem natC_len (l:List Nat):(natC l).length=l.length:=by simp[natC]
theorem natC_get (l:List Nat)(k:Nat)(h:k<l.length):(natC l)[k]? =some (.int .i64 (l[k]:Int)):=by simp[natC,h]
theorem set_next (xs:List Nat)(m x:Nat):(xs++List.replicate (m+1) 0).set xs.length x=(xs++ [x])++List.replicate m 0:=by
 rw[List.set_append_right _ _ (Nat.le_refl _),Nat.sub_self,List.replicate_succ,List.set_cons_zero]
 simp
theorem rangeAt_setL {w:World}{b:Nat}{l:List Value}(h:w.rangeAt b 0 l)(k:Nat)(hk:k<l.length)(v:Value):(w.setCell ⟨b,k,none⟩ v).rangeAt b 0 (l.set k v):=by
 intro j u hu
 rw[Nat.zero_add]
 by_cases e:j=k
 ·subst e
  rw[List.getElem?_set_self hk]at hu
  injection hu with hu
  rw[←hu]
  have:=h j (l[j]) (List.getElem?_eq_getElem hk)
  rw[Nat.zero_add]at this
  exact World.cell?_setCell_same _ _ _ this
 ·rw[List.getElem?_set_ne (fun h=>e h.symm)]at hu
  rw[World.cell?_setCell_other (h:=by intro e';injection e';omega)]
  have:=h j u hu
  rw[Nat.zero_add]at this
  exact this
theorem rangeAt_other {w:World}{b b' o:Nat}{l:List Value}(h:w.rangeAt b 0 l)(hb:b≠b')(v:Value):(w.setCell ⟨b',o,none⟩ v).rangeAt b 0 l:=by
 intro j u hu
 rw[World.cell?_setCell_other (h:=by intro e';injection e';omega)]
 exact h j u hu
abbrev CondG:=Nat×List ((Nat×List Int)×Nat)
structure CondIn (w:World)(cl:Nat)(y:CondG):Prop where
 lt:y.1<w.heap.size
 rg:w.rangeAt y.1 0 (stC cl y.2)
 rows:∀z∈y.2,z.2<w.heap.size∧w.rangeAt z.2 0 (intC z.1.2)
def ownG (y:CondG)(k:Nat):Prop:=k=y.1∨∃z∈y.2,k=z.2
theorem CondIn.block {w w':World}{cl:Nat}{y:CondG}(h:CondIn w cl y)(hz:w.heap.size≤w'.heap.size)(hb:∀k,k<w.heap.size→ownG y k→w'.heap[k]? =w.heap[k]?):CondIn w' cl y:=
 ⟨Nat.lt_of_lt_of_le h.lt hz,rangeAt_block h.rg (hb _ h.lt (.inl rfl)),fun z hz'=>⟨Nat.lt_of_lt_of_le (h.rows z hz').1 hz,rangeAt_block (h.rows z hz').2 (hb _ (h.rows z hz').1 (.inr ⟨z,hz',rfl⟩))⟩⟩
theorem CondIn.below {w w':World}{cl B:Nat}{y:CondG}(h:CondIn w cl y)(hB:Below B w w')(hl:w.heap.size≤B):CondIn w' cl y:=h.block hB.size (fun k hk _=>hB.block k (by omega))
def condC (ys:List CondG):List Value:=ys.map fun(y:CondG)=>Value.slice (some ⟨y.1,0,none⟩) y.2.length y.2.length
theorem condC_snoc (ys:List CondG)(y:CondG):condC (ys++ [y])=condC ys++ [Value.slice (some ⟨y.1,0,none⟩) y.2.length y.2.length]:=by simp[condC]
end Go.Stn
namespace Go.Proofs.Ytgjgjgihceijnaa
open Go.RowKit Go.Stn
variable {w0 w w':World} {rb:Nat} {s:ByteArray} {r r':LSt} {vb vc:Value} {cs:List Nat}
end Go.Proofs.Ytgjgjgihceijnaa

namespace Go.Proofs.Ytgjgjgihceijnaa
open Go.RowKit Go.Stn
theorem setCells_block:∀(w:World) (b o:Nat) (vs:List Value) (k:Nat),k≠b→(w.setCells b o vs).heap[k]? =w.heap[k]? :=by
 intro w b o vs
 induction vs generalizing w o with
 | nil=>intro k _;rfl
 | cons v r ih=>intro k hk;exact(ih (w.setCell ⟨b,o,none⟩ v) (o+1) k hk).trans (Below.heap_setCell _ _ _ _ hk)
theorem ownsRow_setCells_below {w:World}{base:Nat}{e:TypeId}{size:Nat}{v:Value}{n:Nat}{xs:List Value}(h:w.ownsRow base e size v n xs){b:Nat}(hb:b<base)(vs:List Value)(o:Nat):(w.setCells b o vs).ownsRow base e size v n xs:=by
 induction vs generalizing w o with
 | nil=>exact h
 | cons u r ih=>exact ih (ownsRow_setCell_below (a:=⟨b,o,none⟩) h hb u) (o+1)
end Go.Proofs.Ytgjgjgihceijnaa

namespace Go.Proofs.Ytgjgjgihceijnaa
open Go.RowKit Go.Stn
end Go.Proofs.Ytgjgjgihceijnaa

namespace Go.Proofs.Ytgjgjgihceijnaa
open Go.RowKit Go.Stn
theorem row_stay {w w':World}{base:Nat}{e:TypeId}{size:Nat}{v:Value}{m:Nat}{xs:List Value}(hr:w.ownsRow base e size v m xs)(hB:Below w.heap.size w w'):w'.ownsRow base e size v m xs:=by
 refine⟨hr.1, ?_⟩
 have hlt:=hr.lt
 rcases hr.2 with hn | ⟨g,cap,cur,rfl,hbg,hg,rest⟩
 ·exact .inl hn
 ·exact .inr ⟨g,cap,cur,rfl,hbg,(hB.block g (hlt g rfl).2).trans hg,rest⟩
end Go.Proofs.Ytgjgjgihceijnaa

namespace Go.Stn
open Go.RowKit
theorem stC_get (cl:Nat)(zs:List ((Nat×List Int)×Nat)):∀(k:Nat) (z:(Nat×List Int)×Nat),zs[k]? =some z→(stC cl zs)[2*k]? =some (.int .i64 (z.1.1:Int))∧(stC cl zs)[2*k+1]? =some (.slice (some ⟨z.2,0,none⟩) cl cl):=by
 induction zs with
 | nil=>intro k z h;simp at h
 | cons y r ih=>
  intro k z h
  have e:stC cl (y::r)=Value.int .i64 (y.1.1:Int)::Value.slice (some ⟨y.2,0,none⟩) cl cl::stC cl r:=by simp[stC]
  rw[e]
  cases k with
  | zero=>simp at h;subst h;exact⟨rfl,rfl⟩
  | succ j=>
   have:=ih j z (by simpa using h)
   rw[show 2*(j+1)=2*j+1+1 by omega]
   exact⟨by simpa using this.1,by simpa using this.2⟩
theorem condC_get (ys:List CondG)(k:Nat)(y:CondG)(h:ys[k]? =some y):(condC ys)[k]? =some (.slice (some ⟨y.1,0,none⟩) y.2.length y.2.length):=by
 unfold condC;rw[List.getElem?_map,h];rfl
theorem intC_get (l:List Int)(k:Nat)(x:Int)(h:l[k]? =some x):(intC l)[k]? =some (.int .i64 x):=by
 unfold intC;rw[List.getElem?_map,h];rfl
end Go.Stn
namespace Go.Proofs.Ytgjgjgihceijnaa
open Go.RowKit Go.Stn
end Go.Proofs.Ytgjgjgihceijnaa

namespace Go.Stn
def stepFrom (s inp:ByteArray)(c:Nat):Nat→Nat→Nat→Option Nat
 | st,_,0=>some st
 | st,i,d+1=>if leadN s c st (bt inp i)=255 then none else stepFrom s inp c (leadN s c st (bt inp i)) (i+1) d
def dead (s inp:ByteArray)(c st i:Nat):Prop:=∀d t,1≤d→i+d≤inp.size→stepFrom s inp c st i d=some t→markN s c t=0
end Go.Stn

namespace Go.Proofs.Ytgjgjgihceijnaa
open Go.RowKit Go.Stn
variable {w w':World} {cb base top ib:Nat} {inp:ByteArray} {c:Nat} {H:List (Int×Int×Int)} {n:Nat} {T:List (Int×Int×Int)} {vh vt:Value}
theorem ownsRow_below {w w':World}{base:Nat}{e:TypeId}{size:Nat}{v:Value}{m:Nat}{xs:List Value}{B:Nat}(h:w.ownsRow base e size v m xs)(hB:Below B w w')(hz:w.heap.size≤B):w'.ownsRow base e size v m xs:=by
 refine⟨h.1, ?_⟩
 rcases h.2 with hn | ⟨g,cap,cur,rfl,hbg,hg,rest⟩
 ·exact .inl hn
 ·have hlt:g<w.heap.size:=(Array.getElem?_eq_some_iff.1 hg).1
  exact .inr ⟨g,cap,cur,rfl,hbg,(hB.block g (by omega)).trans hg,rest⟩
theorem ownsRow_shape {w:World}{base:Nat}{e:TypeId}{size:Nat}{v:Value}{m:Nat}{xs:List Value}(h:w.ownsRow base e size v m xs):v= .slice none 0 0∨∃g cap,v= .slice (some ⟨g,0,none⟩) m cap:=by
 rcases h.2 with⟨e,_⟩ | ⟨g,cap,_,e,_⟩
 ·exact .inl e
 ·exact .inr ⟨g,cap,e⟩
end Go.Proofs.Ytgjgjgihceijnaa

namespace Go.Proofs.Ytgjgjgihceijnaa
open Go.RowKit Go.Stn
variable {w w':World} {cb top:Nat} {s inp:ByteArray} {bb vg vcap:Nat} {yb:Nat→Nat} {zb:Nat→Nat→Nat} {vt:Value} {hg hcap:Nat} {hbk:Nat→Nat} {HT:Nat→Nat→Bool} {c p n:Nat} {T:List (Int×Int×Int)}
theorem row_top {base:Nat}{e:TypeId}{size:Nat}{v:Value}{m:Nat}{xs:List Value}(hr:w.ownsRow base e size v m xs)(hB:∀k,v.ownBlock=some k→w'.heap[k]? =w.heap[k]?):w'.ownsRow base e size v m xs:=by
 refine⟨hr.1, ?_⟩
 rcases hr.2 with hn | ⟨g,cap,cur,rfl,hbg,hg,rest⟩
 ·exact .inl hn
 ·exact .inr ⟨g,cap,cur,rfl,hbg,(hB g rfl).trans hg,rest⟩
theorem below_cell {B b i:Nat}{v:Value}(h:B≤b):Below B w (w.setCell ⟨b,i,none⟩ v):=(Below.refl _ _).setCell (p:=⟨b,i,none⟩) h v
end Go.Proofs.Ytgjgjgihceijnaa

namespace Go.Proofs.Ytgjgjgihceijnaa
open Go.RowKit Go.Stn
theorem owns_empty (w:World)(e:TypeId):(w.alloc (.cells #[] e)).ownsRow w.heap.size e 1 (.slice (some ⟨w.heap.size,0,none⟩) 0 0) 0 []:=by
 refine⟨rfl,.inr ⟨w.heap.size,0, #[],rfl,Nat.le_refl _,heap_alloc_new w _,Nat.le_refl _, ?_⟩⟩
 simp
end Go.Proofs.Ytgjgjgihceijnaa

namespace Go.Stn
theorem getD_lt {l:List Nat}{n:Nat}(h:∀x∈l,x<n){i:Nat}(hi:i<l.length):l.getD i 0<n:=by
 rw[List.getD_eq_getElem?_getD,List.getElem?_eq_getElem hi]
 exact h _ (List.getElem_mem hi)
theorem firstP_step {q:Nat→Nat→Bool}{l:List Nat}{s f d:Nat}(hd:f+(d+1)=l.length):firstP q l s (d+1)=if q (l.getD f 0) s=true then f else firstP q l s d:=by
 rw[firstP,show l.length - (d+1)=f by omega]
end Go.Stn
namespace Go.Proofs.Ytgjgjgihceijnaa
open Go.RowKit Go.Stn
theorem ownsRow_base0 {w:World}{base base':Nat}{e:TypeId}{size:Nat}{g n cap:Nat}{xs:List Value}(h:w.ownsRow base e size (.slice (some ⟨g,0,none⟩) n cap) n xs)(hb:base'≤g):w.ownsRow base' e size (.slice (some ⟨g,0,none⟩) n cap) n xs:=by
 refine⟨h.1, ?_⟩
 rcases h.2 with hn | ⟨g',cap',cur,hv,hbg,rest⟩
 ·exact .inl hn
 ·cases hv
  exact .inr ⟨g,cap,cur,rfl,hb,rest⟩
def PartOut (w:World)(a b:List Nat)(e:Ending)(w':World):Prop:=
 ∃g1 c1 g2 c2,e= .returned (.tuple #[.slice (some ⟨g1,0,none⟩) a.length c1,.slice (some ⟨g2,0,none⟩) b.length c2])∧NIn w' g1 a.length (listF a)∧NIn w' g2 b.length (listF b)∧g1<w'.heap.size∧g2<w'.heap.size∧w.heap.size≤g1∧w.heap.size≤g2∧Below w.heap.size w w'
set_option maxRecDepth 100000 in
set_option maxHeartbeats 1000000 in
theorem spart_any (pt:Nat→Int)(g n cap K pg pcap:Nat)(zb tk:Nat→Nat)(nx:Nat→Nat→Int)(w:World)(hn:n≤2000)(hK:K≤300)
  (hr:∀i k,i<n→k<K→nx i k= -1∨(0≤nx i k∧nx i k<n)) (hS:SIn w w.heap.size g n K zb tk nx) (hP:NIn w pg n pt) (hpg:pg<w.heap.size):
  Calls Try.prog 95 #[.slice (some ⟨g,0,none⟩) n cap,.slice (some ⟨pg,0,none⟩) n pcap] w fun e w'=>PartOut w (partP n (alikeB pt tk nx K)).1 (partP n (alikeB pt tk nx K)).2 e w':=by
 obtain⟨i0,hi0,hz0,hz1,hz2⟩:=info_parts Try.infoInt
 have HI:Hid (Try.prog.info? 3=some i0∧i0.zero=some (.int .i64 0)∧i0.size=1∧i0.bytes=8):=⟨hi0,hz0,hz1,hz2⟩
 clear hi0 hz0 hz1 hz2
 have HS:=hidZ hS
 have HP:=hidZ hP
 have HR:=hidZ hr
 clear hS hP hr
 go_enter Try.func95,Try.ntmps95
 go_wp2_with (first | (at_make;refine wpList_make_own w rfl _ _ 30 rfl w.heap.size 3 i0 (.int .i64 0) 1 Try.underlying30 HI.out.1 HI.out.2.1 HI.out.2.2.1 .i64 .i64 _ n rfl rfl rfl (by rw[HI.out.2.2.2];omega) (by unfold maxLen;omega) (Nat.le_refl _) ?_;intro w1 hown1 hg1))
 obtain⟨Q,EQ⟩:∃Q,alikeB pt tk nx K=Q:=⟨_,rfl⟩
 replace EQ:=hidZ EQ
 have HB1:Hid (Below w.heap.size w w1):=⟨hg1.os,hg1.tape,hg1.output,hg1.size,fun k hk=>hg1.block k hk (by simp)⟩
 have hz1:w.heap.size<w1.heap.size:=by have:=(hown1.lt w.heap.size rfl).2;omega
 have HO1:=hidZ (hown1.alloc (.cells #[] 3))
 have HB2:=hidZ (HB1.out.alloc (Nat.le_of_lt hz1) (.cells #[] 3))
 have HE2:Hid ((w1.alloc (.cells #[] 3)).ownsRow (w.heap.size+1) 3 1 (.slice (some ⟨w1.heap.size,0,none⟩) 0 0) 0 []):=ownsRow_base0 (owns_empty w1 3) hz1
 clear hown1 hg1 HB1
 generalize w1.alloc (.cells #[] 3)=w2 at*
 generalize w1.heap.size=g20 at*
 go_loopg [6,7,16] n (fun gk fv sv iv wr=>∃(fin firsts:List Nat) (s g2 c2:Nat),fv= .slice (some ⟨w.heap.size,0,none⟩) fin.length n∧sv= .slice (some ⟨g2,0,none⟩) firsts.length c2∧iv= .int .i64 (s:Int)∧s+gk=n∧fin.length=s∧firsts.length≤100∧
  (∀x∈firsts,x<s)∧partP n Q=partL Q gk s fin firsts∧wr.ownsRow w.heap.size 3 1 (.slice (some ⟨w.heap.size,0,none⟩) fin.length n) fin.length (natC fin)∧
  wr.ownsRow (w.heap.size+1) 3 1 (.slice (some ⟨g2,0,none⟩) firsts.length c2) firsts.length (natC firsts)∧Below w.heap.size w wr)
 case atStart=>exact⟨[],[],0,g20,0,rfl,rfl,rfl,by omega,rfl,by simp,fun x hx=>absurd hx (List.not_mem_nil),rfl,HO1.out,HE2.out,HB2.out⟩
 case round=>
  obtain⟨fin,firsts,s,g2,c2,rfl,rfl,rfl,hsg,hfl,hf100,hlt,heq,ho1,ho2,hb⟩:=hrel
  have HQ:=hidZ heq
  have HO1':=hidZ ho1
  have HO2':=hidZ ho2
  have HB:=hidZ hb
  have HLT:=hidZ hlt
  have HFL:=hidZ hfl
  clear heq ho1 ho2 hb hlt hfl HO1 HE2 HB2
  have hzr:w.heap.size<wr.heap.size:=(HO1'.out.lt _ rfl).2
  by_cases hsn:s<n
  ·obtain⟨d,rfl⟩:∃d,gk=d+1:=⟨gk - 1,by omega⟩
   have hd1:decide ((s:Int)<(n:Int))=true:=by simp;omega
   have HSr:=hidZ (HS.out.below HB.out (Nat.le_refl _))
   have HPr:=hidZ (HP.out.below HB.out hpg)
   have HNr:=hidZ (NIn.of_row HO2'.out)
   go_upto_block 2 with fail
   go_cut [9] from 17 to 51 (fun fv wc=>∃q,fv= .int .i64 ((firstP Q firsts s firsts.length:Nat):Int)∧wc=wr.drewN q)
   case first=>
    go_wp2_with fail
    go_loopg [9] firsts.length (fun gj fv wj=>∃(f q:Nat),fv= .int .i64 (f:Int)∧f+gj=firsts.length∧wj=wr.drewN q∧firstP Q firsts s firsts.length=firstP Q firsts s gj)
    case atStart=>exact⟨0,0,rfl,by omega,rfl,rfl⟩
    case round=>
     obtain⟨f,q,rfl,hfj,rfl,hfp⟩:=hrel
     have HFP:=hidZ hfp
     clear hfp
     by_cases hff:f<firsts.length
     ·obtain⟨j,rfl⟩:∃j,gk=j+1:=⟨gk - 1,by omega⟩
      have c1:=HNr.out f hff
      have hxs:=getD_lt HLT.out hff
      have HL:Hid (listF firsts f=((firsts.getD f 0:Nat):Int)):=rfl
      rw[HL.out]at c1
      have hst:= @firstP_step Q firsts s f j hfj
      generalize firsts.getD f 0=x at*
      have hcl:=salike_any pt g n cap K w.heap.size pg pcap zb tk nx x s (wr.drewN q) (by omega) hsn hK HR.out (HSr.out.drewN q) HPr.out
      rw[EQ.out]at hcl
      have hd2:decide ((f:Int)<(firsts.length:Int))=true:=by simp;omega
      have hfI:(0:Int)≤(f:Int)∧(f:Int)<(firsts.length:Int):=by omega
      cases hq:Q x s with
      | true=>
       rw[hq]at hcl hst
       rw[if_pos rfl]at hst
       have HE:Hid (firstP Q firsts s firsts.length=f):=HFP.out.trans hst
       clear hst hq
       go_wp2_with fail
       refine hcl.mono ?_
       rintro e w3 ⟨rfl,q',rfl⟩
       go_wp2
       go_meet
       case rel=>exact⟨q+q',by rw[HE.out],rfl⟩
      | false=>
       rw[hq]at hcl hst
       rw[if_neg (by decide)]at hst
       have HE:Hid (firstP Q firsts s firsts.length=firstP Q firsts s j):=HFP.out.trans hst
       clear hst hq
       go_wp2_with fail
       refine hcl.mono ?_
       rintro e w3 ⟨rfl,q',rfl⟩
       go_wp2
       go_roundg j
       case measure=>omega
       case rel=>exact⟨f+1,q+q',by go_num,by omega,rfl,HE.out⟩
     ·have e:gk=0:=by omega
      subst e
      have hd2:decide ((f:Int)<(firsts.length:Int))=false:=by simp;omega
      have HE:Hid (firstP Q firsts s firsts.length=f):=HFP.out.trans (by rw[firstP];omega)
      go_wp2
      go_meet
      case rel=>exact⟨q,by rw[HE.out],rfl⟩
   case rest=>
    obtain⟨q,rfl,rfl⟩:=hcut
    have HO1q:Hid ((wr.drewN q).ownsRow w.heap.size 3 1 (.slice (some ⟨w.heap.size,0,none⟩) fin.length n) fin.length (natC fin)):=HO1'.out
    have HO2q:Hid ((wr.drewN q).ownsRow (w.heap.size+1) 3 1 (.slice (some ⟨g2,0,none⟩) firsts.length c2) firsts.length (natC firsts)):=HO2'.out
    have HBq:Hid (Below w.heap.size w (wr.drewN q)):=⟨HB.out.os,HB.out.tape,HB.out.output,HB.out.size,HB.out.block⟩
    have hzq:w.heap.size<(wr.drewN q).heap.size:=hzr
    have hst:partL Q (d+1) s fin firsts=if firstP Q firsts s firsts.length=firsts.length then
     (if 100<firsts.length+1 then(fin,firsts++ [s])else partL Q d (s+1) (fin++ [firsts.length]) (firsts++ [s]))else partL Q d (s+1) (fin++ [firstP Q firsts s firsts.length]) firsts:=rfl
    have hfle:=firstP_le Q firsts s firsts.length
    clear HO1' HO2' HB HSr HPr HNr
    generalize wr.drewN q=wq at*
    generalize firstP Q firsts s firsts.length=fp at*
    by_cases hfe:fp=firsts.length
    ·rw[if_pos hfe]at hst
     have hd2:((fp:Int)==(firsts.length:Int))=true:=by rw[hfe];simp
     have hgb:=(HO2q.out.lt g2 rfl).1
     by_cases h100:100<firsts.length+1
     ·rw[if_pos h100]at hst
      have HE:Hid (partP n Q=(fin,firsts++ [s])):=HQ.out.trans hst
      have hd3:decide ((100:Int)<((firsts.length+1:Nat):Int))=true:=by simp;omega
      have hd3':decide ((100:Int)<(firsts.length:Int)+1)=true:=by simp;omega
      clear hst hfe
      go_wp2_with (first | (at_builtin;refine wpList_app1 wq rfl (.tmp 40) (.tmp 42) 30 rfl (w.heap.size+1) 3 (.int .i64 0) 1 8 Try.underlying30 Try.infoInt rfl (by decide) (by decide) (.slice (some ⟨g2,0,none⟩) firsts.length c2) firsts.length (natC firsts) [.int .i64 (s:Int)] _ rfl HO2q.out _ rfl rfl rfl (by simp[Value.oneCell']) (by omega) (by omega) ?_;intro g4 cap4 w4 hown4 hgrow4 hat4 hlt4;have HK4:=hidZ ((HO1q.out.alloc _).kept hgrow4 (.inr (fun e=>absurd (show w.heap.size=g2 by simpa[Value.ownBlock]using e) (by omega))));have HB4:Hid (Below w.heap.size w w4):=(HBq.out.alloc (Nat.le_of_lt hzq) _).grown hgrow4 (Nat.le_trans (Nat.le_of_lt hzq) (by simp)) (fun k hk=>Nat.le_trans (Nat.le_succ _) (HO2q.out.lt k hk).1);have HO4:=hidZ hown4;clear hown4 hgrow4 hat4))
      go_ret2
      refine⟨w.heap.size,n,g4,cap4, ?_, ?_, ?_, ?_,hlt4,Nat.le_refl _, ?_,HB4.out⟩
      ·rw[EQ.out,HE.out];simp
      ·rw[EQ.out,HE.out];exact NIn.of_row HK4.out
      ·rw[EQ.out,HE.out]
       refine NIn.of_row (base:=w.heap.size+1) (e:=3) (cap:=cap4) ?_
       rw[natC_snoc,List.length_append];exact HO4.out
      ·exact(HK4.out.lt _ rfl).2
      ·have:=(HO4.out.lt g4 rfl).1;omega
     ·rw[if_neg h100]at hst
      have HE:Hid (partP n Q=partL Q d (s+1) (fin++ [fp]) (firsts++ [s])):=by unfold Hid;rw[hfe];exact HQ.out.trans hst
      have hd3:decide ((100:Int)<((firsts.length+1:Nat):Int))=false:=by simp;omega
      have hd3':decide ((100:Int)<(firsts.length:Int)+1)=false:=by simp;omega
      clear hst hfe
      go_wp2_with (first | (at_builtin;refine wpList_app1 wq rfl (.tmp 40) (.tmp 42) 30 rfl (w.heap.size+1) 3 (.int .i64 0) 1 8 Try.underlying30 Try.infoInt rfl (by decide) (by decide) (.slice (some ⟨g2,0,none⟩) firsts.length c2) firsts.length (natC firsts) [.int .i64 (s:Int)] _ rfl HO2q.out _ rfl rfl rfl (by simp[Value.oneCell']) (by omega) (by omega) ?_;intro g4 cap4 w4 hown4 hgrow4 hat4 hlt4;have HK4:=hidZ ((HO1q.out.alloc _).kept hgrow4 (.inr (fun e=>absurd (show w.heap.size=g2 by simpa[Value.ownBlock]using e) (by omega))));have HB4:Hid (Below w.heap.size w w4):=(HBq.out.alloc (Nat.le_of_lt hzq) _).grown hgrow4 (Nat.le_trans (Nat.le_of_lt hzq) (by simp)) (fun k hk=>Nat.le_trans (Nat.le_succ _) (HO2q.out.lt k hk).1);have HO4:=hidZ hown4;clear hown4 hgrow4 hat4) | (at_builtin;refine wpList_fits1 w4 rfl (.tmp 47) (.tmp 49) 30 rfl w.heap.size 3 (.int .i64 0) 1 8 Try.underlying30 Try.infoInt w.heap.size fin.length n (natC fin) [.int .i64 (fp:Int)] _ rfl HK4.out _ rfl rfl rfl (by simp[Value.oneCell']) (by have:=HFL.out;omega) ?_;intro w6 hown6 hgrow6))
      go_roundg d
      case measure=>omega
      case rel=>
       have hz4:=(HK4.out.lt _ rfl).2
       refine⟨fin++ [fp],firsts++ [s],s+1,g4,cap4,by simp,by simp,by go_num,by omega,by have:=HFL.out;simp;omega,by simp;omega,fun x hx=> ?_,HE.out,by rw[natC_snoc,List.length_append];exact hown6, ?_, ?_⟩
       ·rcases List.mem_append.1 hx with h | h
        ·have:=HLT.out x h;omega
        ·rw[List.mem_singleton]at h;omega
       ·rw[natC_snoc,List.length_append]
        exact(HO4.out.alloc _).kept hgrow6 (.inr (by have:=(HO4.out.lt g4 rfl).1;simp[Value.ownBlock];omega))
       ·exact(HB4.out.alloc (Nat.le_of_lt hz4) _).grown hgrow6 (Nat.le_trans (Nat.le_of_lt hz4) (by simp)) (fun k hk=>by injection hk;omega)
    ·rw[if_neg hfe]at hst
     have HE:Hid (partP n Q=partL Q d (s+1) (fin++ [fp]) firsts):=HQ.out.trans hst
     have hd2:((fp:Int)==(firsts.length:Int))=false:=by rw[beq_eq_false_iff_ne];omega
     have hd3:decide ((100:Int)<(firsts.length:Int))=false:=by simp;omega
     clear hst hfe
     go_wp2_with (first | (at_builtin;refine wpList_fits1 wq rfl (.tmp 47) (.tmp 49) 30 rfl w.heap.size 3 (.int .i64 0) 1 8 Try.underlying30 Try.infoInt w.heap.size fin.length n (natC fin) [.int .i64 (fp:Int)] _ rfl HO1q.out _ rfl rfl rfl (by simp[Value.oneCell']) (by have:=HFL.out;omega) ?_;intro w6 hown6 hgrow6))
     go_roundg d
     case measure=>omega
     case rel=>
      refine⟨fin++ [fp],firsts,s+1,g2,c2,by simp,rfl,by go_num,by omega,by have:=HFL.out;simp;omega,hf100,fun x hx=>by have:=HLT.out x hx;omega,HE.out,by rw[natC_snoc,List.length_append];exact hown6, ?_, ?_⟩
      ·exact(HO2q.out.alloc _).kept hgrow6 (.inr (by have:=(HO2q.out.lt g2 rfl).1;simp[Value.ownBlock];omega))
      ·exact(HBq.out.alloc (Nat.le_of_lt hzq) _).grown hgrow6 (Nat.le_trans (Nat.le_of_lt hzq) (by simp)) (fun k hk=>by injection hk;omega)
  ·have e:gk=0:=by omega
   subst e
   have hd1:decide ((s:Int)<(n:Int))=false:=by simp;omega
   have HE:Hid (partP n Q=(fin,firsts)):=HQ.out
   go_wp2
   go_ret2
   refine⟨w.heap.size,n,g2,c2, ?_, ?_, ?_, ?_, ?_,Nat.le_refl _, ?_,HB.out⟩
   ·rw[EQ.out,HE.out];rfl
   ·rw[EQ.out,HE.out];exact NIn.of_row HO1'.out
   ·rw[EQ.out,HE.out];exact NIn.of_row HO2'.out
   ·exact hzr
   ·exact(HO2'.out.lt _ rfl).2
   ·have:=(HO2'.out.lt g2 rfl).1;omega
end Go.Proofs.Ytgjgjgihceijnaa

