/- Texts put together: RtRule, RtFileR. -/
import Derived.Test.YtgjgjgihceijnaaG30
namespace Go.Proofs.Ytgjgjgihceijnaa
open Go.RowKit Go.Stn
def condsG (x:ByteArray):Nat→(Nat→Bool)→Int→Nat→Option ((Nat→Bool)×Int)
 | 0,_,_,_=>none
 | n+1,f,last,i=>if x.size≤i then some (f,last)else if condR (bt x i)≤last then none else condsG x n (fun j=>if(j:Int)=condR (bt x i)then true else f j) (condR (bt x i)) (i+1)
def partsR (x0 x1 x2:ByteArray):Option ((Nat→Bool)×Int×Nat×Rx):=
 if x0.size=0∨x2.size≠1 then none else
 match condsG x0 (x0.size+1) zeroF (-1) 0 with
 | none=>none
 | some (f,last)=>if condR (bt x2 0)<0∧bt x2 0≠46∧bt x2 0≠45 then none else
  match stopX x1 (exprX x1 (x1.size+1)) 0 with
  | none=>none
  | some (r,a)=>if a=x1.size then some (f,last,bt x2 0,r)else none
def lineR (s:ByteArray):Option ((Nat→Bool)×Int×Nat×Rx):=
 match splitL s 32 with
 | [p0,p1,p2]=>partsR (s.extract p0.1 p0.2) (s.extract p1.1 p1.2) (s.extract p2.1 p2.2)
 | _=>none
def RuAt (s:ByteArray)(fb:Nat)(w:World)(O:Nat→Nat)(L:List NV)(rc:List Value)(nR pl cn:Nat)(x:Option ((Nat→Bool)×Int×Nat×Rx))(e:Ending)(w':World):Prop:=
 match x with
 | none=>∃O',e= .returned (.bool false)∧FK w O w' O'
 | some (f,last,c,r)=>∃(n g:Nat) (M:List NV) (vN' vR':Value) (O':Nat→Nat),e= .returned (.bool true)∧FN fb w' O' (L++M) vN' vR' (rc++RV.cells ⟨f,c,n,g⟩) (nR+1) (pl+r.np) (highN (highN cn last) (condR c))∧FK w O w' O'∧RvAt w' O' ⟨f,c,n,g⟩∧Stn.Sem (nvN (L++M)) n r∧OkN (L++M) (pl+r.np)∧M.length≤3*s.size
theorem RuAt.bad {s:ByteArray}{fb:Nat}{w w':World}{O O':Nat→Nat}{L:List NV}{rc:List Value}{nR pl cn:Nat}(h:FK w O w' O'):RuAt s fb w O L rc nR pl cn none (.returned (.bool false)) w':=⟨O',rfl,h⟩
theorem RuAt.good {s:ByteArray}{fb:Nat}{w w':World}{O O':Nat→Nat}{L M:List NV}{vN' vR':Value}{rc:List Value}{nR pl cn n g c:Nat}{f:Nat→Bool}{last:Int}{r:Rx}(h1:FN fb w' O' (L++M) vN' vR' (rc++RV.cells ⟨f,c,n,g⟩) (nR+1) (pl+r.np) (highN (highN cn last) (condR c)))(h2:FK w O w' O')(h3:RvAt w' O' ⟨f,c,n,g⟩)(h4:Stn.Sem (nvN (L++M)) n r)(h5:OkN (L++M) (pl+r.np))(h6:M.length≤3*s.size):
  RuAt s fb w O L rc nR pl cn (some (f,last,c,r)) (.returned (.bool true)) w':=⟨n,g,M,vN',vR',O',rfl,h1,h2,h3,h4,h5,h6⟩
theorem Try.infoBoolR:(Try.prog.info? 4).map (fun i=>(i.zero,i.size,i.bytes))=some (some (.bool false),1,1):=by kernel_rfl
theorem Try.make4 (X:World):(Instr.makeSlice 94 (.int .i64 4) (.int .i64 4)).run Try.prog X= .ok (.slice (some ⟨X.heap.size,0,none⟩) 4 4) (X.alloc (.cells #[.bool false,.bool false,.bool false,.bool false] 4)):=
 by
 have h:=run_make_row' (P:=Try.prog) 94 4 (.bool false) 1 Try.underlying94 Try.infoBoolR rfl .i64 .i64 4 (by omega) (by omega) X
 have e:madeCells #[Value.bool false] 4= #[.bool false,.bool false,.bool false,.bool false]:=by first | kernel_rfl | (simp[madeCells];done) | decide
 rw[e]at h
 exact h
attribute [local go_sem] Try.make4
attribute [local go_sem ↓] Go.wp_at_zero Go.wp_at_succ
theorem sub_size (s:ByteArray)(a b:Nat):(s.extract a b).size≤s.size:=by rw[ByteArray.size_extract];omega
structure RB (w1 wr:World)(rb gs:Nat)(f:Nat→Bool)(c:Nat)(n:Nat):Prop where
 c0:wr.cell? ⟨rb,0,none⟩=some (.slice (some ⟨gs,0,none⟩) 4 4)
 c1:wr.cell? ⟨rb,1,none⟩=some (.int .u8 (c:Int))
 c2:wr.cell? ⟨rb,2,none⟩=some (.int .i64 (n:Int))
 fz:∀i,wr.frozen? ⟨rb,i,none⟩=false
 ne:gs≠rb
 b1:w1.heap.size≤rb
 b2:rb<wr.heap.size
 b3:w1.heap.size≤gs
 b4:gs<wr.heap.size
 ba:BA wr gs 4 f
theorem new_BA (w:World)(B:Nat)(hB:w.heap.size=B):BA (w.alloc (.cells #[.bool false,.bool false,.bool false,.bool false] 4)) B 4 zeroF:=by
 subst hB
 refine⟨fun i hi=> ?_,fun i=>World.frozen?_alloc_at _ _ _ i rfl⟩
 rw[World.cell?_alloc_new]
 have h4:i=0∨i=1∨i=2∨i=3:=by omega
 rcases h4 with rfl | rfl | rfl | rfl<;> rfl
theorem BA.other {w w':World}{g n:Nat}{f:Nat→Bool}(h:BA w g n f)(e:w'.heap[g]? =w.heap[g]?):BA w' g n f:=
 ⟨fun i hi=>(World.cell?_of_block (w:=w) (a:=⟨g,i,none⟩) e).trans (h.c i hi),fun i=>(World.frozen?_of_block (w:=w) (a:=⟨g,i,none⟩) e).trans (h.f i)⟩
theorem RB.newA (w1:World)(c:Nat):RB w1 (((w1.alloc (.cells #[.bool false,.bool false,.bool false,.bool false] 4)).alloc (.cells #[.slice (some ⟨w1.heap.size,0,none⟩) 4 4,.int .u8 (c:Int),.int .i64 0] 178)).drewN 1) (w1.heap.size+1) w1.heap.size zeroF c 0∧Below w1.heap.size w1 (((w1.alloc (.cells #[.bool false,.bool false,.bool false,.bool false] 4)).alloc (.cells #[.slice (some ⟨w1.heap.size,0,none⟩) 4 4,.int .u8 (c:Int),.int .i64 0] 178)).drewN 1):=by
 have e1:(w1.alloc (.cells #[.bool false,.bool false,.bool false,.bool false] 4)).heap.size=w1.heap.size+1:=by simp
 have hz:(((w1.alloc (.cells #[.bool false,.bool false,.bool false,.bool false] 4)).alloc (.cells #[.slice (some ⟨w1.heap.size,0,none⟩) 4 4,.int .u8 (c:Int),.int .i64 0] 178)).drewN 1).heap.size=w1.heap.size+2:=by show((w1.alloc _).alloc _).heap.size=_;simp
 have hb:Below w1.heap.size w1 ((w1.alloc (.cells #[.bool false,.bool false,.bool false,.bool false] 4)).alloc (.cells #[.slice (some ⟨w1.heap.size,0,none⟩) 4 4,.int .u8 (c:Int),.int .i64 0] 178)):=((Below.refl _ _).alloc (Nat.le_refl _) _).alloc (by omega) _
 have hcell:∀i,(((w1.alloc (.cells #[.bool false,.bool false,.bool false,.bool false] 4)).alloc (.cells #[.slice (some ⟨w1.heap.size,0,none⟩) 4 4,.int .u8 (c:Int),.int .i64 0] 178)).drewN 1).cell? ⟨w1.heap.size+1,i,none⟩=(#[.slice (some ⟨w1.heap.size,0,none⟩) 4 4,.int .u8 (c:Int),.int .i64 0]:Array Value)[i]? :=fun i=>World.cell?_alloc_at _ _ _ i e1.symm
 refine⟨⟨hcell 0,hcell 1,hcell 2,fun i=> ?_,by omega,by omega,by omega,Nat.le_refl _,by omega, ?_⟩,⟨hb.os,hb.tape,hb.output,hb.size,hb.block⟩⟩
 ·exact World.frozen?_alloc_at _ _ _ i e1.symm
 ·exact(new_BA w1 _ rfl).other (Below.heap_alloc (w1.alloc _) _ _ (by omega))
theorem RB.newB (w1:World)(c:Nat):RB w1 (((w1.alloc (.cells #[.slice (some ⟨w1.heap.size+1,0,none⟩) 4 4,.int .u8 (c:Int),.int .i64 0] 178)).alloc (.cells #[.bool false,.bool false,.bool false,.bool false] 4)).drewN 1) w1.heap.size (w1.heap.size+1) zeroF c 0∧Below w1.heap.size w1 (((w1.alloc (.cells #[.slice (some ⟨w1.heap.size+1,0,none⟩) 4 4,.int .u8 (c:Int),.int .i64 0] 178)).alloc (.cells #[.bool false,.bool false,.bool false,.bool false] 4)).drewN 1):=by
 have e1:(w1.alloc (.cells #[.slice (some ⟨w1.heap.size+1,0,none⟩) 4 4,.int .u8 (c:Int),.int .i64 0] 178)).heap.size=w1.heap.size+1:=by simp
 have hz:(((w1.alloc (.cells #[.slice (some ⟨w1.heap.size+1,0,none⟩) 4 4,.int .u8 (c:Int),.int .i64 0] 178)).alloc (.cells #[.bool false,.bool false,.bool false,.bool false] 4)).drewN 1).heap.size=w1.heap.size+2:=by show((w1.alloc _).alloc _).heap.size=_;simp
 have hb:Below w1.heap.size w1 ((w1.alloc (.cells #[.slice (some ⟨w1.heap.size+1,0,none⟩) 4 4,.int .u8 (c:Int),.int .i64 0] 178)).alloc (.cells #[.bool false,.bool false,.bool false,.bool false] 4)):=((Below.refl _ _).alloc (Nat.le_refl _) _).alloc (by omega) _
 have ho:(((w1.alloc (.cells #[.slice (some ⟨w1.heap.size+1,0,none⟩) 4 4,.int .u8 (c:Int),.int .i64 0] 178)).alloc (.cells #[.bool false,.bool false,.bool false,.bool false] 4)).drewN 1).heap[w1.heap.size]? =(w1.alloc (.cells #[.slice (some ⟨w1.heap.size+1,0,none⟩) 4 4,.int .u8 (c:Int),.int .i64 0] 178)).heap[w1.heap.size]? :=Below.heap_alloc (w1.alloc _) _ _ (by omega)
 have hcell:∀i,(((w1.alloc (.cells #[.slice (some ⟨w1.heap.size+1,0,none⟩) 4 4,.int .u8 (c:Int),.int .i64 0] 178)).alloc (.cells #[.bool false,.bool false,.bool false,.bool false] 4)).drewN 1).cell? ⟨w1.heap.size,i,none⟩=(#[.slice (some ⟨w1.heap.size+1,0,none⟩) 4 4,.int .u8 (c:Int),.int .i64 0]:Array Value)[i]? :=fun i=>(World.cell?_of_block (a:=⟨w1.heap.size,i,none⟩) ho).trans (World.cell?_alloc_at _ _ _ i rfl)
 refine⟨⟨hcell 0,hcell 1,hcell 2,fun i=>(World.frozen?_of_block (a:=⟨w1.heap.size,i,none⟩) ho).trans (World.frozen?_alloc_at _ _ _ i rfl),by omega,Nat.le_refl _,by omega,by omega,by omega, ?_⟩,⟨hb.os,hb.tape,hb.output,hb.size,hb.block⟩⟩
 exact(new_BA _ _ e1).other rfl
theorem RB.set {w1 wr:World}{rb gs c n:Nat}{f:Nat→Bool}(h:RB w1 wr rb gs f c n)(k:Nat)(hk:k<4):RB w1 (wr.setCell ⟨gs,k,none⟩ (.bool true)) rb gs (fun j=>if j=k then true else f j) c n:=by
 have hB:=set_keep wr gs k (.bool true) (Ne.symm h.ne)
 have hz:(wr.setCell ⟨gs,k,none⟩ (.bool true)).heap.size=wr.heap.size:=by simp[World.setCell]
 have b2:=h.b2
 have b4:=h.b4
 exact⟨(World.cell?_of_block (w:=wr) (a:=⟨rb,0,none⟩) hB).trans h.c0,(World.cell?_of_block (w:=wr) (a:=⟨rb,1,none⟩) hB).trans h.c1,(World.cell?_of_block (w:=wr) (a:=⟨rb,2,none⟩) hB).trans h.c2,fun i=>(World.frozen?_of_block (w:=wr) (a:=⟨rb,i,none⟩) hB).trans (h.fz i),h.ne,h.b1,by omega,h.b3,by omega,h.ba.set hk true⟩
theorem RB.draw {w1 wr:World}{rb gs c n:Nat}{f:Nat→Bool}(h:RB w1 wr rb gs f c n)(q:Nat):RB w1 (wr.drewN q) rb gs f c n:=
 ⟨h.c0,h.c1,h.c2,h.fz,h.ne,h.b1,h.b2,h.b3,h.b4,⟨h.ba.c,h.ba.f⟩⟩
theorem RB.keepK {w1 wr w6:World}{O O6:Nat→Nat}{rb gs c n:Nat}{f:Nat→Bool}(h:RB w1 wr rb gs f c n)(hk:FK wr O w6 O6)(h1:O rb=0)(h2:O gs=0):RB w1 w6 rb gs f c n:=by
 have e1:=hk.block rb h.b2 (by omega) (by omega) (by omega)
 have e2:=hk.block gs h.b4 (by omega) (by omega) (by omega)
 have hz:=hk.size
 have b2:=h.b2
 have b4:=h.b4
 exact⟨(World.cell?_of_block (w:=wr) (a:=⟨rb,0,none⟩) e1).trans h.c0,(World.cell?_of_block (w:=wr) (a:=⟨rb,1,none⟩) e1).trans h.c1,(World.cell?_of_block (w:=wr) (a:=⟨rb,2,none⟩) e1).trans h.c2,fun i=>(World.frozen?_of_block (w:=wr) (a:=⟨rb,i,none⟩) e1).trans (h.fz i),h.ne,h.b1,by omega,h.b3,by omega,h.ba.other e2⟩
theorem RB.top {w w1 w9:World}{O O9:Nat→Nat}{fb nR pl cn:Nat}{L:List NV}{vN vR:Value}{rc:List Value}{rb gs c:Nat}{f:Nat→Bool}(h:RB w1 w9 rb gs f c 0)(hf:FN fb w9 O9 L vN vR rc nR pl cn)(hk:FK w O w9 O9)(hw:w.heap.size≤w1.heap.size)(h1:O9 rb=0)(h2:O9 gs=0)(n:Nat):
  FN fb (w9.setCell ⟨rb,2,none⟩ (.int .i64 (n:Int))) (fun k=>if k=gs then 4 else O9 k) L vN vR rc nR pl cn∧FK w O (w9.setCell ⟨rb,2,none⟩ (.int .i64 (n:Int))) (fun k=>if k=gs then 4 else O9 k)∧RB w1 (w9.setCell ⟨rb,2,none⟩ (.int .i64 (n:Int))) rb gs f c n∧RvAt (w9.setCell ⟨rb,2,none⟩ (.int .i64 (n:Int))) (fun k=>if k=gs then 4 else O9 k) ⟨f,c,n,gs⟩:=by
 have hz:(w9.setCell ⟨rb,2,none⟩ (.int .i64 (n:Int))).heap.size=w9.heap.size:=by simp[World.setCell]
 have hB:∀k,k≠rb→(w9.setCell ⟨rb,2,none⟩ (.int .i64 (n:Int))).heap[k]? =w9.heap[k]? :=fun k hk=>set_keep w9 rb 2 _ hk
 have hc:∀i,i≠2→(w9.setCell ⟨rb,2,none⟩ (.int .i64 (n:Int))).cell? ⟨rb,i,none⟩=w9.cell? ⟨rb,i,none⟩:=fun i hi=>World.cell?_setCell_other _ _ _ _ (by intro e1;injection e1;omega)
 have b1:=h.b1
 have b2:=h.b2
 have b3:=h.b3
 have b4:=h.b4
 have hs:=(Below.refl 0 w9).setCell (p:=⟨rb,2,none⟩) (Nat.zero_le _) (.int .i64 (n:Int))
 have ht:=hk.tag (g:=gs) (by omega)
 have hba:=h.ba.other (hB gs h.ne)
 refine⟨(hf.tag h2 b4).keep (by omega) (fun k hk h0=>⟨hB k (fun e=>h0 (by rw[e];show(if rb=gs then 4 else O9 rb)=0;rw[if_neg (Ne.symm h.ne)];exact h1)),rfl⟩) (fun k hk=>(hf.tag h2 b4).fr k (by omega)),
  ⟨hs.os.trans ht.os,hs.tape.trans ht.tape,hs.output.trans ht.output,by have:=ht.size;omega,fun k hk a1 a2 a3=>(hB k (by omega)).trans (ht.block k hk a1 a2 a3),ht.own⟩,
  ⟨(hc 0 (by omega)).trans h.c0,(hc 1 (by omega)).trans h.c1,World.cell?_setCell_same _ _ _ h.c2,fun i=>by rw[World.frozen?_setCell];exact h.fz i,h.ne,b1,by omega,b3,by omega,hba⟩,
  ⟨if_pos rfl,by show gs<_;omega,hba.c⟩⟩
theorem Try.infoRRule:(Try.prog.info? 178).map (fun i=>(i.zero,i.size,i.bytes))=some (some (.agg #[.slice none 0 0,.int .u8 0,.int .i64 0]),3,40):=by kernel_rfl
theorem condsG_done {x:ByteArray}{n i:Nat}{f:Nat→Bool}{last:Int}(h:x.size≤i):condsG x (n+1) f last i=some (f,last):=by
 show(if x.size≤i then _ else _)=_
 rw[if_pos h]
theorem condsG_bad {x:ByteArray}{n i:Nat}{f:Nat→Bool}{last:Int}(h:i<x.size)(hc:condR (bt x i)≤last):condsG x (n+1) f last i=none:=by
 show(if x.size≤i then _ else _)=_
 rw[if_neg (by omega),if_pos hc]
theorem condsG_more {x:ByteArray}{n i:Nat}{f:Nat→Bool}{last:Int}(h:i<x.size)(hc:¬condR (bt x i)≤last):condsG x (n+1) f last i=condsG x n (fun j=>if(j:Int)=condR (bt x i)then true else f j) (condR (bt x i)) (i+1):=by
 show(if x.size≤i then _ else _)=_
 rw[if_neg (by omega),if_neg hc]
theorem condR_in (c:Nat): -1≤condR c∧condR c≤3:=by unfold condR;split<;> omega
set_option maxRecDepth 100000 in
set_option maxHeartbeats 4000000 in
theorem rrule_any {s:ByteArray}{fb:Nat}{w:World}{O:Nat→Nat}{L:List NV}{vN vR:Value}{rc:List Value}{nR pl cn:Nat}(hs:s.size≤120)(h:FN fb w O L vN vR rc nR pl cn)(hok:OkN L pl)(hL:L.length+3*s.size≤5000)(hnR:nR≤1000):
  Calls Try.prog 78 #[.pointer (some ⟨fb,0,none⟩),.string s] w (RuAt s fb w O L rc nR pl cn (lineR s)):=by
 obtain⟨aR,qR,eR⟩:=rowSlice h.rr
 subst eR
 have HF:=hidZ h
 have HOK:=hidZ hok
 have HSP:=hidZ (fun W=>rsplit_any s 32 W (by omega))
 have HLN:Hid (lineR s=match splitL s 32 with
  | [p0,p1,p2]=>partsR (s.extract p0.1 p0.2) (s.extract p1.1 p1.2) (s.extract p2.1 p2.2)
  | _=>none):=rfl
 clear h hok
 go_enter Try.func78,Try.ntmps78
 go_upto_region 2 with fail
 refine(HSP.out _).mono ?_
 rintro e w1 ⟨g0,cap0,rfl,hb1,hg0,hg1,hcs⟩
 have HB1:=hidZ hb1
 have HCS:=hidZ hcs
 clear hb1 hcs HSP
 generalize splitL s 32=l at*
 by_cases h3:l.length=3
 ·obtain⟨p0,p1,p2,el⟩:∃p0 p1 p2,l= [p0,p1,p2]:=by
   match l,h3 with
   | [a,b,c],_=>exact⟨a,b,c,rfl⟩
  subst el
  have HL3:Hid (lineR s=partsR (s.extract p0.1 p0.2) (s.extract p1.1 p1.2) (s.extract p2.1 p2.2)):=HLN.out
  have x0:=HCS.out 0 p0.1 p0.2 rfl
  have x1:=HCS.out 1 p1.1 p1.2 rfl
  have x2:=HCS.out 2 p2.1 p2.2 rfl
  have z0:=sub_size s p0.1 p0.2
  have z1:=sub_size s p1.1 p1.2
  have z2:=sub_size s p2.1 p2.2
  generalize s.extract p0.1 p0.2=X0 at*
  generalize s.extract p1.1 p1.2=X1 at*
  generalize s.extract p2.1 p2.2=X2 at*
  clear HLN HCS h3
  by_cases k0:X0.size=0∨X2.size≠1
  ·have HE:Hid (lineR s=none):=by unfold Hid;rw[HL3.out];unfold partsR;rw[if_pos k0]
   by_cases k1:X0.size=0
   ·have d1:((X0.size:Int)==0)=true:=by rw[k1];rfl
    clear k0 k1
    go_wp2
    go_ret
    rw[HE.out]
    exact RuAt.bad (FK.of_below HB1.out O)
   ·have d1:((X0.size:Int)==0)=false:=by rw[beq_eq_false_iff_ne];omega
    have d2:((X2.size:Int) !=1)=true:=by rw[bne_iff_ne];omega
    clear k0 k1
    go_wp2
    go_ret
    rw[HE.out]
    exact RuAt.bad (FK.of_below HB1.out O)
  ·have k2:X2.size=1:=by omega
   have d1:((X0.size:Int)==0)=false:=by rw[beq_eq_false_iff_ne];omega
   have d2:((X2.size:Int) !=1)=false:=by rw[k2];rfl
   have hlt2:0<X2.size:=by omega
   have hc2:(X2[0]'hlt2).toNat=bt X2 0:=bt_eq X2 0 hlt2
   have hcl:=bt_lt X2 0
   have HK2:=hidZ k2
   clear k2
   go_upto_region 4 with fail
   obtain⟨c,hcc⟩:∃c,bt X2 0=c:=⟨_,rfl⟩
   rw[hcc]at hc2 hcl
   have HCC:=hidZ hcc
   clear hcc
   go_cut [6] from 33 to 38 (fun v wc=>∃(rb gs:Nat),v= .pointer (some ⟨rb,0,none⟩)∧RB w1 wc rb gs zeroF c 0∧Below w1.heap.size w1 wc)
   case first=>
    go_big_region
    all_goals
     go_wp2
     go_meet
     case rel=>first | exact⟨_,_,rfl,RB.newA w1 c⟩ | exact⟨_,_,rfl,RB.newB w1 c⟩
   case rest=>
    obtain⟨rb,gs,rfl,hrb,hbl⟩:=hcut
    have HRB0:=hidZ hrb
    have HBL0:=hidZ hbl
    clear hrb hbl x2 hc2
    go_wp2
    go_loopw [7,8] (fun y z wr=>∃(i:Nat) (f:Nat→Bool) (last:Int),i≤X0.size∧z= .int .i64 (i:Int)∧y= .int .i64 last∧ -1≤last∧last≤3∧Hid (condsG X0 (X0.size+1) zeroF (-1) 0=condsG X0 (X0.size+1 - i) f last i)∧RB w1 wr rb gs f c 0∧Below w1.heap.size w1 wr) (fun _ z _=>X0.size - (intOf z).toNat)
    case atStart=>exact⟨0,zeroF, -1,by omega,rfl,rfl,by omega,by omega,rfl,HRB0.out,HBL0.out⟩
    case round=>
     obtain⟨i,f,last,hi,rfl,rfl,hl1,hl2,HG,hrb,hbl⟩:=hrel
     have HRB:=hidZ hrb
     have HBL:=hidZ hbl
     have y0:wr.cell? ⟨g0,0,none⟩=some (.string X0):=(hbl.cell (p:=⟨g0,0,none⟩) hg1).trans x0
     clear HRB0 HBL0
     by_cases hlt:i<X0.size
     ·have hby:(X0[i]'hlt).toNat=bt X0 i:=bt_eq X0 i hlt
      have hbl':=bt_lt X0 i
      have hiI:(0:Int)≤(i:Int)∧(i:Int)<(X0.size:Int):=by omega
      have hcr:=condR_in (bt X0 i)
      obtain⟨m,hm⟩:∃m,X0.size+1 - i=m+1:=⟨X0.size - i,by omega⟩
      have HM2:Hid (X0.size+1 - (i+1)=m):=by unfold Hid;omega
      rw[hm]at HG
      clear hm hrb hbl
      have HRC:=hidZ (fun W=>rcondition_any (bt X0 i) W hbl')
      by_cases hle:condR (bt X0 i)≤last
      ·have HE:Hid (lineR s=none):=by
        unfold Hid
        rw[HL3.out]
        unfold partsR
        rw[if_neg k0,HG.out,condsG_bad hlt hle]
       have dle:decide (condR (bt X0 i)≤last)=true:=by simp;exact hle
       generalize condR (bt X0 i)=nn at*
       generalize bt X0 i=b at*
       clear HG HM2
       go_wp2_with fail
       refine(HRC.out _).mono ?_
       rintro e w5 ⟨rfl,q,hw5⟩
       have HB5:Hid (Below w.heap.size w w5):=by
        have hb:=HB1.out.trans (HBL.out.mono HB1.out.size)
        unfold Hid
        rw[hw5]
        exact⟨hb.os,hb.tape,hb.output,hb.size,hb.block⟩
       clear hw5
       go_wp2
       go_ret
       rw[HE.out]
       exact RuAt.bad (FK.of_below HB5.out O)
      ·obtain⟨k,hk⟩:∃k:Nat,condR (bt X0 i)=(k:Int):=⟨(condR (bt X0 i)).toNat,by omega⟩
       have hk4:k<4:=by omega
       have hkI:(0:Int)≤(k:Int)∧(k:Int)<4:=by omega
       have dle:decide ((k:Int)≤last)=false:=by simp;omega
       have HG3:Hid (condsG X0 (X0.size+1) zeroF (-1) 0=condsG X0 (X0.size+1 - (i+1)) (fun j=>if j=k then true else f j) (k:Int) (i+1)):=by
        unfold Hid
        rw[HG.out,condsG_more hlt hle,HM2.out,hk]
        congr 1
        funext j
        by_cases e:j=k
        ·rw[if_pos e,if_pos (by omega)]
        ·rw[if_neg e,if_neg (by omega)]
       rw[hk]at HRC
       clear HG HM2 hk hle hcr
       generalize bt X0 i=b at*
       go_wp2_with fail
       refine(HRC.out _).mono ?_
       rintro e w5 ⟨rfl,q,hw5⟩
       have HR5:Hid (RB w1 w5 rb gs f c 0):=by unfold Hid;rw[hw5];exact HRB.out.draw _
       have HB5:Hid (Below w1.heap.size w1 w5):=by
        have hb:=HBL.out
        unfold Hid
        rw[hw5]
        exact⟨hb.os,hb.tape,hb.output,hb.size,hb.block⟩
       have r0:=HR5.out.c0
       have r1:=HR5.out.ba.c k hk4
       have r2:=HR5.out.ba.f k
       clear hw5
       go_wp2
       go_roundw
       case rel=>exact⟨i+1,_,(k:Int),hlt,by go_num,rfl,by omega,by omega,HG3,HR5.out.set k hk4,HB5.out.setCell (p:=⟨gs,k,none⟩) HR5.out.b3 _⟩
       case measure=>simp[intOf];omega
     ·have HGS:Hid (condsG X0 (X0.size+1) zeroF (-1) 0=some (f,last)):=by
       unfold Hid
       rw[HG.out,show X0.size+1 - i=0+1 by omega]
       exact condsG_done (by omega)
      have dl:decide ((i:Int)<(X0.size:Int))=false:=by simp;omega
      have HFL:=hidZ (HF.out.below (HB1.out.trans (HBL.out.mono HB1.out.size)))
      have HKL:=hidZ (FK.of_below (HB1.out.trans (HBL.out.mono HB1.out.size)) O)
      have hzL:=HBL.out.size
      have hz1:=HB1.out.size
      have HOr:Hid (O rb=0∧O gs=0∧O g0=0):=⟨HF.out.fr rb (by have:=hrb.b1;omega),HF.out.fr gs (by have:=hrb.b3;omega),HF.out.fr g0 (by omega)⟩
      have y1:wr.cell? ⟨g0,1,none⟩=some (.string X1):=(hbl.cell (p:=⟨g0,1,none⟩) hg1).trans x1
      have HY1:=hidZ y1
      have hgL:g0<wr.heap.size:=by omega
      clear hrb hbl HG x0 x1 y1
      go_wp2_with fail
      refine(rhigher_any HFL.out last ⟨hl1,hl2⟩).mono ?_
      rintro e w6 ⟨rfl,hf6,hk6⟩
      have HF6:=hidZ hf6
      have HK6:=hidZ (HKL.out.trans hk6)
      have HR6:=hidZ (HRB.out.keepK hk6 HOr.out.1 HOr.out.2.1)
      have u1:=HR6.out.c1
      have HY6:Hid (w6.cell? ⟨g0,1,none⟩=some (.string X1)):=(World.cell?_of_block (w:=wr) (a:=⟨g0,1,none⟩) (hk6.block g0 hgL (by rw[HOr.out.2.2];omega) (by rw[HOr.out.2.2];omega) (by rw[HOr.out.2.2];omega))).trans HY1.out
      have hg6:g0<w6.heap.size:=Nat.lt_of_lt_of_le hgL hk6.size
      clear hf6 hk6 y0 HFL HKL HRB HY1
      go_wp2_with fail
      refine(rcondition_any c _ hcl).mono ?_
      rintro e w7 ⟨rfl,q7,hw7⟩
      have HF7:Hid (FN fb w7 O L vN (.slice aR nR qR) rc nR pl (highN cn last)):=by unfold Hid;rw[hw7];exact HF6.out.draw _
      have HK7:Hid (FK w O w7 O):=by
       have hb:=HK6.out
       unfold Hid
       rw[hw7]
       exact⟨hb.os,hb.tape,hb.output,hb.size,hb.block,hb.own⟩
      have HR7:Hid (RB w1 w7 rb gs f c 0):=by unfold Hid;rw[hw7];exact HR6.out.draw _
      have HY7:Hid (w7.cell? ⟨g0,1,none⟩=some (.string X1)):=by unfold Hid;rw[hw7];exact HY6.out
      have hg7:g0<w7.heap.size:=by rw[hw7];exact hg6
      have v1:=HR7.out.c1
      clear hw7 u1 HF6 HK6 HR6 HY6
      have hcr:=condR_in c
      by_cases kb:condR c<0∧c≠46∧c≠45
      ·have HE:Hid (lineR s=none):=by
        unfold Hid
        rw[HL3.out]
        unfold partsR
        rw[if_neg k0,HGS.out,HCC.out]
        simp only
        rw[if_pos kb]
       have t0:decide (condR c<0)=true:=by simp;omega
       have t1:((c:Int) !=46)=true:=by rw[bne_iff_ne];omega
       have t2:((c:Int) !=45)=true:=by rw[bne_iff_ne];omega
       clear kb
       generalize condR c=tt at*
       go_wp2
       go_ret
       rw[HE.out]
       exact RuAt.bad HK7.out
      ·have HL4:Hid (lineR s=match stopX X1 (exprX X1 (X1.size+1)) 0 with
        | none=>none
        | some (r,a)=>if a=X1.size then some (f,last,c,r)else none):=by
        unfold Hid
        rw[HL3.out]
        unfold partsR
        rw[if_neg k0,HGS.out,HCC.out]
        simp only
        rw[if_neg kb]
       have hX1:X1.size≤200:=by omega
       have HX:Hid (∀W,FN fb W O L vN (.slice aR nR qR) rc nR pl (highN (highN cn last) (condR c))→Calls Try.prog 106 #[.pointer (some ⟨fb,0,none⟩),.string X1,.int .i64 0] W (RdAt 0 fb W O L (.slice aR nR qR) rc nR pl (highN (highN cn last) (condR c)) 0 (stopX X1 (exprX X1 (X1.size+1)) 0))):=fun W hW=>rexpr_any hX1 (X1.size+1) fb W O L vN (.slice aR nR qR) rc nR pl _ 0 hW HOK.out (by omega) (by omega) (by omega)
       have HSB:=hidZ (fun r a=>stopX_b (exprX_b X1 (X1.size+1)) 0 r a)
       generalize stopX X1 (exprX X1 (X1.size+1)) 0=A at*
       obtain⟨tt,htt⟩:∃tt,condR c=tt:=⟨_,rfl⟩
       have hcr':=hcr
       rw[htt]at hcr' HX kb
       have HTT:=hidZ htt
       have hgood:(0≤tt)∨(tt<0∧c=46)∨(tt<0∧c≠46∧c=45):=by omega
       rw[htt]
       clear htt hcr kb HGS HL3
       have hd3:(decide (tt<0)=false)∨(decide (tt<0)=true∧((c:Int) !=46)=false)∨(decide (tt<0)=true∧((c:Int) !=46)=true∧((c:Int) !=45)=false):=by
        rcases hgood with e | ⟨e1,e2⟩ | ⟨e1,e2,e3⟩
        ·exact .inl (by simp;omega)
        ·exact .inr (.inl ⟨by simp;omega,by rw[e2];rfl⟩)
        ·exact .inr (.inr ⟨by simp;omega,by rw[bne_iff_ne];omega,by rw[e3];rfl⟩)
       clear hgood
       rcases hd3 with t0 | ⟨t0,t1⟩ | ⟨t0,t1,t2⟩
       all_goals
        go_wp2_with fail
        refine(rhigher_any HF7.out tt hcr').mono ?_
        rintro e w8 ⟨rfl,hf8,hk8⟩
        have HF8:=hidZ hf8
        have HK8:=hidZ (HK7.out.trans hk8)
        have HR8:=hidZ (HR7.out.keepK hk8 HOr.out.1 HOr.out.2.1)
        have y8:w8.cell? ⟨g0,1,none⟩=some (.string X1):=(World.cell?_of_block (w:=w7) (a:=⟨g0,1,none⟩) (hk8.block g0 hg7 (by rw[HOr.out.2.2];omega) (by rw[HOr.out.2.2];omega) (by rw[HOr.out.2.2];omega))).trans HY7.out
        have hg8:g0<w8.heap.size:=Nat.lt_of_lt_of_le hg7 hk8.size
        clear hf8 hk8 v1 HF7 HK7 HR7 HY7 hg7
        go_wp2_with fail
        refine(HX.out _ (HF8.out.below ⟨rfl,rfl,rfl,Nat.le_refl _,fun _ _=>rfl⟩)).mono ?_
        have y8':=hidZ y8
        cases A with
        | none=>
         have HE:=hidZ HL4.out
         rintro e w9 ⟨a,b,O9,rfl,hk9⟩
         have HK9:=hidZ (HK8.out.trans hk9)
         clear hk9 y8
         go_wp2
         go_ret
         rw[HE.out]
         exact RuAt.bad HK9.out
        | some q=>
         obtain⟨r,a⟩:=q
         rintro e w9 ⟨n,M,vN9,O9,rfl,hf9,hk9,hsm9,hok9,hM9⟩
         have hsb:=HSB.out r a rfl
         have HK9:=hidZ (HK8.out.trans hk9)
         have y9:w9.cell? ⟨g0,1,none⟩=some (.string X1):=(World.cell?_of_block (w:=w8) (a:=⟨g0,1,none⟩) (hk9.block g0 hg8 (by rw[HOr.out.2.2];omega) (by rw[HOr.out.2.2];omega) (by rw[HOr.out.2.2];omega))).trans y8'.out
         by_cases ha:a=X1.size
         ·have HE:Hid (lineR s=some (f,last,c,r)):=by unfold Hid;rw[HL4.out];simp only;rw[if_pos ha]
          have dn:((a:Int) !=(X1.size:Int))=false:=by rw[ha];simp
          have HR9:=hidZ (HR8.out.keepK hk9 HOr.out.1 HOr.out.2.1)
          have HTP:=hidZ (HR9.out.top hf9 HK9.out hz1 ((hk9.own rb HR8.out.b2).trans HOr.out.1) ((hk9.own gs HR8.out.b4).trans HOr.out.2.1) n)
          have q2:=HR9.out.c2
          have q2f:=HR9.out.fz 2
          have HSM:=hidZ hsm9
          have HO9:=hidZ hok9
          clear hf9 hk9 hsm9 hok9 ha y8 HF8 HK8 HR8
          go_upto_region 23 with fail
          clear q2 q2f y9
          generalize w9.setCell ⟨rb,2,none⟩ (.int .i64 (n:Int))=W at*
          have c1:=HTP.out.1.c1
          have f1:=HTP.out.1.fz 1
          have r0:=HTP.out.2.2.1.c0
          have r1:=HTP.out.2.2.1.c1
          have r2:=HTP.out.2.2.1.c2
          have hbW:fb<W.heap.size:=HTP.out.1.wt.2
          have HRN:=hidZ HTP.out.1.rr
          have HL0:Hid (∀k,(Value.slice aR nR qR).ownBlock=some k→fb+1≤k):=fun k hk=>(HRN.out.lt k hk).1
          go_region_law ((refine step_app1 W.drew rfl (.tmp 107) (.tmp 109) 124 rfl (fb+1) 178 (.agg #[.slice none 0 0,.int .u8 0,.int .i64 0]) 3 40 Try.underlying124 Try.infoRRule rfl (by decide) (by decide) (.slice aR nR qR) nR rc [.slice (some ⟨gs,0,none⟩) 4 4,.int .u8 (c:Int),.int .i64 (n:Int)] _ rfl HRN.out W.heap.size rfl rfl rfl (by simp[Value.oneCell']) (by omega) (by show fb+1≤W.heap.size;omega) ?_;intro g4 cap4 w4 hown4 hgrow4 hat4 hlt4;have m3:=((grow_cell hgrow4 (k:=fb) (by show fb<W.heap.size;omega) (fun e=>by have:=HL0.out fb e.symm;omega)).1 1).trans c1;have n3:=((grow_cell hgrow4 (k:=fb) (by show fb<W.heap.size;omega) (fun e=>by have:=HL0.out fb e.symm;omega)).2 1).trans f1;have HO4:=hidZ hown4;have HG4:=hidZ hgrow4;have HA4:=hidZ hat4;clear hown4 hgrow4 hat4))
          all_goals
           obtain⟨hf5,hk5⟩:=(HTP.out.1.draw 1).rule (xs:=RV.cells ⟨f,c,n,gs⟩) rfl rfl HO4.out HG4.out HA4.out
           have HD:Hid (FK W (fun k=>if k=gs then 4 else O9 k) (W.drewN 1) (fun k=>if k=gs then 4 else O9 k)):=FK.of_below (w:=W) (w':=W.drewN 1) ⟨rfl,rfl,rfl,Nat.le_refl _,fun _ _=>rfl⟩ _
           have HF5:=hidZ hf5
           have HK5:=hidZ (HTP.out.2.1.trans (HD.out.trans hk5))
           have HV5:=hidZ (HTP.out.2.2.2.keep (HD.out.trans hk5))
           clear hf5 hk5 c1 f1 r0 r1 r2 m3 n3
           generalize w4.setCell ⟨fb,1,none⟩ (.slice (some ⟨g4,0,none⟩) (nR+1) cap4)=W5 at*
           go_wp2
           go_ret
           rw[HE.out]
           exact RuAt.good (by rw[HTT.out];exact HF5.out) HK5.out HV5.out HSM.out HO9.out (by omega)
         ·have HE:Hid (lineR s=none):=by unfold Hid;rw[HL4.out];simp only;rw[if_neg ha]
          have dn:((a:Int) !=(X1.size:Int))=true:=by rw[bne_iff_ne];omega
          clear hf9 hk9 hsm9 hok9 ha y8
          go_wp2
          go_ret
          rw[HE.out]
          exact RuAt.bad HK9.out
 ·have HE:Hid (lineR s=none):=by
   unfold Hid
   rw[HLN.out]
   split
   ·exact absurd rfl h3
   ·rfl
  have d1:((l.length:Int) !=3)=true:=by rw[bne_iff_ne];omega
  clear HLN
  go_wp2
  go_ret
  rw[HE.out]
  exact RuAt.bad (FK.of_below HB1.out O)
end Go.Proofs.Ytgjgjgihceijnaa

namespace Go.Proofs.Ytgjgjgihceijnaa
open Go.RowKit Go.Stn
abbrev LineT:=(Nat→Bool)×Int×Nat×Rx
def lnR (s:ByteArray):List (Nat×Nat)→Option (List LineT)
 | []=>some []
 | p::ps=>match lineR (s.extract p.1 p.2)with
  | none=>none
  | some x=>match lnR s ps with
   | none=>none
   | some l=>some (x::l)
theorem lnR_snoc {s:ByteArray}:∀{ps:List (Nat×Nat)} {l:List LineT} {p:Nat×Nat} {x:LineT},lnR s ps=some l→lineR (s.extract p.1 p.2)=some x→lnR s (ps++ [p])=some (l++ [x])
 | [],l,p,x,h,hx=>by
  injection h with h
  subst h
  show lnR s [p]=_
  unfold lnR
  rw[hx]
  rfl
 | q::ps,l,p,x,h,hx=>by
  unfold lnR at h
  show lnR s (q::(ps++ [p]))=_
  unfold lnR
  cases e:lineR (s.extract q.1 q.2)with
  | none=>rw[e]at h;cases h
  | some y=>
   rw[e]at h
   simp only at h ⊢
   cases e2:lnR s ps with
   | none=>rw[e2]at h;cases h
   | some l2=>
    rw[e2]at h
    rw[lnR_snoc e2 hx]
    injection h with h
    subst h
    rfl
theorem lnR_bad {s:ByteArray}:∀{ps:List (Nat×Nat)} {p:Nat×Nat},p∈ps→lineR (s.extract p.1 p.2)=none→lnR s ps=none
 | q::ps,p,hm,hx=>by
  unfold lnR
  rcases List.mem_cons.1 hm with e | e
  ·rw[←e,hx]
  ·cases lineR (s.extract q.1 q.2)with
   | none=>rfl
   | some y=>simp only;rw[lnR_bad e hx]
def npS:List LineT→Nat
 | []=>0
 | x::l=>x.2.2.2.np+npS l
theorem npS_snoc:∀(l:List LineT) (x:LineT),npS (l++ [x])=npS l+x.2.2.2.np
 | [],x=>by simp[npS]
 | y::l,x=>by show y.2.2.2.np+npS (l++ [x])=_;rw[npS_snoc l x];show _=y.2.2.2.np+npS l+x.2.2.2.np;omega
def cnS (l:List LineT):Nat:=l.foldl (fun c x=>highN (highN c x.2.1) (condR x.2.2.1)) 0
theorem cnS_snoc (l:List LineT)(x:LineT):cnS (l++ [x])=highN (highN (cnS l) x.2.1) (condR x.2.2.1):=by unfold cnS;rw[List.foldl_append];rfl
def RuM (w:World)(O:Nat→Nat)(N:List RN)(R:List RV)(ls:List LineT):Prop:=
 R.length=ls.length∧∀(j:Nat) (x:RV) (y:LineT),R[j]? =some x→ls[j]? =some y→RvAt w O x∧x.f=y.1∧x.c=y.2.2.1∧Stn.Sem N x.n y.2.2.2
theorem RuM.nil (w:World)(O:Nat→Nat)(N:List RN):RuM w O N [] []:=⟨rfl,fun j x y h=>by simp at h⟩
theorem RuM.snoc {w w':World}{O O':Nat→Nat}{N:List RN}{M:List RN}{R:List RV}{ls:List LineT}(h:RuM w O N R ls)(hc:ClosedN N)(hk:FK w O w' O'){x:RV}{y:LineT}(hx:RvAt w' O' x)(h1:x.f=y.1)(h2:x.c=y.2.2.1)(h3:Stn.Sem (N++M) x.n y.2.2.2):RuM w' O' (N++M) (R++ [x]) (ls++ [y]):=by
 have hl:=h.1
 refine⟨by simp[hl],fun j a b ha hb=> ?_⟩
 by_cases hj:j<R.length
 ·rw[List.getElem?_append_left hj]at ha
  rw[List.getElem?_append_left (by omega)]at hb
  obtain⟨k1,k2,k3,k4⟩:=h.2 j a b ha hb
  exact⟨k1.keep hk,k2,k3,k4.more hc M⟩
 ·have hlt:=(List.getElem?_eq_some_iff.1 ha).1
  rw[List.length_append,List.length_singleton]at hlt
  have e:j=R.length:=by omega
  subst e
  rw[List.getElem?_append_right (Nat.le_refl _),Nat.sub_self]at ha
  rw[hl,List.getElem?_append_right (Nat.le_refl _),Nat.sub_self]at hb
  have ea:x=a:=by simpa using ha
  have eb:y=b:=by simpa using hb
  subst ea eb
  exact⟨hx,h1,h2,h3⟩
theorem FN.start (w:World):FN w.heap.size (w.alloc (.cells #[.slice none 0 0,.slice none 0 0,.int .i64 0,.int .i64 0] 126)) (fun k=>if k=w.heap.size then 1 else 0) [] (.slice none 0 0) (.slice none 0 0) [] 0 0 0:=by
 have hz:(w.alloc (.cells #[.slice none 0 0,.slice none 0 0,.int .i64 0,.int .i64 0] 126)).heap.size=w.heap.size+1:=by simp
 have hc:∀i,(w.alloc (.cells #[.slice none 0 0,.slice none 0 0,.int .i64 0,.int .i64 0] 126)).cell? ⟨w.heap.size,i,none⟩=(#[.slice none 0 0,.slice none 0 0,.int .i64 0,.int .i64 0]:Array Value)[i]? :=fun i=>World.cell?_alloc_at _ _ _ i rfl
 exact⟨hc 0,hc 1,hc 2,hc 3,fun i=>World.frozen?_alloc_at _ _ _ i rfl,⟨if_pos rfl,by omega⟩,World.ownsRow_nil _ _ _ 3,World.ownsRow_nil _ _ _ 3,fun k e=>(by cases e),fun k e=>(by cases e),fun t ht=>absurd ht List.not_mem_nil,fun n x hx=>by simp[nvN]at hx,fun k hk=>if_neg (by omega)⟩
def readR (s:ByteArray):Option (List LineT)×Nat:=
 if 120<s.size then(none,1)else
 if 8<(splitL s 10).length then(none,2)else
 match lnR s (splitL s 10)with
 | none=>(none,2)
 | some l=>if 10<npS l then(none,3)else(some l,0)
def ReadAt (s:ByteArray)(w:World)(e:Ending)(w':World):Prop:=
 Below w.heap.size w w'∧match readR s with
  | (none,c)=>e= .returned (.tuple #[.pointer none,.int .i64 (c:Int)])
  | (some l,_)=>∃(fb:Nat) (O:Nat→Nat) (L:List NV) (vN vR:Value) (R:List RV),e= .returned (.tuple #[.pointer (some ⟨fb,0,none⟩),.int .i64 0])∧w.heap.size≤fb∧FN fb w' O L vN vR (rvC R) R.length (npS l) (cnS l)∧OkN L (npS l)∧RuM w' O (nvN L) R l∧L.length≤3000
end Go.Proofs.Ytgjgjgihceijnaa

