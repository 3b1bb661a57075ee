import Derived.Test.YtgjgjgihceijnaaGreatG35
open Go.World renaming cell?_of_block->aL,frozen?_alloc_at->aO,frozen?_of_block->aT,cell?_alloc_at->a9,ownsRow_nil->bO,setCell->cF
open Nat renaming le_refl->bC,lt_of_lt_of_le->bN,sub_self->cL
open List renaming getElem?_append_right->bK,getElem?_append_left->bM
open Go.RowKit.Below renaming heap_alloc->bS,refl->bT
set_option maxRecDepth 100000
set_option maxHeartbeats 8000000
namespace Go.Proofs.YtgjgjgihceijnaaGreat
open Go.RowKit Go.Stn
def iG (x:ByteArray):Nat->(Nat->Bool)->Int->Nat->Option ((Nat->Bool)×Int)
 | 0,_,_,_=>none
 | n+1,f,last,i=>if x.size<=i then some (f,last)else if cH (bt x i)<=last then none else iG x n (fun j=>if(j:Int)=cH (bt x i)then true else f j) (cH (bt x i)) (i+1)
def sF (x0 x1 x2:ByteArray):Option ((Nat->Bool)×Int×Nat×Rx):=
 if x0.size=0\/x2.size≠1 then none else
 match iG x0 (x0.size+1) aP (-1) 0 with
 | none=>none
 | some (f,last)=>if cH (bt x2 0)<0/\bt x2 0≠46/\bt x2 0≠45 then none else
  match kL x1 (dS x1 (x1.size+1)) 0 with
  | none=>none
  | some (r,a)=>if a=x1.size then some (f,last,bt x2 0,r)else none
def iI (s:ByteArray):Option ((Nat->Bool)×Int×Nat×Rx):=
 match fC s 32 with
 | [p0,p1,p2]=>sF (s.extract p0.1 p0.2) (s.extract p1.1 p1.2) (s.extract p2.1 p2.2)
 | _=>none
def yO (s:ByteArray)(fb:Nat)(w:World)(O:Nat->Nat)(L:List NV)(rc:List Value)(nR pl cn:Nat)(x:Option ((Nat->Bool)×Int×Nat×Rx))(e:Ending)(w':World):Prop:=
 match x with
 | none=>∃O',e= .returned (.bool false)/\FK w O w' O'
 | some (f,last,c,r)=>∃(n g:Nat) (M:List NV) (vN' vR':Value) (O':Nat->Nat),e= .returned (.bool true)/\FN fb w' O' (L++M) vN' vR' (rc++RV.cells ⟨f,c,n,g⟩) (nR+1) (pl+r.np) (jR (jR cn last) (cH c))/\FK w O w' O'/\Bv w' O' ⟨f,c,n,g⟩/\Stn.Sem (nvN (L++M)) n r/\OkN (L++M) (pl+r.np)/\M.length<=3*s.size
theorem yO.bad {s:ByteArray}{fb:Nat}{w w':World}{O O':Nat->Nat}{L:List NV}{rc:List Value}{nR pl cn:Nat}(h:FK w O w' O'):yO s fb w O L rc nR pl cn none (.returned (.bool false)) w':=⟨O',rfl,h⟩
theorem yO.good {s:ByteArray}{fb:Nat}{w w':World}{O O':Nat->Nat}{L M:List NV}{vN' vR':Value}{rc:List Value}{nR pl cn n g c:Nat}{f:Nat->Bool}{last:Int}{r:Rx}(h1:FN fb w' O' (L++M) vN' vR' (rc++RV.cells ⟨f,c,n,g⟩) (nR+1) (pl+r.np) (jR (jR cn last) (cH c)))(h2:FK w O w' O')(h3:Bv w' O' ⟨f,c,n,g⟩)(h4:Stn.Sem (nvN (L++M)) n r)(h5:OkN (L++M) (pl+r.np))(h6:M.length<=3*s.size):
  yO s fb w O L rc nR pl cn (some (f,last,c,r)) (.returned (.bool true)) w':=⟨n,g,M,vN',vR',O',rfl,h1,h2,h3,h4,h5,h6⟩
theorem Tryz.infoBoolR:(Tryz.prog.info? 4).map (fun i=>(i.zero,i.size,i.bytes))=some (some (.bool false),1,1):=by kernel_rfl
theorem Tryz.make4 (X:World):(Instr.makeSlice 80 (.int .i64 4) (.int .i64 4)).run Tryz.prog X= .ok (.slice (some ⟨X.heap.size,0,none⟩) 4 4) (X.alloc (.cells #[.bool false,.bool false,.bool false,.bool false] 4)):=
 by
 have h:=run_make_row' (P:=Tryz.prog) 80 4 (.bool false) 1 Tryz.underlying80 Tryz.infoBoolR rfl .i64 .i64 4 (by omega) (by omega) X;have e:madeCells #[Value.bool false] 4= #[.bool false,.bool false,.bool false,.bool false]:=by first | kernel_rfl | (simp[madeCells];done) | decide
 rw[e]at h;exact h
attribute [local go_sem] Tryz.make4
attribute [local go_sem ↓] Go.wp_at_zero Go.wp_at_succ
theorem yB (s:ByteArray)(a b:Nat):(s.extract a b).size<=s.size:=by rw[ByteArray.size_extract];omega
structure RB (w1 wr:World)(rb gs:Nat)(f:Nat->Bool)(c:Nat)(n:Nat):Prop where
 c0:wr.cell? ⟨rb,0,none⟩=some (.slice (some ⟨gs,0,none⟩) 4 4)
 c1:wr.cell? ⟨rb,1,none⟩=some (.int .u8 (c:Int))
 c2:wr.cell? ⟨rb,2,none⟩=some (.int .i64 (n:Int))
 fz:∀i,wr.frozen? ⟨rb,i,none⟩=false
 ne:gs≠rb
 b1:w1.heap.size<=rb
 b2:rb<wr.heap.size
 b3:w1.heap.size<=gs
 b4:gs<wr.heap.size
 ba:BA wr gs 4 f
theorem Nw (w:World)(B:Nat)(hB:w.heap.size=B):BA (w.alloc (.cells #[.bool false,.bool false,.bool false,.bool false] 4)) B 4 aP:=by
 subst hB;refine⟨fun i hi=> ?_,fun i=>aO _ _ _ i rfl⟩;rw[World.cell?_alloc_new];have h4:i=0\/i=1\/i=2\/i=3:=by omega
 rcases h4 with rfl | rfl | rfl | rfl<;> rfl
theorem BA.other {w w':World}{g n:Nat}{f:Nat->Bool}(h:BA w g n f)(e:w'.heap[g]? =w.heap[g]?):BA w' g n f:=
 ⟨fun i hi=>(aL (w:=w) (a:=⟨g,i,none⟩) e).trans (h.c i hi),fun i=>(aT (w:=w) (a:=⟨g,i,none⟩) e).trans (h.f i)⟩
theorem RB.newA (w1:World)(c:Nat):RB w1 (((w1.alloc (.cells #[.bool false,.bool false,.bool false,.bool false] 4)).alloc (.cells #[.slice (some ⟨w1.heap.size,0,none⟩) 4 4,.int .u8 (c:Int),.int .i64 0] 82)).drewN 1) (w1.heap.size+1) w1.heap.size aP c 0/\Below w1.heap.size w1 (((w1.alloc (.cells #[.bool false,.bool false,.bool false,.bool false] 4)).alloc (.cells #[.slice (some ⟨w1.heap.size,0,none⟩) 4 4,.int .u8 (c:Int),.int .i64 0] 82)).drewN 1):=by
 have e1:(w1.alloc (.cells #[.bool false,.bool false,.bool false,.bool false] 4)).heap.size=w1.heap.size+1:=by simp
 have hz:(((w1.alloc (.cells #[.bool false,.bool false,.bool false,.bool false] 4)).alloc (.cells #[.slice (some ⟨w1.heap.size,0,none⟩) 4 4,.int .u8 (c:Int),.int .i64 0] 82)).drewN 1).heap.size=w1.heap.size+2:=by show((w1.alloc _).alloc _).heap.size=_;simp
 have hb:Below w1.heap.size w1 ((w1.alloc (.cells #[.bool false,.bool false,.bool false,.bool false] 4)).alloc (.cells #[.slice (some ⟨w1.heap.size,0,none⟩) 4 4,.int .u8 (c:Int),.int .i64 0] 82)):=((bT _ _).alloc (bC _) _).alloc (by omega) _;have hcell:∀i,(((w1.alloc (.cells #[.bool false,.bool false,.bool false,.bool false] 4)).alloc (.cells #[.slice (some ⟨w1.heap.size,0,none⟩) 4 4,.int .u8 (c:Int),.int .i64 0] 82)).drewN 1).cell? ⟨w1.heap.size+1,i,none⟩=(#[.slice (some ⟨w1.heap.size,0,none⟩) 4 4,.int .u8 (c:Int),.int .i64 0]:Array Value)[i]? :=fun i=>a9 _ _ _ i e1.symm
 refine⟨⟨hcell 0,hcell 1,hcell 2,fun i=> ?_,by omega,by omega,by omega,bC _,by omega, ?_⟩,⟨hb.os,hb.tape,hb.output,hb.size,hb.block⟩⟩
 ·exact aO _ _ _ i e1.symm
 ·exact(Nw w1 _ rfl).other (bS (w1.alloc _) _ _ (by omega))
theorem RB.newB (w1:World)(c:Nat):RB w1 (((w1.alloc (.cells #[.slice (some ⟨w1.heap.size+1,0,none⟩) 4 4,.int .u8 (c:Int),.int .i64 0] 82)).alloc (.cells #[.bool false,.bool false,.bool false,.bool false] 4)).drewN 1) w1.heap.size (w1.heap.size+1) aP c 0/\Below w1.heap.size w1 (((w1.alloc (.cells #[.slice (some ⟨w1.heap.size+1,0,none⟩) 4 4,.int .u8 (c:Int),.int .i64 0] 82)).alloc (.cells #[.bool false,.bool false,.bool false,.bool false] 4)).drewN 1):=by
 have e1:(w1.alloc (.cells #[.slice (some ⟨w1.heap.size+1,0,none⟩) 4 4,.int .u8 (c:Int),.int .i64 0] 82)).heap.size=w1.heap.size+1:=by simp
 have hz:(((w1.alloc (.cells #[.slice (some ⟨w1.heap.size+1,0,none⟩) 4 4,.int .u8 (c:Int),.int .i64 0] 82)).alloc (.cells #[.bool false,.bool false,.bool false,.bool false] 4)).drewN 1).heap.size=w1.heap.size+2:=by show((w1.alloc _).alloc _).heap.size=_;simp
 have hb:Below w1.heap.size w1 ((w1.alloc (.cells #[.slice (some ⟨w1.heap.size+1,0,none⟩) 4 4,.int .u8 (c:Int),.int .i64 0] 82)).alloc (.cells #[.bool false,.bool false,.bool false,.bool false] 4)):=((bT _ _).alloc (bC _) _).alloc (by omega) _;have ho:(((w1.alloc (.cells #[.slice (some ⟨w1.heap.size+1,0,none⟩) 4 4,.int .u8 (c:Int),.int .i64 0] 82)).alloc (.cells #[.bool false,.bool false,.bool false,.bool false] 4)).drewN 1).heap[w1.heap.size]? =(w1.alloc (.cells #[.slice (some ⟨w1.heap.size+1,0,none⟩) 4 4,.int .u8 (c:Int),.int .i64 0] 82)).heap[w1.heap.size]? :=bS (w1.alloc _) _ _ (by omega);have hcell:∀i,(((w1.alloc (.cells #[.slice (some ⟨w1.heap.size+1,0,none⟩) 4 4,.int .u8 (c:Int),.int .i64 0] 82)).alloc (.cells #[.bool false,.bool false,.bool false,.bool false] 4)).drewN 1).cell? ⟨w1.heap.size,i,none⟩=(#[.slice (some ⟨w1.heap.size+1,0,none⟩) 4 4,.int .u8 (c:Int),.int .i64 0]:Array Value)[i]? :=fun i=>(aL (a:=⟨w1.heap.size,i,none⟩) ho).trans (a9 _ _ _ i rfl)
 refine⟨⟨hcell 0,hcell 1,hcell 2,fun i=>(aT (a:=⟨w1.heap.size,i,none⟩) ho).trans (aO _ _ _ i rfl),by omega,bC _,by omega,by omega,by omega, ?_⟩,⟨hb.os,hb.tape,hb.output,hb.size,hb.block⟩⟩;exact(Nw _ _ e1).other rfl
theorem RB.set {w1 wr:World}{rb gs c n:Nat}{f:Nat->Bool}(h:RB w1 wr rb gs f c n)(k:Nat)(hk:k<4):RB w1 (wr.setCell ⟨gs,k,none⟩ (.bool true)) rb gs (fun j=>if j=k then true else f j) c n:=by
 have hB:=cB wr gs k (.bool true) (Ne.symm h.ne);have hz:(wr.setCell ⟨gs,k,none⟩ (.bool true)).heap.size=wr.heap.size:=by simp[cF]
 have b2:=h.b2;have b4:=h.b4;exact⟨(aL (w:=wr) (a:=⟨rb,0,none⟩) hB).trans h.c0,(aL (w:=wr) (a:=⟨rb,1,none⟩) hB).trans h.c1,(aL (w:=wr) (a:=⟨rb,2,none⟩) hB).trans h.c2,fun i=>(aT (w:=wr) (a:=⟨rb,i,none⟩) hB).trans (h.fz i),h.ne,h.b1,by omega,h.b3,by omega,h.ba.set hk true⟩
theorem RB.draw {w1 wr:World}{rb gs c n:Nat}{f:Nat->Bool}(h:RB w1 wr rb gs f c n)(q:Nat):RB w1 (wr.drewN q) rb gs f c n:=
 ⟨h.c0,h.c1,h.c2,h.fz,h.ne,h.b1,h.b2,h.b3,h.b4,⟨h.ba.c,h.ba.f⟩⟩
theorem RB.keepK {w1 wr w6:World}{O O6:Nat->Nat}{rb gs c n:Nat}{f:Nat->Bool}(h:RB w1 wr rb gs f c n)(hk:FK wr O w6 O6)(h1:O rb=0)(h2:O gs=0):RB w1 w6 rb gs f c n:=by
 have e1:=hk.block rb h.b2 (by omega) (by omega) (by omega);have e2:=hk.block gs h.b4 (by omega) (by omega) (by omega);have hz:=hk.size;have b2:=h.b2;have b4:=h.b4;exact⟨(aL (w:=wr) (a:=⟨rb,0,none⟩) e1).trans h.c0,(aL (w:=wr) (a:=⟨rb,1,none⟩) e1).trans h.c1,(aL (w:=wr) (a:=⟨rb,2,none⟩) e1).trans h.c2,fun i=>(aT (w:=wr) (a:=⟨rb,i,none⟩) e1).trans (h.fz i),h.ne,h.b1,by omega,h.b3,by omega,h.ba.other e2⟩
theorem RB.top {w w1 w9:World}{O O9:Nat->Nat}{fb nR pl cn:Nat}{L:List NV}{vN vR:Value}{rc:List Value}{rb gs c:Nat}{f:Nat->Bool}(h:RB w1 w9 rb gs f c 0)(hf:FN fb w9 O9 L vN vR rc nR pl cn)(hk:FK w O w9 O9)(hw:w.heap.size<=w1.heap.size)(h1:O9 rb=0)(h2:O9 gs=0)(n:Nat):
  FN fb (w9.setCell ⟨rb,2,none⟩ (.int .i64 (n:Int))) (fun k=>if k=gs then 4 else O9 k) L vN vR rc nR pl cn/\FK w O (w9.setCell ⟨rb,2,none⟩ (.int .i64 (n:Int))) (fun k=>if k=gs then 4 else O9 k)/\RB w1 (w9.setCell ⟨rb,2,none⟩ (.int .i64 (n:Int))) rb gs f c n/\Bv (w9.setCell ⟨rb,2,none⟩ (.int .i64 (n:Int))) (fun k=>if k=gs then 4 else O9 k) ⟨f,c,n,gs⟩:=by
 have hz:(w9.setCell ⟨rb,2,none⟩ (.int .i64 (n:Int))).heap.size=w9.heap.size:=by simp[cF]
 have hB:∀k,k≠rb->(w9.setCell ⟨rb,2,none⟩ (.int .i64 (n:Int))).heap[k]? =w9.heap[k]? :=fun k hk=>cB w9 rb 2 _ hk
 have hc:∀i,i≠2->(w9.setCell ⟨rb,2,none⟩ (.int .i64 (n:Int))).cell? ⟨rb,i,none⟩=w9.cell? ⟨rb,i,none⟩:=fun i hi=>World.cell?_setCell_other _ _ _ _ (by intro e1;injection e1;omega)
 have b1:=h.b1;have b2:=h.b2;have b3:=h.b3;have b4:=h.b4;have hs:=(bT 0 w9).setCell (p:=⟨rb,2,none⟩) (Nat.zero_le _) (.int .i64 (n:Int));have ht:=hk.tag (g:=gs) (by omega);have hba:=h.ba.other (hB gs h.ne);refine⟨(hf.tag h2 b4).keep (by omega) (fun k hk h0=>⟨hB k (fun e=>h0 (by rw[e];show(if rb=gs then 4 else O9 rb)=0;rw[if_neg (Ne.symm h.ne)];exact h1)),rfl⟩) (fun k hk=>(hf.tag h2 b4).fr k (by omega)),
  ⟨hs.os.trans ht.os,hs.tape.trans ht.tape,hs.output.trans ht.output,by have:=ht.size;omega,fun k hk a1 a2 a3=>(hB k (by omega)).trans (ht.block k hk a1 a2 a3),ht.own⟩,
  ⟨(hc 0 (by omega)).trans h.c0,(hc 1 (by omega)).trans h.c1,World.cell?_setCell_same _ _ _ h.c2,fun i=>by rw[World.frozen?_setCell];exact h.fz i,h.ne,b1,by omega,b3,by omega,hba⟩,
  ⟨if_pos rfl,by show gs<_;omega,hba.c⟩⟩
theorem Tryz.infoRRule:(Tryz.prog.info? 82).map (fun i=>(i.zero,i.size,i.bytes))=some (some (.agg #[.slice none 0 0,.int .u8 0,.int .i64 0]),3,40):=by kernel_rfl
theorem tN {x:ByteArray}{n i:Nat}{f:Nat->Bool}{last:Int}(h:x.size<=i):iG x (n+1) f last i=some (f,last):=by
 show(if x.size<=i then _ else _)=_;rw[if_pos h]
theorem sD {x:ByteArray}{n i:Nat}{f:Nat->Bool}{last:Int}(h:i<x.size)(hc:cH (bt x i)<=last):iG x (n+1) f last i=none:=by
 show(if x.size<=i then _ else _)=_;rw[if_neg (by omega),if_pos hc]
theorem tH {x:ByteArray}{n i:Nat}{f:Nat->Bool}{last:Int}(h:i<x.size)(hc:¬cH (bt x i)<=last):iG x (n+1) f last i=iG x n (fun j=>if(j:Int)=cH (bt x i)then true else f j) (cH (bt x i)) (i+1):=by
 show(if x.size<=i then _ else _)=_;rw[if_neg (by omega),if_neg hc]
theorem xP (c:Nat): -1<=cH c/\cH c<=3:=by unfold cH;split<;> omega
theorem Kt {s:ByteArray}{fb:Nat}{w:World}{O:Nat->Nat}{L:List NV}{vN vR:Value}{rc:List Value}{nR pl cn:Nat}(hs:s.size<=120)(h:FN fb w O L vN vR rc nR pl cn)(hok:OkN L pl)(hL:L.length+3*s.size<=5000)(hnR:nR<=1000):
  Calls Tryz.prog 44 #[.pointer (some ⟨fb,0,none⟩),.string s] w (yO s fb w O L rc nR pl cn (iI s)):=by
 obtain⟨aR,qR,eR⟩:=aK h.rr;subst eR;have HF:=aA h;have HOK:=aA hok;have HSP:=aA (fun W=>I7 s 32 W (by omega));have HLN:Hid (iI s=match fC s 32 with
  | [p0,p1,p2]=>sF (s.extract p0.1 p0.2) (s.extract p1.1 p1.2) (s.extract p2.1 p2.2)
  | _=>none):=rfl
 clear h hok;go_enter Tryz.func44,Tryz.ntmps44;go_upto_region 2 with fail;refine(HSP.out _).mono ?_;rintro e w1 ⟨g0,cap0,rfl,hb1,hg0,hg1,hcs⟩;have HB1:=aA hb1;have HCS:=aA hcs;clear hb1 hcs HSP;generalize fC s 32=l at*;by_cases h3:l.length=3
 ·obtain⟨p0,p1,p2,el⟩:∃p0 p1 p2,l= [p0,p1,p2]:=by
   match l,h3 with
   | [a,b,c],_=>exact⟨a,b,c,rfl⟩
  subst el;have HL3:Hid (iI s=sF (s.extract p0.1 p0.2) (s.extract p1.1 p1.2) (s.extract p2.1 p2.2)):=HLN.out;have x0:=HCS.out 0 p0.1 p0.2 rfl;have x1:=HCS.out 1 p1.1 p1.2 rfl;have x2:=HCS.out 2 p2.1 p2.2 rfl;have z0:=yB s p0.1 p0.2;have z1:=yB s p1.1 p1.2;have z2:=yB s p2.1 p2.2;generalize s.extract p0.1 p0.2=X0 at*;generalize s.extract p1.1 p1.2=X1 at*;generalize s.extract p2.1 p2.2=X2 at*;clear HLN HCS h3;by_cases k0:X0.size=0\/X2.size≠1
  ·have HE:Hid (iI s=none):=by unfold Hid;rw[HL3.out];unfold sF;rw[if_pos k0]
   by_cases k1:X0.size=0
   ·have d1:((X0.size:Int)==0)=true:=by rw[k1];rfl
    clear k0 k1;go_wp2;go_ret;rw[HE.out];exact yO.bad (FK.of_below HB1.out O)
   ·have d1:((X0.size:Int)==0)=false:=by rw[beq_eq_false_iff_ne];omega
    have d2:((X2.size:Int) !=1)=true:=by rw[bne_iff_ne];omega
    clear k0 k1;go_wp2;go_ret;rw[HE.out];exact yO.bad (FK.of_below HB1.out O)
  ·have k2:X2.size=1:=by omega
   have d1:((X0.size:Int)==0)=false:=by rw[beq_eq_false_iff_ne];omega
   have d2:((X2.size:Int) !=1)=false:=by rw[k2];rfl
   have hlt2:0<X2.size:=by omega
   have hc2:(X2[0]'hlt2).toNat=bt X2 0:=jE X2 0 hlt2;have hcl:=jS X2 0;have HK2:=aA k2;clear k2;go_upto_region 4 with fail;obtain⟨c,hcc⟩:∃c,bt X2 0=c:=⟨_,rfl⟩
   rw[hcc]at hc2 hcl;have HCC:=aA hcc;clear hcc
   go_cut [6] from 33 to 38 (fun v wc=>∃(rb gs:Nat),v= .pointer (some ⟨rb,0,none⟩)/\RB w1 wc rb gs aP c 0/\Below w1.heap.size w1 wc)
   case first=>
    go_big_region
    all_goals
     go_wp2;go_meet
     case rel=>first | exact⟨_,_,rfl,RB.newA w1 c⟩ | exact⟨_,_,rfl,RB.newB w1 c⟩
   case rest=>
    obtain⟨rb,gs,rfl,hrb,hbl⟩:=hcut;have HRB0:=aA hrb;have HBL0:=aA hbl;clear hrb hbl x2 hc2;go_wp2
    go_loopw [7,8] (fun y z wr=>∃(i:Nat) (f:Nat->Bool) (last:Int),i<=X0.size/\z= .int .i64 (i:Int)/\y= .int .i64 last/\ -1<=last/\last<=3/\Hid (iG X0 (X0.size+1) aP (-1) 0=iG X0 (X0.size+1 - i) f last i)/\RB w1 wr rb gs f c 0/\Below w1.heap.size w1 wr) (fun _ z _=>X0.size - (intOf z).toNat)
    case atStart=>exact⟨0,aP, -1,by omega,rfl,rfl,by omega,by omega,rfl,HRB0.out,HBL0.out⟩
    case round=>
     obtain⟨i,f,last,hi,rfl,rfl,hl1,hl2,HG,hrb,hbl⟩:=hrel;have HRB:=aA hrb;have HBL:=aA hbl;have y0:wr.cell? ⟨g0,0,none⟩=some (.string X0):=(hbl.cell (p:=⟨g0,0,none⟩) hg1).trans x0;clear HRB0 HBL0;by_cases hlt:i<X0.size
     ·have hby:(X0[i]'hlt).toNat=bt X0 i:=jE X0 i hlt;have hbl':=jS X0 i;have hiI:(0:Int)<=(i:Int)/\(i:Int)<(X0.size:Int):=by omega
      have hcr:=xP (bt X0 i);obtain⟨m,hm⟩:∃m,X0.size+1 - i=m+1:=⟨X0.size - i,by omega⟩
      have HM2:Hid (X0.size+1 - (i+1)=m):=by unfold Hid;omega
      rw[hm]at HG;clear hm hrb hbl;have HRC:=aA (fun W=>pR (bt X0 i) W hbl');by_cases hle:cH (bt X0 i)<=last
      ·have HE:Hid (iI s=none):=by
        unfold Hid;rw[HL3.out];unfold sF;rw[if_neg k0,HG.out,sD hlt hle]
       have dle:decide (cH (bt X0 i)<=last)=true:=by simp;exact hle
       generalize cH (bt X0 i)=nn at*;generalize bt X0 i=b at*;clear HG HM2;go_wp2_with fail;refine(HRC.out _).mono ?_;rintro e w5 ⟨rfl,q,hw5⟩;have HB5:Hid (Below w.heap.size w w5):=by
        have hb:=HB1.out.trans (HBL.out.mono HB1.out.size);unfold Hid;rw[hw5];exact⟨hb.os,hb.tape,hb.output,hb.size,hb.block⟩
       clear hw5;go_wp2;go_ret;rw[HE.out];exact yO.bad (FK.of_below HB5.out O)
      ·obtain⟨k,hk⟩:∃k:Nat,cH (bt X0 i)=(k:Int):=⟨(cH (bt X0 i)).toNat,by omega⟩
       have hk4:k<4:=by omega
       have hkI:(0:Int)<=(k:Int)/\(k:Int)<4:=by omega
       have dle:decide ((k:Int)<=last)=false:=by simp;omega
       have HG3:Hid (iG X0 (X0.size+1) aP (-1) 0=iG X0 (X0.size+1 - (i+1)) (fun j=>if j=k then true else f j) (k:Int) (i+1)):=by
        unfold Hid;rw[HG.out,tH hlt hle,HM2.out,hk];congr 1
        funext j
        by_cases e:j=k
        ·rw[if_pos e,if_pos (by omega)]
        ·rw[if_neg e,if_neg (by omega)]
       rw[hk]at HRC;clear HG HM2 hk hle hcr;generalize bt X0 i=b at*;go_wp2_with fail;refine(HRC.out _).mono ?_;rintro e w5 ⟨rfl,q,hw5⟩;have HR5:Hid (RB w1 w5 rb gs f c 0):=by unfold Hid;rw[hw5];exact HRB.out.draw _
       have HB5:Hid (Below w1.heap.size w1 w5):=by
        have hb:=HBL.out;unfold Hid;rw[hw5];exact⟨hb.os,hb.tape,hb.output,hb.size,hb.block⟩
       have r0:=HR5.out.c0;have r1:=HR5.out.ba.c k hk4;have r2:=HR5.out.ba.f k;clear hw5;go_wp2;go_roundw
       case rel=>exact⟨i+1,_,(k:Int),hlt,by go_num,rfl,by omega,by omega,HG3,HR5.out.set k hk4,HB5.out.setCell (p:=⟨gs,k,none⟩) HR5.out.b3 _⟩
       case measure=>simp[intOf];omega
     ·have HGS:Hid (iG X0 (X0.size+1) aP (-1) 0=some (f,last)):=by
       unfold Hid;rw[HG.out,show X0.size+1 - i=0+1 by omega];exact tN (by omega)
      have dl:decide ((i:Int)<(X0.size:Int))=false:=by simp;omega
      have HFL:=aA (HF.out.below (HB1.out.trans (HBL.out.mono HB1.out.size)));have HKL:=aA (FK.of_below (HB1.out.trans (HBL.out.mono HB1.out.size)) O);have hzL:=HBL.out.size;have hz1:=HB1.out.size;have HOr:Hid (O rb=0/\O gs=0/\O g0=0):=⟨HF.out.fr rb (by have:=hrb.b1;omega),HF.out.fr gs (by have:=hrb.b3;omega),HF.out.fr g0 (by omega)⟩
      have y1:wr.cell? ⟨g0,1,none⟩=some (.string X1):=(hbl.cell (p:=⟨g0,1,none⟩) hg1).trans x1;have HY1:=aA y1;have hgL:g0<wr.heap.size:=by omega
      clear hrb hbl HG x0 x1 y1;go_wp2_with fail;refine(B4 HFL.out last ⟨hl1,hl2⟩).mono ?_;rintro e w6 ⟨rfl,hf6,hk6⟩;have HF6:=aA hf6;have HK6:=aA (HKL.out.trans hk6);have HR6:=aA (HRB.out.keepK hk6 HOr.out.1 HOr.out.2.1);have u1:=HR6.out.c1;have HY6:Hid (w6.cell? ⟨g0,1,none⟩=some (.string X1)):=(aL (w:=wr) (a:=⟨g0,1,none⟩) (hk6.block g0 hgL (by rw[HOr.out.2.2];omega) (by rw[HOr.out.2.2];omega) (by rw[HOr.out.2.2];omega))).trans HY1.out;have hg6:g0<w6.heap.size:=bN hgL hk6.size;clear hf6 hk6 y0 HFL HKL HRB HY1;go_wp2_with fail;refine(pR c _ hcl).mono ?_;rintro e w7 ⟨rfl,q7,hw7⟩;have HF7:Hid (FN fb w7 O L vN (.slice aR nR qR) rc nR pl (jR cn last)):=by unfold Hid;rw[hw7];exact HF6.out.draw _
      have HK7:Hid (FK w O w7 O):=by
       have hb:=HK6.out;unfold Hid;rw[hw7];exact⟨hb.os,hb.tape,hb.output,hb.size,hb.block,hb.own⟩
      have HR7:Hid (RB w1 w7 rb gs f c 0):=by unfold Hid;rw[hw7];exact HR6.out.draw _
      have HY7:Hid (w7.cell? ⟨g0,1,none⟩=some (.string X1)):=by unfold Hid;rw[hw7];exact HY6.out
      have hg7:g0<w7.heap.size:=by rw[hw7];exact hg6
      have v1:=HR7.out.c1;clear hw7 u1 HF6 HK6 HR6 HY6;have hcr:=xP c;by_cases kb:cH c<0/\c≠46/\c≠45
      ·have HE:Hid (iI s=none):=by
        unfold Hid;rw[HL3.out];unfold sF;rw[if_neg k0,HGS.out,HCC.out];simp only;rw[if_pos kb]
       have t0:decide (cH c<0)=true:=by simp;omega
       have t1:((c:Int) !=46)=true:=by rw[bne_iff_ne];omega
       have t2:((c:Int) !=45)=true:=by rw[bne_iff_ne];omega
       clear kb;generalize cH c=tt at*;go_wp2;go_ret;rw[HE.out];exact yO.bad HK7.out
      ·have HL4:Hid (iI s=match kL X1 (dS X1 (X1.size+1)) 0 with
        | none=>none
        | some (r,a)=>if a=X1.size then some (f,last,c,r)else none):=by
        unfold Hid;rw[HL3.out];unfold sF;rw[if_neg k0,HGS.out,HCC.out];simp only;rw[if_neg kb]
       have hX1:X1.size<=200:=by omega
       have HX:Hid (∀W,FN fb W O L vN (.slice aR nR qR) rc nR pl (jR (jR cn last) (cH c))->Calls Tryz.prog 76 #[.pointer (some ⟨fb,0,none⟩),.string X1,.int .i64 0] W (nM 0 fb W O L (.slice aR nR qR) rc nR pl (jR (jR cn last) (cH c)) 0 (kL X1 (dS X1 (X1.size+1)) 0))):=fun W hW=>Ma hX1 (X1.size+1) fb W O L vN (.slice aR nR qR) rc nR pl _ 0 hW HOK.out (by omega) (by omega) (by omega)
       have HSB:=aA (fun r a=>Iq (qF X1 (X1.size+1)) 0 r a);generalize kL X1 (dS X1 (X1.size+1)) 0=A at*;obtain⟨tt,htt⟩:∃tt,cH c=tt:=⟨_,rfl⟩
       have hcr':=hcr;rw[htt]at hcr' HX kb;have HTT:=aA htt;have hgood:(0<=tt)\/(tt<0/\c=46)\/(tt<0/\c≠46/\c=45):=by omega
       rw[htt];clear htt hcr kb HGS HL3;have hd3:(decide (tt<0)=false)\/(decide (tt<0)=true/\((c:Int) !=46)=false)\/(decide (tt<0)=true/\((c:Int) !=46)=true/\((c:Int) !=45)=false):=by
        rcases hgood with e | ⟨e1,e2⟩ | ⟨e1,e2,e3⟩
        ·exact .inl (by simp;omega)
        ·exact .inr (.inl ⟨by simp;omega,by rw[e2];rfl⟩)
        ·exact .inr (.inr ⟨by simp;omega,by rw[bne_iff_ne];omega,by rw[e3];rfl⟩)
       clear hgood;rcases hd3 with t0 | ⟨t0,t1⟩ | ⟨t0,t1,t2⟩
       all_goals
        go_wp2_with fail;refine(B4 HF7.out tt hcr').mono ?_;rintro e w8 ⟨rfl,hf8,hk8⟩;have HF8:=aA hf8;have HK8:=aA (HK7.out.trans hk8);have HR8:=aA (HR7.out.keepK hk8 HOr.out.1 HOr.out.2.1);have y8:w8.cell? ⟨g0,1,none⟩=some (.string X1):=(aL (w:=w7) (a:=⟨g0,1,none⟩) (hk8.block g0 hg7 (by rw[HOr.out.2.2];omega) (by rw[HOr.out.2.2];omega) (by rw[HOr.out.2.2];omega))).trans HY7.out;have hg8:g0<w8.heap.size:=bN hg7 hk8.size;clear hf8 hk8 v1 HF7 HK7 HR7 HY7 hg7;go_wp2_with fail;refine(HX.out _ (HF8.out.below ⟨rfl,rfl,rfl,bC _,fun _ _=>rfl⟩)).mono ?_;have y8':=aA y8
        cases A with
        | none=>
         have HE:=aA HL4.out;rintro e w9 ⟨a,b,O9,rfl,hk9⟩;have HK9:=aA (HK8.out.trans hk9);clear hk9 y8;go_wp2;go_ret;rw[HE.out];exact yO.bad HK9.out
        | some q=>
         obtain⟨r,a⟩:=q;rintro e w9 ⟨n,M,vN9,O9,rfl,hf9,hk9,hsm9,hok9,hM9⟩;have hsb:=HSB.out r a rfl;have HK9:=aA (HK8.out.trans hk9);have y9:w9.cell? ⟨g0,1,none⟩=some (.string X1):=(aL (w:=w8) (a:=⟨g0,1,none⟩) (hk9.block g0 hg8 (by rw[HOr.out.2.2];omega) (by rw[HOr.out.2.2];omega) (by rw[HOr.out.2.2];omega))).trans y8'.out;by_cases ha:a=X1.size
         ·have HE:Hid (iI s=some (f,last,c,r)):=by unfold Hid;rw[HL4.out];simp only;rw[if_pos ha]
          have dn:((a:Int) !=(X1.size:Int))=false:=by rw[ha];simp
          have HR9:=aA (HR8.out.keepK hk9 HOr.out.1 HOr.out.2.1);have HTP:=aA (HR9.out.top hf9 HK9.out hz1 ((hk9.own rb HR8.out.b2).trans HOr.out.1) ((hk9.own gs HR8.out.b4).trans HOr.out.2.1) n);have q2:=HR9.out.c2;have q2f:=HR9.out.fz 2;have HSM:=aA hsm9;have HO9:=aA hok9;clear hf9 hk9 hsm9 hok9 ha y8 HF8 HK8 HR8;go_upto_region 23 with fail;clear q2 q2f y9;generalize w9.setCell ⟨rb,2,none⟩ (.int .i64 (n:Int))=W at*;have c1:=HTP.out.1.c1;have f1:=HTP.out.1.fz 1;have r0:=HTP.out.2.2.1.c0;have r1:=HTP.out.2.2.1.c1;have r2:=HTP.out.2.2.1.c2;have hbW:fb<W.heap.size:=HTP.out.1.wt.2;have HRN:=aA HTP.out.1.rr;have HL0:Hid (∀k,(Value.slice aR nR qR).ownBlock=some k->fb+1<=k):=fun k hk=>(HRN.out.lt k hk).1
          go_region_law ((refine lT W.drew rfl (.tmp 107) (.tmp 109) 63 rfl (fb+1) 82 (.agg #[.slice none 0 0,.int .u8 0,.int .i64 0]) 3 40 Tryz.underlying63 Tryz.infoRRule rfl (by decide) (by decide) (.slice aR nR qR) nR rc [.slice (some ⟨gs,0,none⟩) 4 4,.int .u8 (c:Int),.int .i64 (n:Int)] _ rfl HRN.out W.heap.size rfl rfl rfl (by simp[Value.oneCell']) (by omega) (by show fb+1<=W.heap.size;omega) ?_;intro g4 cap4 w4 hown4 hgrow4 hat4 hlt4;have m3:=((bG hgrow4 (k:=fb) (by show fb<W.heap.size;omega) (fun e=>by have:=HL0.out fb e.symm;omega)).1 1).trans c1;have n3:=((bG hgrow4 (k:=fb) (by show fb<W.heap.size;omega) (fun e=>by have:=HL0.out fb e.symm;omega)).2 1).trans f1;have HO4:=aA hown4;have HG4:=aA hgrow4;have HA4:=aA hat4;clear hown4 hgrow4 hat4))
          all_goals
           obtain⟨hf5,hk5⟩:=(HTP.out.1.draw 1).rule (xs:=RV.cells ⟨f,c,n,gs⟩) rfl rfl HO4.out HG4.out HA4.out;have HD:Hid (FK W (fun k=>if k=gs then 4 else O9 k) (W.drewN 1) (fun k=>if k=gs then 4 else O9 k)):=FK.of_below (w:=W) (w':=W.drewN 1) ⟨rfl,rfl,rfl,bC _,fun _ _=>rfl⟩ _;have HF5:=aA hf5;have HK5:=aA (HTP.out.2.1.trans (HD.out.trans hk5));have HV5:=aA (HTP.out.2.2.2.keep (HD.out.trans hk5));clear hf5 hk5 c1 f1 r0 r1 r2 m3 n3;generalize w4.setCell ⟨fb,1,none⟩ (.slice (some ⟨g4,0,none⟩) (nR+1) cap4)=W5 at*;go_wp2;go_ret;rw[HE.out];exact yO.good (by rw[HTT.out];exact HF5.out) HK5.out HV5.out HSM.out HO9.out (by omega)
         ·have HE:Hid (iI s=none):=by unfold Hid;rw[HL4.out];simp only;rw[if_neg ha]
          have dn:((a:Int) !=(X1.size:Int))=true:=by rw[bne_iff_ne];omega
          clear hf9 hk9 hsm9 hok9 ha y8;go_wp2;go_ret;rw[HE.out];exact yO.bad HK9.out
 ·have HE:Hid (iI s=none):=by
   unfold Hid;rw[HLN.out];split
   ·exact absurd rfl h3
   ·rfl
  have d1:((l.length:Int) !=3)=true:=by rw[bne_iff_ne];omega
  clear HLN;go_wp2;go_ret;rw[HE.out];exact yO.bad (FK.of_below HB1.out O)
end Go.Proofs.YtgjgjgihceijnaaGreat
namespace Go.Proofs.YtgjgjgihceijnaaGreat
open Go.RowKit Go.Stn
abbrev fM:=(Nat->Bool)×Int×Nat×Rx
def lnR (s:ByteArray):List (Nat×Nat)->Option (List fM)
 | []=>some []
 | p::ps=>match iI (s.extract p.1 p.2)with
  | none=>none
  | some x=>match lnR s ps with
   | none=>none
   | some l=>some (x::l)
theorem Bf {s:ByteArray}:∀{ps:List (Nat×Nat)} {l:List fM} {p:Nat×Nat} {x:fM},lnR s ps=some l->iI (s.extract p.1 p.2)=some x->lnR s (ps++ [p])=some (l++ [x])
 | [],l,p,x,h,hx=>by
  injection h with h;subst h;show lnR s [p]=_;unfold lnR;rw[hx]
  rfl
 | q::ps,l,p,x,h,hx=>by
  unfold lnR at h;show lnR s (q::(ps++ [p]))=_;unfold lnR
  cases e:iI (s.extract q.1 q.2)with
  | none=>rw[e]at h;cases h
  | some y=>
   rw[e]at h;simp only at h ⊢
   cases e2:lnR s ps with
   | none=>rw[e2]at h;cases h
   | some l2=>
    rw[e2]at h;rw[Bf e2 hx];injection h with h;subst h
    rfl
theorem Jt {s:ByteArray}:∀{ps:List (Nat×Nat)} {p:Nat×Nat},p∈ps->iI (s.extract p.1 p.2)=none->lnR s ps=none
 | q::ps,p,hm,hx=>by
  unfold lnR;rcases List.mem_cons.1 hm with e | e
  ·rw[←e,hx]
  ·cases iI (s.extract q.1 q.2)with
   | none=>rfl
   | some y=>simp only;rw[Jt e hx]
def npS:List fM->Nat
 | []=>0
 | x::l=>x.2.2.2.np+npS l
theorem K5:∀(l:List fM) (x:fM),npS (l++ [x])=npS l+x.2.2.2.np
 | [],x=>by simp[npS]
 | y::l,x=>by show y.2.2.2.np+npS (l++ [x])=_;rw[K5 l x];show _=y.2.2.2.np+npS l+x.2.2.2.np;omega
def cnS (l:List fM):Nat:=l.foldl (fun c x=>jR (jR c x.2.1) (cH x.2.2.1)) 0
theorem Rw (l:List fM)(x:fM):cnS (l++ [x])=jR (jR (cnS l) x.2.1) (cH x.2.2.1):=by unfold cnS;rw[List.foldl_append];rfl
def RuM (w:World)(O:Nat->Nat)(N:List RN)(R:List RV)(ls:List fM):Prop:=
 R.length=ls.length/\∀(j:Nat) (x:RV) (y:fM),R[j]? =some x->ls[j]? =some y->Bv w O x/\x.f=y.1/\x.c=y.2.2.1/\Stn.Sem N x.n y.2.2.2
theorem RuM.nil (w:World)(O:Nat->Nat)(N:List RN):RuM w O N [] []:=⟨rfl,fun j x y h=>by simp at h⟩
theorem RuM.snoc {w w':World}{O O':Nat->Nat}{N:List RN}{M:List RN}{R:List RV}{ls:List fM}(h:RuM w O N R ls)(hc:aN N)(hk:FK w O w' O'){x:RV}{y:fM}(hx:Bv w' O' x)(h1:x.f=y.1)(h2:x.c=y.2.2.1)(h3:Stn.Sem (N++M) x.n y.2.2.2):RuM w' O' (N++M) (R++ [x]) (ls++ [y]):=by
 have hl:=h.1;refine⟨by simp[hl],fun j a b ha hb=> ?_⟩;by_cases hj:j<R.length
 ·rw[bM hj]at ha;rw[bM (by omega)]at hb;obtain⟨k1,k2,k3,k4⟩:=h.2 j a b ha hb;exact⟨k1.keep hk,k2,k3,k4.more hc M⟩
 ·have hlt:=(List.getElem?_eq_some_iff.1 ha).1;rw[List.length_append,List.length_singleton]at hlt;have e:j=R.length:=by omega
  subst e;rw[bK (bC _),cL]at ha;rw[hl,bK (bC _),cL]at hb;have ea:x=a:=by simpa using ha
  have eb:y=b:=by simpa using hb
  subst ea eb;exact⟨hx,h1,h2,h3⟩
theorem FN.start (w:World):FN w.heap.size (w.alloc (.cells #[.slice none 0 0,.slice none 0 0,.int .i64 0,.int .i64 0] 65)) (fun k=>if k=w.heap.size then 1 else 0) [] (.slice none 0 0) (.slice none 0 0) [] 0 0 0:=by
 have hz:(w.alloc (.cells #[.slice none 0 0,.slice none 0 0,.int .i64 0,.int .i64 0] 65)).heap.size=w.heap.size+1:=by simp
 have hc:∀i,(w.alloc (.cells #[.slice none 0 0,.slice none 0 0,.int .i64 0,.int .i64 0] 65)).cell? ⟨w.heap.size,i,none⟩=(#[.slice none 0 0,.slice none 0 0,.int .i64 0,.int .i64 0]:Array Value)[i]? :=fun i=>a9 _ _ _ i rfl
 exact⟨hc 0,hc 1,hc 2,hc 3,fun i=>aO _ _ _ i rfl,⟨if_pos rfl,by omega⟩,bO _ _ _ 3,bO _ _ _ 3,fun k e=>(by cases e),fun k e=>(by cases e),fun t ht=>absurd ht List.not_mem_nil,fun n x hx=>by simp[nvN]at hx,fun k hk=>if_neg (by omega)⟩
def lV (s:ByteArray):Option (List fM)×Nat:=
 if 120<s.size then(none,1)else
 if 8<(fC s 10).length then(none,2)else
 match lnR s (fC s 10)with
 | none=>(none,2)
 | some l=>if 10<npS l then(none,3)else(some l,0)
def lO (s:ByteArray)(w:World)(e:Ending)(w':World):Prop:=
 Below w.heap.size w w'/\match lV s with
  | (none,c)=>e= .returned (.tuple #[.pointer none,.int .i64 (c:Int)])
  | (some l,_)=>∃(fb:Nat) (O:Nat->Nat) (L:List NV) (vN vR:Value) (R:List RV),e= .returned (.tuple #[.pointer (some ⟨fb,0,none⟩),.int .i64 0])/\w.heap.size<=fb/\FN fb w' O L vN vR (rvC R) R.length (npS l) (cnS l)/\OkN L (npS l)/\RuM w' O (nvN L) R l/\L.length<=3000
end Go.Proofs.YtgjgjgihceijnaaGreat
