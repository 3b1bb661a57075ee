import Derived.Test.YtgjgjgihceijnaaGreatG05
import Derived.Test.YtgjgjgihceijnaaGreatG04
import Derived.Test.YtgjgjgihceijnaaGreatG03
import Derived.Laws.StructEq
open Array renaming length_toList->aL,getElem?_eq_some_iff->cF
open Go.World renaming rangeAt_setCells_same->aO,cell?_alloc_new->bO
open List renaming getElem?_map->aR,getElem?_eq_getElem->bC,getElem?_append_right->bM,getElem?_range->bN,length_cons->bS,length_nil->bT,mem_append->cN,contains_iff_mem->cO,mem_singleton->cR,getElem_mem->cT,length->eL
open Option renaming getD_some->aT,map_some->cL
open Nat renaming le_refl->bD,lt_of_lt_of_le->bK
open Go.RowKit.Below renaming refl->cP
set_option maxRecDepth 100000
set_option maxHeartbeats 8000000
namespace Go.Proofs.YtgjgjgihceijnaaGreat
open Go.RowKit Go.Stn
def Rb (w:World)(s:ByteArray)(e:Ending)(w':World):Prop:=
 Below w.heap.size w w'/\((¬(s.size<=120000/\fV s=true)/\e= .returned (.tuple #[.agg Tryz.zeroCells72,.int .i64 (chk s)]))\/(s.size<=120000/\fV s=true/\
  ∃(bb:Nat) (vc:Value) (ys:List jG),e= .returned (.tuple #[.agg (jU (.slice (some ⟨bb,0,none⟩) (eK s) (eK s)) (bL s) vc).toArray,.int .i64 0])/\
   kE w' w.heap.size bb (iJ s)/\w'.ownsRow (bb+1) 110 1 vc ys.length (qJ ys)/\ys.map (fun y=>y.2.map (·.1))=vF s/\(∀y∈ys,iT w' (gC s) y)/\(∀y∈ys,∀k,yT y k->bb<k)))
theorem pI {w w':World}{base:Nat}{e:TypeId}{size:Nat}{v:Value}{m:Nat}{xs:List Value}(hr:w.ownsRow base e size v m xs)(hB:Below w.heap.size w w'):w'.ownsRow base e size v m xs:=by
 refine⟨hr.1, ?_⟩;have hlt:=hr.lt;rcases hr.2 with hn | ⟨g,cap,cur,rfl,hbg,hg,rest⟩
 ·exact .inl hn
 ·exact .inr ⟨g,cap,cur,rfl,hbg,(hB.block g (hlt g rfl).2).trans hg,rest⟩
theorem Q0 (s:ByteArray)(w:World):
  Calls Tryz.prog 24 #[.string s] w fun e w'=>Rb w s e w':=by
 by_cases hlong:120000<s.size
 ·have HT:=aA (bI w Tryz.zeroCells72 72 w.heap.size 258 Tryz.imgZero rfl);have hd:decide ((120000:Int)<(s.size:Int))=true:=by simp;omega
  go_enter Tryz.func24,Tryz.ntmps24;go_wp2_with (first | (refine wpList_store_mid rfl 72 (.tmp 2) (.tmp 9) rfl w.heap.size 0 Tryz.zeroCells72 rfl rfl ?_ ?_ Tryz.imgZeroOne ?_;(rw[Tryz.imgZero];exact HT.out);(rw[Tryz.imgZero];exact Tryz.imgSize)));refine cJ Tryz.results24 w.heap.size 0 Tryz.zeroCells72.toList _ (.int .i64 1) rfl rfl ?_ Tryz.underlying72 rfl (by rw[aL,Tryz.imgZero];exact Tryz.imgSize) rfl ?_
  ·exact aO _ _ _ _ (by rw[aL,Tryz.imgZero];exact HT.out)
  ·refine⟨aD _ 0 _ w.heap.size ((cP _ _).alloc (bD _) _) (bD _),.inl ⟨fun h=>by omega, ?_⟩⟩;have e:chk s=1:=by unfold chk;rw[if_pos hlong]
   rw[e]
 ·have hd:decide ((120000:Int)<(s.size:Int))=false:=by simp;omega
  have HL0:Hid (LRd ((w.alloc (.cells Tryz.zeroCells72 72)).alloc (.cells #[.string s,.int .i64 0,.bool false] 138)) (w.heap.size+1) s (0,false)):=by
   have e:w.heap.size+1=(w.alloc (.cells Tryz.zeroCells72 72)).heap.size:=by simp
   rw[e];refine⟨?_, ?_, ?_, ?_, ?_⟩
   ·rw[bO];rfl
   ·rw[bO];rfl
   ·rw[bO];rfl
   ·intro i;rw[World.frozen?_alloc_new]
   ·simp
  have HT:=aA (World.there_alloc (bI w Tryz.zeroCells72 72 w.heap.size 258 Tryz.imgZero rfl) (.cells #[.string s,.int .i64 0,.bool false] 138));have HB:Hid (Below w.heap.size w ((w.alloc (.cells Tryz.zeroCells72 72)).alloc (.cells #[.string s,.int .i64 0,.bool false] 138))):=((cP _ _).alloc (bD _) _).alloc (by simp) _;have hz:w.heap.size+2=((w.alloc (.cells Tryz.zeroCells72 72)).alloc (.cells #[.string s,.int .i64 0,.bool false] 138)).heap.size:=by simp
  go_enter Tryz.func24,Tryz.ntmps24;go_wp2_with fail;generalize (w.alloc (.cells Tryz.zeroCells72 72)).alloc (.cells #[.string s,.int .i64 0,.bool false] 138)=W at*;refine(Eu s (w.heap.size+1) W (by omega) HL0.out).mono ?_;rintro e w1 ⟨bb,vc,ys,rfl,hn,ho,hm,hc,hg,hl⟩;have HLEN:=aA (lX (.slice (some ⟨bb,0,none⟩) (eK s) (eK s)) (bL s) vc (by unfold bL;rw[jJ];rfl));have HONE:=aA (wR (vb:= .slice (some ⟨bb,0,none⟩) (eK s) (eK s)) (vc:=vc) (cs:=bL s) rfl (by obtain⟨va,vcap,rfl⟩:=aK ho;rfl));obtain⟨IL,EIL⟩:∃l,jU (.slice (some ⟨bb,0,none⟩) (eK s) (eK s)) (bL s) vc=l:=⟨_,rfl⟩
  rw[EIL]at HLEN HONE ⊢;replace EIL:=aA EIL;have HSZ:Hid (IL.toArray.size=258):=by unfold Hid;simpa using HLEN.out
  have HTL:Hid (IL.toArray.toList=IL):=by unfold Hid;simp
  have HALL:Hid (IL.toArray.all (·.oneCell')=true):=all_oneCell_toArray HONE.out;obtain⟨IA,EIA⟩:∃l,IL.toArray=l:=⟨_,rfl⟩
  rw[EIA]at HSZ HTL HALL ⊢;replace EIA:=aA EIA;have HN:=aA hn;have HO:=aA ho;have HM:=aA hm;have HC:=aA hc;have HB1:Hid (Below w.heap.size w w1):=HB.out.trans ((Ay hg (by omega)).mono (by omega));have HT1:=aA (aQ HT.out (hg.block w.heap.size (by omega) (by intro e;injection e;omega)));have HRD:=aA hl;have hz1:w.heap.size+2<=w1.heap.size:=by have:=hg.size;omega
  have c1:=hl.c1;have c2:=hl.c2;have HIF:=aA (Qf s);have hat:=Qa s;have hbb:w.heap.size+4<=bb:=by have:=HN.out.1;omega
  clear hn ho hm hc hg hl HL0 HB HT hz;generalize lh9 s=R at*;have HN2:=aA (bI w1 Tryz.zeroCells72 72 w1.heap.size 258 Tryz.imgZero rfl);have HBS:Hid (Below w1.heap.size w1 ((w1.alloc (.cells Tryz.zeroCells72 72)).setCells w1.heap.size 0 IA.toList)):=aD _ 0 _ w1.heap.size ((cP _ _).alloc (bD _) _) (bD _);have HRI:Hid (((w1.alloc (.cells Tryz.zeroCells72 72)).setCells w1.heap.size 0 IA.toList).rangeAt w1.heap.size 0 IL):=by
   have h:=aO (w1.alloc (.cells Tryz.zeroCells72 72)) w1.heap.size 0 IA.toList (by rw[aL,HSZ.out];exact HN2.out);rw[HTL.out]at h ⊢;exact h
  have HB2:Hid (Below w.heap.size w ((w1.alloc (.cells Tryz.zeroCells72 72)).setCells w1.heap.size 0 IA.toList)):=HB1.out.trans (HBS.out.mono (by omega));have HT2:=aA (lP HT1.out HBS.out (by omega));have HR2:=aA (HRD.out.below HBS.out (by omega));clear c1 c2;have c1:=HR2.out.c1;have c2:=HR2.out.c2;have HNF:=aA (HN.out.block HBS.out.size (HBS.out.block bb HN.out.2.1));have HOF:=aA (pI HO.out HBS.out);have HCF:Hid (∀y∈ys,iT ((w1.alloc (.cells Tryz.zeroCells72 72)).setCells w1.heap.size 0 IA.toList) (gC s) y/\∀k,yT y k->bb<k):=fun y hy=>⟨(HC.out y hy).1.below HBS.out (bD _),(HC.out y hy).2⟩
  obtain⟨a,b⟩:=R;simp only at*;generalize hW2:(w1.alloc (.cells Tryz.zeroCells72 72)).setCells w1.heap.size 0 IA.toList=w2 at*;have HW2:=aA hW2;clear HB1 HT1 HRD HN HO HC HBS hW2
  cases b with
  | true=>
   have HNO:Hid (fV s=false):=by have:=HIF.out;unfold Hid;simpa using this
   go_wp2_with (first | (refine wpList_store_mid rfl 72 (.tmp 5) (.tmp 12) rfl w1.heap.size 0 IA rfl rfl ?_ ?_ HALL.out ?_;(rw[HSZ.out];exact HN2.out);(rw[HSZ.out];exact Tryz.imgSize);rw[HW2.out]) | (refine wpList_store_mid rfl 72 (.tmp 2) (.tmp 22) rfl w.heap.size 0 Tryz.zeroCells72 rfl rfl ?_ ?_ Tryz.imgZeroOne ?_;(rw[Tryz.imgZero];exact HT2.out);(rw[Tryz.imgZero];exact Tryz.imgSize)));refine cJ Tryz.results24 w.heap.size 0 Tryz.zeroCells72.toList _ (.int .i64 5) rfl rfl ?_ Tryz.underlying72 rfl (by rw[aL,Tryz.imgZero];exact Tryz.imgSize) rfl ?_
   ·exact aO _ _ _ _ (by rw[aL,Tryz.imgZero];exact HT2.out)
   ·refine⟨aD _ 0 _ w.heap.size HB2.out (bD _),.inl ⟨fun h=>(by have h2:=h.2;rw[HNO.out]at h2;cases h2), ?_⟩⟩;have e:chk s=5:=by unfold chk;rw[if_neg hlong,HNO.out];rfl
    rw[e]
  | false=>
   by_cases hlt:a<s.size
   ·have HNO:Hid (fV s=false):=by have:=HIF.out;unfold Hid;simpa[hlt]using this
    have hda:decide ((a:Int)<(s.size:Int))=true:=by simp;omega
    go_wp2_with (first | (refine wpList_store_mid rfl 72 (.tmp 5) (.tmp 12) rfl w1.heap.size 0 IA rfl rfl ?_ ?_ HALL.out ?_;(rw[HSZ.out];exact HN2.out);(rw[HSZ.out];exact Tryz.imgSize);rw[HW2.out]) | (refine wpList_store_mid rfl 72 (.tmp 2) (.tmp 22) rfl w.heap.size 0 Tryz.zeroCells72 rfl rfl ?_ ?_ Tryz.imgZeroOne ?_;(rw[Tryz.imgZero];exact HT2.out);(rw[Tryz.imgZero];exact Tryz.imgSize)));refine cJ Tryz.results24 w.heap.size 0 Tryz.zeroCells72.toList _ (.int .i64 5) rfl rfl ?_ Tryz.underlying72 rfl (by rw[aL,Tryz.imgZero];exact Tryz.imgSize) rfl ?_
    ·exact aO _ _ _ _ (by rw[aL,Tryz.imgZero];exact HT2.out)
    ·refine⟨aD _ 0 _ w.heap.size HB2.out (bD _),.inl ⟨fun h=>(by have h2:=h.2;rw[HNO.out]at h2;cases h2), ?_⟩⟩;have e:chk s=5:=by unfold chk;rw[if_neg hlong,HNO.out];rfl
     rw[e]
   ·have HYES:Hid (fV s=true):=by have:=HIF.out;unfold Hid;simpa[hlt]using this
    have hda:decide ((a:Int)<(s.size:Int))=false:=by simp;omega
    go_wp2_with (first | (refine wpList_store_mid rfl 72 (.tmp 5) (.tmp 12) rfl w1.heap.size 0 IA rfl rfl ?_ ?_ HALL.out ?_;(rw[HSZ.out];exact HN2.out);(rw[HSZ.out];exact Tryz.imgSize);rw[HW2.out]) | (refine wpList_load_mid rfl 72 (.tmp 5) rfl w1.heap.size 0 rfl IL _ HRI.out Tryz.underlying72 rfl ?_ ?_;(rw[HLEN.out];exact Tryz.imgSize);rw[EIA.out]) | (refine wpList_store_mid rfl 72 (.tmp 2) (.tmp 23) rfl w.heap.size 0 IA rfl rfl ?_ ?_ HALL.out ?_;(rw[HSZ.out];exact HT2.out);(rw[HSZ.out];exact Tryz.imgSize)));refine cJ Tryz.results24 w.heap.size 0 IL _ (.int .i64 0) rfl rfl ?_ Tryz.underlying72 rfl (by rw[HLEN.out];exact Tryz.imgSize) rfl ?_
    ·have h:=aO w2 w.heap.size 0 IA.toList (by rw[aL,HSZ.out];exact HT2.out);rw[HTL.out]at h ⊢;exact h
    ·have hbs:Below w.heap.size w2 (w2.setCells w.heap.size 0 IA.toList):=aD _ 0 _ w.heap.size (cP _ _) (bD _);refine⟨HB2.out.trans hbs,.inr ⟨by omega,HYES.out,bb,vc,ys,by rw[EIL.out], ?_,eG HOF.out (by omega) _ 0,HM.out,fun y hy=> ?_,fun y hy=>(HCF.out y hy).2⟩⟩
     ·obtain⟨_,n2,n3⟩:=HNF.out.block hbs.size (fJ w2 w.heap.size 0 IA.toList bb (by omega));exact⟨by omega,n2,n3⟩
     ·obtain⟨h1,h2⟩:=HCF.out y hy;exact h1.block hbs.size (fun q _ ho=>fJ w2 w.heap.size 0 IA.toList q (by have:=h2 q ho;omega))
end Go.Proofs.YtgjgjgihceijnaaGreat
namespace Go.Stn
open Go.RowKit
theorem D1 (cl:Nat)(zs:List ((Nat×List Int)×Nat)):∀(k:Nat) (z:(Nat×List Int)×Nat),zs[k]? =some z->(stC cl zs)[2*k]? =some (.int .i64 (z.1.1:Int))/\(stC cl zs)[2*k+1]? =some (.slice (some ⟨z.2,0,none⟩) cl cl):=by
 induction zs with
 | nil=>intro k z h;simp at h
 | cons y r ih=>
  intro k z h;have e:stC cl (y::r)=Value.int .i64 (y.1.1:Int)::Value.slice (some ⟨y.2,0,none⟩) cl cl::stC cl r:=by simp[stC]
  rw[e]
  cases k with
  | zero=>simp at h;subst h;exact⟨rfl,rfl⟩
  | succ j=>
   have:=ih j z (by simpa using h);rw[show 2*(j+1)=2*j+1+1 by omega];exact⟨by simpa using this.1,by simpa using this.2⟩
theorem U6 (ys:List jG)(k:Nat)(y:jG)(h:ys[k]? =some y):(qJ ys)[k]? =some (.slice (some ⟨y.1,0,none⟩) y.2.length y.2.length):=by
 unfold qJ;rw[aR,h];rfl
theorem tI (l:List Int)(k:Nat)(x:Int)(h:l[k]? =some x):(jP l)[k]? =some (.int .i64 x):=by
 unfold jP;rw[aR,h];rfl
def Kf (s:ByteArray)(c st v:Nat):Int:=fD (bE s c st v)
structure IM (w:World)(s:ByteArray)(bb vg:Nat)(yb:Nat->Nat)(zb:Nat->Nat->Nat)(top:Nat):Prop where
 be:∀r,r<iR s->w.cell? ⟨bb,r,none⟩=some (.int .i64 (fE s r))
 co:∀c,c<iM s->w.cell? ⟨vg,c,none⟩=some (.slice (some ⟨yb c,0,none⟩) (nSt s c) (nSt s c))
 tk:∀c st,c<iM s->st<nSt s c->w.cell? ⟨yb c,2*st,none⟩=some (.int .i64 (eA s c st))
 nx:∀c st,c<iM s->st<nSt s c->w.cell? ⟨yb c,2*st+1,none⟩=some (.slice (some ⟨zb c st,0,none⟩) (iK s) (iK s))
 ld:∀c st v,c<iM s->st<nSt s c->v<256->w.cell? ⟨zb c st,oO s v,none⟩=some (.int .i64 (Kf s c st v))
 b0:bb<top
 b1:vg<top
 b2:∀c,c<iM s->yb c<top
 b3:∀c st,c<iM s->st<nSt s c->zb c st<top
structure ILo (s:ByteArray)(bb vg:Nat)(yb:Nat->Nat)(zb:Nat->Nat->Nat)(lo:Nat):Prop where
 b0:lo<=bb
 b1:lo<=vg
 b2:∀c,c<iM s->lo<=yb c
 b3:∀c st,c<iM s->st<nSt s c->lo<=zb c st
theorem IM.below {w w':World}{s:ByteArray}{bb vg:Nat}{yb:Nat->Nat}{zb:Nat->Nat->Nat}{top B:Nat}(h:IM w s bb vg yb zb top)(hB:Below B w w')(hb:top<=B):IM w' s bb vg yb zb top:=
 ⟨fun r hr=>(hB.cell (p:=⟨bb,r,none⟩) (bK h.b0 hb)).trans (h.be r hr),fun c hc=>(hB.cell (p:=⟨vg,c,none⟩) (bK h.b1 hb)).trans (h.co c hc),
  fun c st hc hs=>(hB.cell (p:=⟨yb c,2*st,none⟩) (bK (h.b2 c hc) hb)).trans (h.tk c st hc hs),fun c st hc hs=>(hB.cell (p:=⟨yb c,2*st+1,none⟩) (bK (h.b2 c hc) hb)).trans (h.nx c st hc hs),
  fun c st v hc hs hv=>(hB.cell (p:=⟨zb c st,oO s v,none⟩) (bK (h.b3 c st hc hs) hb)).trans (h.ld c st v hc hs hv),h.b0,h.b1,h.b2,h.b3⟩
theorem IM.drewN {w:World}{s:ByteArray}{bb vg:Nat}{yb:Nat->Nat}{zb:Nat->Nat->Nat}{top:Nat}(h:IM w s bb vg yb zb top)(q:Nat):IM (w.drewN q) s bb vg yb zb top:=⟨h.be,h.co,h.tk,h.nx,h.ld,h.b0,h.b1,h.b2,h.b3⟩
end Go.Stn
namespace Go.Proofs.YtgjgjgihceijnaaGreat
open Go.RowKit Go.Stn
theorem Px {w:World}{s:ByteArray}(hi:fV s=true){bb:Nat}{vc:Value}{ys:List jG}{lo:Nat}(hn:kE w lo bb (iJ s))(ho:w.ownsRow (bb+1) 110 1 vc ys.length (qJ ys))
  (hm:ys.map (fun y=>y.2.map (·.1))=vF s) (hc:∀y∈ys,iT w (gC s) y) (hk:∀y∈ys,∀k,yT y k->bb<k):∃vg cap yb zb,vc= .slice (some ⟨vg,0,none⟩) (iM s) cap/\IM w s bb vg yb zb w.heap.size/\ILo s bb vg yb zb lo:=by
 have hd:=wZ hi;have hcs:=(Q8 hi).1;have hlen:ys.length=iM s:=by have:=congrArg eL (hm.trans hcs);simpa using this
 have hM:=(nJ hi).2.2.1;have hlt:=ho.lt;obtain⟨g,cap,rfl,hbg,hgl⟩:=ho.form (by omega);have hrow:=lQ ho;have hy:∀c,c<iM s->∃y,ys[c]? =some y/\y∈ys/\y.2.map (·.1)=J3 s c:=fun c hc'=>by
  have hcl:c<ys.length:=by omega
  refine⟨ys[c],bC hcl,cT hcl, ?_⟩;have:=congrArg (fun l=>l[c]?) (hm.trans hcs);simp only[aR,bC hcl,bN hc',cL]at this;injection this
 have hz:∀c st,c<iM s->st<nSt s c->∀y,ys[c]? =some y->y∈ys->y.2.map (·.1)=J3 s c->∃z,y.2[st]? =some z/\z∈y.2/\z.1=V3 s (iK s) (oA s c st):=fun c st hc' hs' y _ _ he=>by
  have hl:y.2.length=nSt s c:=by have:=congrArg eL he;unfold J3 at this;simpa using this
  have hsl:st<y.2.length:=by omega
  refine⟨y.2[st],bC hsl,cT hsl, ?_⟩;have:=congrArg (fun l=>l[st]?) he;unfold J3 at this;simp only[aR,bC hsl,bN hs',cL]at this;injection this
 have hlenY:∀c,c<iM s->∀y,ys[c]? =some y->y.2.map (·.1)=J3 s c->y.2.length=nSt s c:=fun c _ y _ he=>by
  have:=congrArg eL he;unfold J3 at this;simpa using this
 have cellAt:∀(b k:Nat) (l:List Value) (v:Value),w.rangeAt b 0 l->l[k]? =some v->w.cell? ⟨b,k,none⟩=some v:=fun b k l v hr hk=>by
  have:=hr k v hk;rw[Nat.zero_add]at this;exact this
 refine⟨g,cap,fun c=>((ys[c]?).getD (0,[])).1,fun c st=>((((ys[c]?).getD (0,[])).2[st]?).getD ((0,[]),0)).2,by rw[hlen], ?_, ?_⟩;refine⟨fun r hr=> ?_,fun c hc'=> ?_,fun c st hc' hs'=> ?_,fun c st hc' hs'=> ?_,fun c st v hc' hs' hv=> ?_,hn.2.1,(hlt g rfl).2,fun c hc'=> ?_,fun c st hc' hs'=> ?_⟩
 ·refine cellAt _ _ _ _ hn.2.2 ?_;rw[hd.be];unfold jD;rw[aR,aR,bN hr];rfl
 ·obtain⟨y,h1,h2,h3⟩:=hy c hc';refine cellAt _ _ _ _ hrow ?_;rw[U6 ys c y h1,h1,hlenY c hc' y h1 h3];rfl
 ·obtain⟨y,h1,h2,h3⟩:=hy c hc';obtain⟨z,h4,h5,h6⟩:=hz c st hc' hs' y h1 h2 h3;simp only[h1,aT];refine cellAt _ _ _ _ (hc y h2).rg ?_;rw[(D1 _ _ st z h4).1,h6];rfl
 ·obtain⟨y,h1,h2,h3⟩:=hy c hc';obtain⟨z,h4,h5,h6⟩:=hz c st hc' hs' y h1 h2 h3;simp only[h1,aT,h4];refine cellAt _ _ _ _ (hc y h2).rg ?_;rw[(D1 _ _ st z h4).2,hd.cl]
 ·obtain⟨y,h1,h2,h3⟩:=hy c hc';obtain⟨z,h4,h5,h6⟩:=hz c st hc' hs' y h1 h2 h3;simp only[h1,aT,h4];refine cellAt _ _ _ _ ((hc y h2).rows z h5).2 (tI _ _ _ ?_);rw[h6];unfold V3;rw[aR,bN (sJ hi v hv)];unfold Kf bE;rw[cL,show oA s c st+(oO s v+1)=oA s c st+1+oO s v by omega]
 ·obtain⟨y,h1,h2,h3⟩:=hy c hc';simp only[h1,aT];exact(hc y h2).lt
 ·obtain⟨y,h1,h2,h3⟩:=hy c hc';obtain⟨z,h4,h5,h6⟩:=hz c st hc' hs' y h1 h2 h3;simp only[h1,aT,h4];exact((hc y h2).rows z h5).1
 ·have hbb:=hn.1;refine⟨hbb,by omega,fun c hc'=> ?_,fun c st hc' hs'=> ?_⟩
  ·obtain⟨y,h1,h2,h3⟩:=hy c hc';simp only[h1,aT];have:=hk y h2 y.1 (.inl rfl);omega
  ·obtain⟨y,h1,h2,h3⟩:=hy c hc';obtain⟨z,h4,h5,h6⟩:=hz c st hc' hs' y h1 h2 h3;simp only[h1,aT,h4];have:=hk y h2 z.2 (.inr ⟨z,h5,rfl⟩);omega
end Go.Proofs.YtgjgjgihceijnaaGreat
namespace Go.Stn
def cS (s inp:ByteArray)(c:Nat):Nat->Nat->Nat->Option Nat
 | st,_,0=>some st
 | st,i,d+1=>if bE s c st (bt inp i)=255 then none else cS s inp c (bE s c st (bt inp i)) (i+1) d
theorem M9 (s inp:ByteArray)(c:Nat):∀d st i,cS s inp c st i (d+1)=
  match cS s inp c st i d with
  | none=>none
  | some t=>if bE s c t (bt inp (i+d))=255 then none else some (bE s c t (bt inp (i+d))):=by
 intro d
 induction d with
 | zero=>intro st i;simp[cS]
 | succ e ih=>
  intro st i;rw[cS];split
  ·rename_i h;rw[cS,if_pos h]
  ·rename_i h;rw[ih,cS,if_neg h];have:i+1+e=i+(e+1):=by omega
   rw[this]
theorem Aw (s inp:ByteArray)(c p:Nat):∀d,mM s inp c p d=cS s inp c 0 p d:=by
 intro d
 induction d with
 | zero=>rfl
 | succ e ih=>rw[mM,ih,M9];cases cS s inp c 0 p e<;> rfl
def Am (s inp:ByteArray)(c st i:Nat):Prop:=∀d t,1<=d->i+d<=inp.size->cS s inp c st i d=some t->eA s c t=0
def sH (s inp:ByteArray)(H:List (Int×Int×Int)):Prop:=∀c st i,std c st i∈H->Am s inp c st i
theorem Pf {s inp:ByteArray}{c st i:Nat}(h:¬i<inp.size):Am s inp c st i:=by
 intro d t hd hi;omega
theorem xR {s inp:ByteArray}{c st i:Nat}(h:bE s c st (bt inp i)=255):Am s inp c st i:=by
 intro d t hd hi hs;obtain⟨e,rfl⟩:∃e,d=e+1:=⟨d - 1,by omega⟩
 rw[cS,if_pos h]at hs;cases hs
theorem Lk {s inp:ByteArray}{c st i:Nat}(h:bE s c st (bt inp i)≠255)(hm:eA s c (bE s c st (bt inp i))=0)(hd:Am s inp c (bE s c st (bt inp i)) (i+1)):Am s inp c st i:=by
 intro d t h1 hi hs;obtain⟨e,rfl⟩:∃e,d=e+1:=⟨d - 1,by omega⟩
 rw[cS,if_neg h]at hs
 cases e with
 | zero=>rw[cS]at hs;injection hs with hs;rw[←hs];exact hm
 | succ f=>exact hd (f+1) t (by omega) (by omega) hs
def iF (s inp:ByteArray)(c:Nat)(H:List (Int×Int×Int)):Nat->Nat->Nat->Option (Nat×Nat)->Option (Nat×Nat)
 | 0,_,_,best=>best
 | d+1,st,i,best=>
  if oR H (std c st i)=true then best
  else if bE s c st (bt inp i)=255 then best
  else iF s inp c H d (bE s c st (bt inp i)) (i+1) (if 0<eA s c (bE s c st (bt inp i))then some (eA s c (bE s c st (bt inp i)) - 1,i+1)else best)
theorem Hq {s inp:ByteArray}{c:Nat}:∀d st i best,i+d<=inp.size->Am s inp c st i->iF s inp c [] d st i best=best:=by
 intro d
 induction d with
 | zero=>intro st i best _ _;rfl
 | succ e ih=>
  intro st i best hi hd;rw[iF,if_neg (by simp[oR])];split
  ·rfl
  ·rename_i h;have hm:eA s c (bE s c st (bt inp i))=0:=hd 1 _ (by omega) (by omega) (by rw[cS,if_neg h,cS]);rw[if_neg (by omega)];refine ih _ _ _ (by omega) ?_;intro d t h1 h2 h3;exact hd (d+1) t (by omega) (by omega) (by rw[cS,if_neg h];exact h3)
theorem Gs {s inp:ByteArray}{c:Nat}{H:List (Int×Int×Int)}(hH:sH s inp H):∀d st i best,i+d<=inp.size->iF s inp c H d st i best=iF s inp c [] d st i best:=by
 intro d
 induction d with
 | zero=>intro st i best _;rfl
 | succ e ih=>
  intro st i best hi;by_cases hm:oR H (std c st i)=true
  ·rw[iF,if_pos hm];have hin:std c st i∈H:=by unfold oR at hm;exact cO.1 hm
   exact(Hq (e+1) st i best hi (hH c st i hin)).symm
  ·rw[iF,if_neg hm]
   conv=>rhs;rw[iF,if_neg (by simp[oR])]
   split
   ·rfl
   ·exact ih _ _ _ (by omega)
def oB (s inp:ByteArray)(c st i:Nat):Nat->Option (Nat×Nat)
 | 0=>none
 | d+1=>match cS s inp c st i (d+1)with
  | none=>oB s inp c st i d
  | some t=>if 0<eA s c t then some (eA s c t - 1,i+(d+1))else oB s inp c st i d
theorem P2 {s inp:ByteArray}{c st i:Nat}(h:bE s c st (bt inp i)=255):∀d,oB s inp c st i d=none:=by
 intro d
 induction d with
 | zero=>rfl
 | succ e ih=>
  have hs:cS s inp c st i (e+1)=none:=by rw[cS,if_pos h]
  rw[oB,hs];exact ih
theorem Fg {s inp:ByteArray}{c st i:Nat}(h:bE s c st (bt inp i)≠255):∀d,oB s inp c st i (d+1)=
  (oB s inp c (bE s c st (bt inp i)) (i+1) d).or (if 0<eA s c (bE s c st (bt inp i))then some (eA s c (bE s c st (bt inp i)) - 1,i+1)else none):=by
 intro d
 induction d with
 | zero=>
  have hs:cS s inp c st i (0+1)=some (bE s c st (bt inp i)):=by
   conv=>lhs;rw[cS,if_neg h]
   rfl
  conv=>lhs;rw[oB,hs]
  simp[oB]
 | succ e ih=>
  have hs:cS s inp c st i (e+1+1)=cS s inp c (bE s c st (bt inp i)) (i+1) (e+1):=by
   conv=>lhs;rw[cS,if_neg h]
  rw[oB,hs]
  conv=>rhs;rw[oB]
  cases cS s inp c (bE s c st (bt inp i)) (i+1) (e+1)with
  | none=>exact ih
  | some t=>
   simp only;by_cases hm:0<eA s c t
   ·rw[if_pos hm,if_pos hm];simp;omega
   ·rw[if_neg hm,if_neg hm];exact ih
theorem Gm {s inp:ByteArray}{c:Nat}:∀d st i best,iF s inp c [] d st i best=(oB s inp c st i d).or best:=by
 intro d
 induction d with
 | zero=>intro st i best;simp[iF,oB]
 | succ e ih=>
  intro st i best;rw[iF,if_neg (by simp[oR])];by_cases h:bE s c st (bt inp i)=255
  ·rw[if_pos h,P2 h];simp
  ·rw[if_neg h,ih,Fg h];by_cases hm:0<eA s c (bE s c st (bt inp i))
   ·rw[if_pos hm,if_pos hm];cases oB s inp c (bE s c st (bt inp i)) (i+1) e<;> simp
   ·rw[if_neg hm,if_neg hm];cases oB s inp c (bE s c st (bt inp i)) (i+1) e<;> simp
theorem Ux (s inp:ByteArray)(c p:Nat):∀d,qC s inp c p d=match oB s inp c 0 p d with
  | none=>(-1,p)
  | some x=>((x.1:Int),x.2):=by
 intro d
 induction d with
 | zero=>rfl
 | succ e ih=>
  rw[qC,oB];unfold sL;rw[Aw]
  cases h:cS s inp c 0 p (e+1)with
  | none=>simp only;exact ih
  | some t=>
   simp only;by_cases hm:0<eA s c t
   ·rw[if_pos hm,if_pos hm]
   ·rw[if_neg hm,if_neg hm];exact ih
theorem Hz {s inp:ByteArray}{c p:Nat}{H:List (Int×Int×Int)}(hH:sH s inp H)(hp:p<=inp.size):
  lng s inp c p=match iF s inp c H (inp.size - p) 0 p none with
   | none=>(-1,p)
   | some x=>((x.1:Int),x.2):=by
 unfold lng;rw[Gs hH _ _ _ _ (by omega),Gm,Ux]
 cases oB s inp c 0 p (inp.size - p)<;> simp
theorem W9 {c st i c' st' i':Nat}(h:std c st i=std c' st' i'):c=c'/\st=st'/\i=i':=by
 unfold std at h;injection h with h1 h2;injection h2 with h2 h3;omega
theorem Hw {s inp:ByteArray}{c:Nat}{H:List (Int×Int×Int)}(hH:sH s inp H):∀d st i S n,i+d=inp.size->
  (∀c' st' i',std c' st' i'∈S->Am s inp c st i->Am s inp c' st' i')->sH s inp (lU s inp c H d st i S n).1:=by
 intro d
 induction d with
 | zero=>
  intro st i S n hi hS c' st' i' hin;exact hS c' st' i' hin (Pf (by omega))
 | succ e ih=>
  intro st i S n hi hS;by_cases hk:oR H (std c st i)=true
  ·rw[C0 hk];intro c' st' i' hin;exact hS c' st' i' hin (hH c st i (by unfold oR at hk;exact cO.1 hk))
  ·have hk:oR H (std c st i)=false:=by simpa using hk
   by_cases hl:bE s c st (bt inp i)=255
   ·rw[uW hk hl];intro c' st' i' hin;rcases cN.1 hin with h | h
    ·exact hS c' st' i' h (xR hl)
    ·rw[cR]at h;obtain⟨rfl,rfl,rfl⟩:=W9 h;exact xR hl
   ·by_cases hm:0<eA s c (bE s c st (bt inp i))
    ·rw[zX hk hl hm];exact ih _ _ _ _ (by omega) (fun c' st' i' h=>by cases h)
    ·rw[F8 hk hl (by omega)];refine ih _ _ _ _ (by omega) (fun c' st' i' h hd=> ?_);have hd2:=Lk hl (by omega) hd;rcases cN.1 h with h | h
     ·exact hS c' st' i' h hd2
     ·rw[cR]at h;obtain⟨rfl,rfl,rfl⟩:=W9 h;exact hd2
theorem Ng {s inp:ByteArray}{c p:Nat}{H:List (Int×Int×Int)}(hH:sH s inp H)(hp:p<=inp.size):sH s inp (H++(eW s inp c H p).1):=by
 intro c' st' i' hin;rcases cN.1 hin with h | h
 ·exact hH c' st' i' h
 ·exact Hw hH _ 0 p [] 0 (by omega) (fun _ _ _ h=>by cases h) c' st' i' h
end Go.Stn
namespace Go.Stn
def dZ (l:List (Int×Int×Int)):List Value:=l.flatMap fun x=>[.int .i64 x.1,.int .i64 x.2.1,.int .i64 x.2.2]
theorem N2 (l:List (Int×Int×Int)):(dZ l).length=l.length*3:=by
 induction l with
 | nil=>rfl
 | cons a r ih=>simp only[dZ,List.flatMap_cons,List.length_append,bS,bT]at*;omega
theorem Ep (l:List (Int×Int×Int))(k:Nat)(x:Int×Int×Int)(h:l[k]? =some x):
  (dZ l)[k*3]? =some (.int .i64 x.1)/\(dZ l)[k*3+1]? =some (.int .i64 x.2.1)/\(dZ l)[k*3+2]? =some (.int .i64 x.2.2):=by
 induction l generalizing k with
 | nil=>simp at h
 | cons a r ih=>
  cases k with
  | zero=>simp at h;subst h;simp[dZ]
  | succ n=>
   have:=ih n (by simpa using h);have e:dZ (a::r)= [.int .i64 a.1,.int .i64 a.2.1,.int .i64 a.2.2]++dZ r:=rfl;rw[e];have e1:(n+1)*3=n*3+3:=by omega
   rw[e1,bM (by simp),bM (by simp only[bS,bT];omega),bM (by simp only[bS,bT];omega)];simp only[bS,bT];have a1:n*3+3 - (0+1+1+1)=n*3:=by omega
   have a2:n*3+3+1 - (0+1+1+1)=n*3+1:=by omega
   have a3:n*3+3+2 - (0+1+1+1)=n*3+2:=by omega
   rw[a1,a2,a3];exact this
theorem tF (l:List (Int×Int×Int))(x:Int×Int×Int):dZ (l++ [x])=dZ l++ [.int .i64 x.1,.int .i64 x.2.1,.int .i64 x.2.2]:=by
 simp[dZ]
end Go.Stn
namespace Go.Proofs.YtgjgjgihceijnaaGreat
open Go.RowKit Go.Stn
structure Bh (w:World)(B:Nat)(v:Value)(l:List (Int×Int×Int)):Prop where
 sh:(v= .slice none 0 0/\l= [])\/∃g cap,v= .slice (some ⟨g,0,none⟩) l.length cap/\g<B/\l.length<=cap/\cap<=maxLen/\
  ∀k x,l[k]? =some x->w.cell? ⟨g,k*3,none⟩=some (.int .i64 x.1)/\w.cell? ⟨g,k*3+1,none⟩=some (.int .i64 x.2.1)/\w.cell? ⟨g,k*3+2,none⟩=some (.int .i64 x.2.2)
theorem rS {w:World}{base e:Nat}{v:Value}{n:Nat}{l:List (Int×Int×Int)}(h:w.ownsRow base e 3 v n (dZ l)):Bh w w.heap.size v l:=by
 have hn:n=l.length:=by have:=h.1;rw[N2]at this;omega
 subst hn;refine⟨?_⟩;rcases h.2 with⟨rfl,h0⟩ | ⟨g,cap,cur,rfl,hb,hg,hnc,hcm,hcs,htake⟩
 ·exact .inl ⟨rfl,List.eq_nil_of_length_eq_zero h0⟩
 ·refine .inr ⟨g,cap,rfl,(cF.1 hg).1,hnc,hcm,fun k x hx=> ?_⟩;have hc:=h.cells (g:=g) rfl;have hadd:∀j,(⟨g,0,none⟩:Addr).add j=⟨g,j,none⟩:=fun j=>by unfold Addr.add;split<;> simp_all
  obtain⟨a1,a2,a3⟩:=Ep l k x hx;have b1:=hc _ _ a1;have b2:=hc _ _ a2;have b3:=hc _ _ a3;rw[hadd]at b1 b2 b3;exact⟨b1,b2,b3⟩
theorem Bh.below {w w':World}{B B':Nat}{v:Value}{l:List (Int×Int×Int)}(h:Bh w B v l)(hB:Below B' w w')(hle:B<=B'):Bh w' B v l:=by
 refine⟨?_⟩;rcases h.sh with hn | ⟨g,cap,hv,hg,h1,h2,hc⟩
 ·exact .inl hn
 ·refine .inr ⟨g,cap,hv,hg,h1,h2,fun k x hx=> ?_⟩;obtain⟨a1,a2,a3⟩:=hc k x hx;exact⟨(hB.cell (p:=⟨g,k*3,none⟩) (by show g<B';omega)).trans a1,(hB.cell (p:=⟨g,k*3+1,none⟩) (by show g<B';omega)).trans a2,(hB.cell (p:=⟨g,k*3+2,none⟩) (by show g<B';omega)).trans a3⟩
end Go.Proofs.YtgjgjgihceijnaaGreat
namespace Go.Proofs.YtgjgjgihceijnaaGreat
open Go.RowKit Go.Stn
variable {w w':World} {cb base top ib:Nat} {inp:ByteArray} {c:Nat} {H:List (Int×Int×Int)} {n:Nat} {T:List (Int×Int×Int)} {vh vt:Value}
theorem rB {w w':World}{base:Nat}{e:TypeId}{size:Nat}{v:Value}{m:Nat}{xs:List Value}{B:Nat}(h:w.ownsRow base e size v m xs)(hB:Below B w w')(hz:w.heap.size<=B):w'.ownsRow base e size v m xs:=by
 refine⟨h.1, ?_⟩;rcases h.2 with hn | ⟨g,cap,cur,rfl,hbg,hg,rest⟩
 ·exact .inl hn
 ·have hlt:g<w.heap.size:=(cF.1 hg).1;exact .inr ⟨g,cap,cur,rfl,hbg,(hB.block g (by omega)).trans hg,rest⟩
theorem yX {p:Prop}(h:p):Hid p:=h
theorem bZ {w:World}{base:Nat}{e:TypeId}{size:Nat}{v:Value}{m:Nat}{xs:List Value}(h:w.ownsRow base e size v m xs):v= .slice none 0 0\/∃g cap,v= .slice (some ⟨g,0,none⟩) m cap:=by
 rcases h.2 with⟨e,_⟩ | ⟨g,cap,_,e,_⟩
 ·exact .inl e
 ·exact .inr ⟨g,cap,e⟩
end Go.Proofs.YtgjgjgihceijnaaGreat
