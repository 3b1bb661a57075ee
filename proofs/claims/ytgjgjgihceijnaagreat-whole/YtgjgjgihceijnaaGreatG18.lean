import Derived.Test.YtgjgjgihceijnaaGreatG17
open List renaming replicate->aL,length_append->bD,length_set->cL
open Go.World renaming cell?_setCell_other->aO,rangeAt_setCells_same->aR,ownsRow_nil->bK,setCell->bM,cell?_setCell_same->bN,frozen?_setCell->bO,there_setCells->bS
open Go.RowKit.Below renaming heap_alloc->aT,refl->bT,heap_setCell->cF
open Nat renaming le_refl->bC,zero_add->cO
open Go.Value renaming ownBlock->cN,slice->cP
set_option maxRecDepth 100000
set_option maxHeartbeats 8000000
namespace Go.Proofs.YtgjgjgihceijnaaGreat
open Go.RowKit Go.Stn
theorem Tryz.grpZeroA:Tryz.zeroCells50=(oI (aL 256 0) (.slice none 0 0)).toArray:=by kernel_rfl
theorem Tryz.grpZeroL:Tryz.zeroCells50.toList=oI (aL 256 0) (.slice none 0 0):=by rw[Tryz.grpZeroA]
theorem Tryz.grpZeroSize:Tryz.zeroCells50.size=257:=by kernel_rfl
theorem Tryz.grpSize:(Tryz.prog.info? 50).map (·.size)=some 257:=by kernel_rfl
theorem Tryz.grpZeroOne:Tryz.zeroCells50.all (·.oneCell')=true:=by kernel_rfl
theorem Kb {w:World}{base e:Nat}{v:Value}{l:List Int}(h:w.ownsRow base e 1 v l.length (jP l)):F7 w v l:=by
 refine⟨?_⟩;rcases h.2 with⟨hv,hn⟩ | ⟨g,cap,cur,rfl,hbg,hg,hnc,hcm,hcs,htk⟩
 ·exact .inl ⟨hv,List.eq_nil_of_length_eq_zero hn⟩
 ·refine .inr ⟨g,cap,rfl,hnc,hcm,fun k x hk=> ?_⟩;have:=h.cells rfl k (.int .i64 x) (tI l k x hk);rw[pV]at this;exact this
structure GW (w0 w:World)(ofs:List Nat)(P:List Int)(vr vn vp vpl:Value):Prop where
 bl:Below w0.heap.size w0 w
 fl:w.rangeAt w0.heap.size 0 [vr,vn,vp]
 t1:w.there (w0.heap.size+1) 0 257
 rg:w.rangeAt (w0.heap.size+1+1) 0 (oI ofs vpl)
 t2:w.there (w0.heap.size+1+1) 0 257
 rp:w.ownsRow (w0.heap.size+3) 103 1 vpl P.length (jP P)
 hz:w0.heap.size+3<=w.heap.size
 ln:ofs.length=256
variable {w0 w w':World} {ofs:List Nat} {P:List Int} {vr vn vp vpl:Value}
theorem GW.below (h:GW w0 w ofs P vr vn vp vpl)(hB:Below w.heap.size w w'):GW w0 w' ofs P vr vn vp vpl:=by
 have hz:=h.hz;exact⟨h.bl.trans (hB.mono (by omega)),aC h.fl (hB.block _ (by omega)),aQ h.t1 (hB.block _ (by omega)),aC h.rg (hB.block _ (by omega)),aQ h.t2 (hB.block _ (by omega)),pI h.rp hB,by have:=hB.size;omega,h.ln⟩
theorem GW.set (h:GW w0 w ofs P vr vn vp vpl){k:Nat}{u:Value}{ofs':List Nat}(hk:k<257)(he:(oI ofs vpl).set k u=oI ofs' vpl)(hl:ofs'.length=256):GW w0 (w.setCell ⟨w0.heap.size+1+1,k,none⟩ u) ofs' P vr vn vp vpl:=by
 have hz:=h.hz;refine⟨h.bl.setCell (p:=⟨w0.heap.size+1+1,k,none⟩) (by show w0.heap.size<=w0.heap.size+1+1;omega) u,uZ h.fl (by omega) u,jM h.t1 _ _, ?_,jM h.t2 _ _,ownsRow_setCell_below h.rp (by show w0.heap.size+1+1<w0.heap.size+3;omega) _,by simp[bM];omega,hl⟩;rw[←he];exact rY h.rg k (by rw[xQ _ _ h.ln];exact hk) u
theorem GW.cell (h:GW w0 w ofs P vr vn vp vpl){k:Nat}{v:Value}(hk:(oI ofs vpl)[k]? =some v):w.cell? ⟨w0.heap.size+1+1,k,none⟩=some v:=by
 have:=h.rg k v hk;rw[cO]at this;exact this
theorem GW.fz (h:GW w0 w ofs P vr vn vp vpl){k:Nat}(hk:k<257):w.frozen? ⟨w0.heap.size+1+1,k,none⟩=false:=by
 have:=(h.t2 k hk).2;rw[cO]at this;exact this
theorem GW.more {w4:World}(h:GW w0 w ofs P vr vn vp vpl){o:Obj}{x:Int}{g cap:Nat}
  (hown:w4.ownsRow (w0.heap.size+3) 103 1 (.slice (some ⟨g,0,none⟩) (P.length+1) cap) (P.length+1) (jP P++ [.int .i64 x])) (hgrow:(w.alloc o).grownBy w4 vpl.ownBlock):
  GW w0 (w4.setCell ⟨w0.heap.size+1+1,256,none⟩ (.slice (some ⟨g,0,none⟩) (P.length+1) cap)) ofs (P++ [x]) vr vn vp (.slice (some ⟨g,0,none⟩) (P.length+1) cap)/\Below (w0.heap.size+3) w w4:=by
 have hz:=h.hz;have hsz:=hgrow.size;simp at hsz;have blk:∀k,k<w0.heap.size+3->w4.heap[k]? =w.heap[k]? :=fun k hk=>(hgrow.block k (by simp;omega) (fun e=>by have:=(h.rp.lt k e.symm).1;omega)).trans (aT w o k (by omega))
 have hb:Below (w0.heap.size+3) w w4:=⟨hgrow.os,hgrow.tape,hgrow.output,by omega,blk⟩
 have hr4:w4.rangeAt (w0.heap.size+1+1) 0 (oI ofs vpl):=aC h.rg (blk _ (by omega));refine⟨⟨(h.bl.trans (hb.mono (by omega))).setCell (p:=⟨w0.heap.size+1+1,256,none⟩) (by show w0.heap.size<=w0.heap.size+1+1;omega) _,uZ (aC h.fl (blk _ (by omega))) (by omega) _,jM (aQ h.t1 (blk _ (by omega))) _ _, ?_,jM (aQ h.t2 (blk _ (by omega))) _ _, ?_,by simp[bM];omega,h.ln⟩,hb⟩
 ·rw[←Ce ofs vpl _ h.ln];exact rY hr4 256 (by rw[xQ _ _ h.ln];omega) _
 ·rw[nB,bD];exact ownsRow_setCell_below hown (by show w0.heap.size+1+1<w0.heap.size+3;omega) _
def Om (w:World)(R:List Nat×List Int)(e:Ending)(w':World):Prop:=
 ∃vpl,e= .returned (.agg (oI R.1 vpl).toArray)/\R.1.length=256/\w'.ownsRow (w.heap.size+3) 103 1 vpl R.2.length (jP R.2)/\Below w.heap.size w w'
theorem Gl (places:List (Nat->Bool))(qg qcap:Nat)(vr vn:Value)(w:World)(hn:places.length<=10)(hp:rI w qg places)(hg:qg<w.heap.size):
  Calls Tryz.prog 17 #[.agg #[vr,vn,.slice (some ⟨qg,0,none⟩) places.length qcap]] w fun e w'=>Om w (kH places) e w':=by
 have HP:=aA hp;clear hp;obtain⟨vp,EVP⟩:∃v,cP (some ⟨qg,0,none⟩) places.length qcap=v:=⟨_,rfl⟩
 rw[EVP];have HT2:=aA (bI ((w.alloc (.cells #[vr,vn,vp] 44)).alloc (.cells Tryz.zeroCells50 50)) Tryz.zeroCells50 50 (w.heap.size+1+1) 257 Tryz.grpZeroSize (by simp));have HG0:Hid (GW w ((((w.alloc (.cells #[vr,vn,vp] 44)).alloc (.cells Tryz.zeroCells50 50)).alloc (.cells Tryz.zeroCells50 50)).setCells (w.heap.size+1+1) 0 Tryz.zeroCells50.toList) (aL 256 0) [] vr vn vp (.slice none 0 0)):=by
  have b1:Below w.heap.size w (((w.alloc (.cells #[vr,vn,vp] 44)).alloc (.cells Tryz.zeroCells50 50)).alloc (.cells Tryz.zeroCells50 50)):=(((bT _ _).alloc (bC _) _).alloc (by simp) _).alloc (by simp;omega) _;have hz:=(aD Tryz.zeroCells50.toList 0 (((w.alloc (.cells #[vr,vn,vp] 44)).alloc (.cells Tryz.zeroCells50 50)).alloc (.cells Tryz.zeroCells50 50)) (w.heap.size+1+1) (bT 0 _) (Nat.zero_le _)).size;simp at hz;have b2:Below (w.heap.size+1+1) (((w.alloc (.cells #[vr,vn,vp] 44)).alloc (.cells Tryz.zeroCells50 50)).alloc (.cells Tryz.zeroCells50 50)) ((((w.alloc (.cells #[vr,vn,vp] 44)).alloc (.cells Tryz.zeroCells50 50)).alloc (.cells Tryz.zeroCells50 50)).setCells (w.heap.size+1+1) 0 Tryz.zeroCells50.toList):=aD _ 0 _ _ (bT _ _) (bC _);have f0:=gI w #[vr,vn,vp] 44;have f1:(((w.alloc (.cells #[vr,vn,vp] 44)).alloc (.cells Tryz.zeroCells50 50)).alloc (.cells Tryz.zeroCells50 50)).rangeAt w.heap.size 0 [vr,vn,vp]:=aC (aC f0 (aT _ _ _ (by simp))) (aT _ _ _ (by simp;omega));have t1:=bI (w.alloc (.cells #[vr,vn,vp] 44)) Tryz.zeroCells50 50 (w.heap.size+1) 257 Tryz.grpZeroSize (by simp);refine⟨b1.trans (b2.mono (by omega)),aC f1 (b2.block _ (by omega)),aQ (World.there_alloc t1 _) (b2.block _ (by omega)), ?_,bS HT2.out _ _ _,bK _ _ _ _,by omega,List.length_replicate⟩;rw[←Tryz.grpZeroL];exact aR _ _ _ _ (by rw[Array.length_toList,Tryz.grpZeroSize];exact HT2.out)
 go_enter Tryz.func17,Tryz.ntmps17;go_upto_region 2 with(first
  | (refine wpList_store_mid rfl 50 (.tmp 3) (.tmp 7) rfl (w.heap.size+1+1) 0 Tryz.zeroCells50 ?_ rfl ?_ ?_ Tryz.grpZeroOne ?_;rfl;(rw[Tryz.grpZeroSize];exact HT2.out);(rw[Tryz.grpZeroSize];exact Tryz.grpSize)))
 generalize (((w.alloc (.cells #[vr,vn,vp] 44)).alloc (.cells Tryz.zeroCells50 50)).alloc (.cells Tryz.zeroCells50 50)).setCells (w.heap.size+1+1) 0 Tryz.zeroCells50.toList=W0 at*;clear HT2;obtain⟨FC,EFC⟩:∃c,kH places=c:=⟨_,rfl⟩
 have HFC:Hid (yL (uR places) 256 0 [] []=FC):=EFC;replace EFC:=aA EFC;replace EVP:=aA EVP;go_wp2_with fail
 go_loopg [8] 256 (fun gk iv wr=>∃(b:Nat) (ofs:List Nat) (P:List Int) (vpl:Value),iv= .int .i64 (b:Int)/\b+gk=256/\ofs.length=b/\P.length<=b/\FC=yL (uR places) gk b ofs P/\GW w wr (ofs++aL gk 0) P vr vn vp vpl)
 case atStart=>exact⟨0,[],[],.slice none 0 0,rfl,rfl,rfl,bC _,HFC.out.symm,HG0.out⟩
 case round=>
  obtain⟨b,ofs,P,vpl,rfl,hbg,hol,hPl,heq,hgw⟩:=hrel;have HQ:=aA heq;have HG:=aA hgw;have HOL:=aA hol;clear heq hgw hol HG0 HFC;by_cases hlt:b<256
  ·obtain⟨d,rfl⟩:∃d,gk=d+1:=⟨gk - 1,by omega⟩
   have hd1:decide ((b:Int)<256)=true:=by simp;omega
   have hal:=Gx places qg qcap b vr vn wr hn hlt (HP.out.below HG.out.bl hg) (by have:=HG.out.bl.size;omega);rw[EVP.out]at hal;have HQ2:Hid (FC=yL (uR places) d (b+1) (ofs++ [cY P (uR places b)]) (if cY P (uR places b)=P.length then P++ [uR places b]else P)):=HQ.out;generalize uR places b=x at*;go_wp2_with (first | (refine wpList_load_mid rfl 44 (.tmp 1) rfl w.heap.size 0 rfl [vr,vn,vp] _ HG.out.fl Tryz.underlying44 rfl Tryz.fileSize ?_) | fail);refine hal.mono ?_;rintro e w1 ⟨rfl,hb1⟩;have HG1:=aA (HG.out.below hb1);clear hb1 hal HG;have c256:=HG1.out.cell (Bc _ _ HG1.out.ln);go_wp2_with fail;refine(Mc P vpl x w1 (by omega) (Kb HG1.out.rp)).mono ?_;rintro e w2 ⟨rfl,rfl⟩;have hfl:=Sb P x;obtain⟨fp,hfp⟩:∃f,cY P x=f:=⟨_,rfl⟩
   rw[hfp]at HQ2 hfl ⊢;replace hfp:=aA hfp;obtain⟨va,vcap,hvp⟩:=aK HG1.out.rp;subst hvp;have hml:b<(ofs++aL (d+1) 0).length:=by rw[HG1.out.ln];exact hlt
   have HE:Hid ((ofs++aL (d+1) 0).set b fp=(ofs++ [fp])++aL d 0):=by unfold Hid;rw[←HOL.out];exact Cy ofs d fp
   have hbI:(0:Int)<=(b:Int)/\(b:Int)<256:=by omega
   by_cases hfe:fp=P.length
   ·rw[if_pos hfe]at HQ2;have hd2:((fp:Int)==(P.length:Int))=true:=by rw[hfe];simp
    have hne:some (w.heap.size+1+1)≠(cP va P.length vcap).ownBlock:=fun e=>by have:=(HG1.out.rp.lt _ e.symm).1;omega
    have f256:=HG1.out.fz (k:=256) (by omega);have hzz:=HG1.out.hz;clear hfe;go_wp2_with (first | (at_builtin;refine aF w2 rfl (.tmp 24) (.tmp 26) 48 rfl (w.heap.size+3) 103 (.int .i64 0) 1 8 Tryz.underlying48 Tryz.infoSet rfl (by decide) (by decide) (.slice va P.length vcap) P.length (jP P) [.int .i64 x] _ rfl HG1.out.rp _ rfl rfl rfl (by simp[Value.oneCell']) (by omega) (by omega) ?_;intro g4 cap4 w4 hown4 hgrow4 hat4 hlt4;have HM:=aA (HG1.out.more (x:=x) hown4 hgrow4);have m3:=(HM.out.2.cell (p:=⟨w.heap.size+1+1,256,none⟩) (show w.heap.size+1+1<w.heap.size+3 by omega)).trans c256;have n3:=(HM.out.2.frozen (p:=⟨w.heap.size+1+1,256,none⟩) (show w.heap.size+1+1<w.heap.size+3 by omega)).trans f256;have e5:=HM.out.1.cell (On _ _ b hml);have e6:=HM.out.1.fz (k:=b) (by omega);clear c256 f256) | fail);have HGS:=aA (HM.out.1.set (k:=b) (u:= .int .i64 (fp:Int)) (by omega) (U1 _ _ b fp hml) (by rw[cL];exact HM.out.1.ln));rw[HE.out]at HGS;go_roundg d
    case measure=>omega
    case rel=>exact⟨b+1,ofs++ [fp],P++ [x],_,by go_num,by omega,by simp[HOL.out],by simp;omega,HQ2.out,HGS.out⟩
   ·rw[if_neg hfe]at HQ2;have hd2:((fp:Int)==(P.length:Int))=false:=by rw[beq_eq_false_iff_ne];omega
    have e5:=HG1.out.cell (On _ _ b hml);have e6:=HG1.out.fz (k:=b) (by omega);have HGS:=aA (HG1.out.set (k:=b) (u:= .int .i64 (fp:Int)) (by omega) (U1 _ _ b fp hml) (by rw[cL];exact HG1.out.ln));rw[HE.out]at HGS;clear hfe;generalize (ofs++aL (d+1) 0)[b]=old at*;go_wp2;go_roundg d
    case measure=>omega
    case rel=>exact⟨b+1,ofs++ [fp],P,_,by go_num,by omega,by simp[HOL.out],by omega,HQ2.out,HGS.out⟩
  ·have e:gk=0:=by omega
   subst e;have hd1:decide ((b:Int)<256)=false:=by simp;omega
   have HE:Hid (FC=(ofs,P)):=HQ.out;have HGF:=HG;rw[List.replicate_zero,List.append_nil]at HGF;obtain⟨va,vcap,hvp⟩:=aK HGF.out.rp;subst hvp;have HLEN:=aA (xQ ofs (.slice va P.length vcap) HGF.out.ln);have HONE:Hid (∀v∈oI ofs (.slice va P.length vcap),v.oneCell'=true):=fun v hv=>by
    unfold oI jD at hv;rcases List.mem_append.1 hv with h1 | h1
    ·rw[List.mem_map]at h1;obtain⟨y,_,rfl⟩:=h1;rfl
    ·rw[List.mem_singleton]at h1;rw[h1];rfl
   obtain⟨IL,EIL⟩:∃l,oI ofs (.slice va P.length vcap)=l:=⟨_,rfl⟩
   have HIM:Hid (wr.rangeAt (w.heap.size+1+1) 0 IL):=by rw[←EIL];exact HGF.out.rg
   rw[EIL]at HONE HLEN;replace EIL:=aA EIL;have HSZ:Hid (IL.toArray.size=257):=by unfold Hid;simpa using HLEN.out
   have HT0:Hid (wr.there (w.heap.size+1) 0 IL.length):=by unfold Hid;rw[HLEN.out];exact HGF.out.t1
   clear HG;go_wp2_with (first
    | (refine wpList_load_mid rfl 50 (.tmp 3) rfl (w.heap.size+1+1) 0 rfl IL _ HIM.out Tryz.underlying50 rfl ?_ ?_;(rw[HLEN.out];exact Tryz.grpSize))
    | (refine wpList_store_mid rfl 50 (.tmp 2) (.tmp 34) rfl (w.heap.size+1) 0 IL.toArray rfl rfl ?_ ?_ (all_oneCell_toArray HONE.out) ?_;(rw[HSZ.out];exact HGF.out.t1);(rw[HSZ.out];exact Tryz.grpSize)))
   refine eP Tryz.results17 (w.heap.size+1) 0 IL _ rfl ?_ Tryz.underlying50 rfl (by rw[HLEN.out];exact Tryz.grpSize) rfl ?_
   ·exact aR _ _ _ _ HT0.out
   ·refine⟨.slice va P.length vcap, ?_, ?_, ?_, ?_⟩
    ·rw[EFC.out,HE.out,EIL.out]
    ·rw[EFC.out,HE.out];exact HGF.out.ln
    ·rw[EFC.out,HE.out];exact eG HGF.out.rp (by omega) _ 0
    ·exact aD _ 0 _ _ HGF.out.bl (Nat.le_succ _)
end Go.Proofs.YtgjgjgihceijnaaGreat
namespace Go.Stn
open Go.RowKit
abbrev kN:=Int×Int×Bool
def gH (p:kN):List Value:= [.int .i64 p.1,.int .i64 p.2.1,.bool p.2.2]
def kM:kN:=(0,0,false)
def uF (w:World)(g:Nat)(nodes:List (Int×Int×Int)):Prop:=∀k x,nodes[k]? =some x->w.rangeAt g (k*3) [.int .i64 x.1,.int .i64 x.2.1,.int .i64 x.2.2]
theorem uF.below {w w':World}{g B:Nat}{nodes:List (Int×Int×Int)}(h:uF w g nodes)(hB:Below B w w')(hg:g<B):uF w' g nodes:=fun k x hk=>aC (h k x hk) (hB.block g hg)
def Ai (nodes:List (Int×Int×Int)):Prop:=∀(k:Nat) (x:Int×Int×Int),nodes[k]? =some x->0<=x.1/\x.1<=5/\(x.1=0->0<=x.2.1/\x.2.1<10)/\(x.1≠0->0<=x.2.1/\x.2.1<k/\0<=x.2.2/\x.2.2<k)
def jA (ps:Nat->kN)(x:Int×Int×Int)(next:Nat->Int):kN×(Nat->Int):=
 if x.1=0 then iS x.1 x.2.1 kM kM next else iS x.1 x.2.1 (ps x.2.1.toNat) (ps x.2.2.toNat) next
def cQ:List (Int×Int×Int)->Nat->(Nat->kN)->(Nat->Int)->(Nat->kN)×(Nat->Int)
 | [],_,ps,next=>(ps,next)
 | x::l,k,ps,next=>cQ l (k+1) (fun i=>if i=k then(jA ps x next).1 else ps i) (jA ps x next).2
theorem Hu {nodes:List (Int×Int×Int)}{k:Nat}{x:Int×Int×Int}(h:nodes[k]? =some x)(ps:Nat->kN)(next:Nat->Int):cQ (nodes.drop k) k ps next=cQ (nodes.drop (k+1)) (k+1) (fun i=>if i=k then(jA ps x next).1 else ps i) (jA ps x next).2:=by
 have e:nodes.drop k=x::nodes.drop (k+1):=by
  obtain⟨hk,he⟩:=List.getElem?_eq_some_iff.1 h;rw[List.drop_eq_getElem_cons hk,he]
 rw[e,cQ]
def oW (w:World)(pb n:Nat)(ps:Nat->kN):Prop:=∀j,j<n->w.rangeAt pb (j*3) (gH (ps j))/\w.there pb (j*3) 3
theorem oW.block {w w':World}{pb n:Nat}{ps:Nat->kN}(h:oW w pb n ps)(hb:w'.heap[pb]? =w.heap[pb]?):oW w' pb n ps:=fun j hj=>⟨aC (h j hj).1 hb,aQ (h j hj).2 hb⟩
theorem oW.set {w:World}{pb n:Nat}{ps:Nat->kN}(h:oW w pb n ps){k:Nat}(hk:k<n)(p:kN):oW (w.setCells pb (k*3) (gH p)) pb n (fun i=>if i=k then p else ps i):=fun j hj=>by
 refine⟨?_,bS (h j hj).2 _ _ _⟩;by_cases e:j=k
 ·subst e;simp only[if_pos];exact aR w pb (j*3) (gH p) (h j hj).2
 ·simp only[if_neg e];exact World.rangeAt_setCells_apart (h j hj).1 _ _ _ (.inr (by show j*3+3<=k*3\/k*3+3<=j*3;omega))
end Go.Stn
namespace Go.Proofs.YtgjgjgihceijnaaGreat
open Go.RowKit Go.Stn
theorem G4 (kd y z:Int)(next:Nat->Int)(l r:kN)(nb:Nat)(vf vl:Value)(w:World)(hk:0<=kd/\kd<=5)(h0:kd=0->0<=y/\y<10)(hnb:nb<w.heap.size)(h:dH w nb vf vl next):
  Calls Tryz.prog 68 #[.pointer (some ⟨nb,0,none⟩),.agg #[.int .i64 kd,.int .i64 y,.int .i64 z],lW l,lW r] w (mQ w nb vf vl (iS kd y l r next)):=by
 have:kd=0\/kd=1\/kd=2\/kd=3\/kd=4\/kd=5:=by omega
 rcases this with rfl | rfl | rfl | rfl | rfl | rfl
 ·obtain⟨p,rfl⟩:∃p:Nat,y=(p:Int):=⟨y.toNat,by have:=h0 rfl;omega⟩
  exact Uo next p (by have:=h0 rfl;omega) z l r nb vf vl w hnb h
 ·exact Vk next y z l r nb vf vl w hnb h
 ·exact Tf next y z l r nb vf vl w hnb h
 ·exact Vi next y z l r nb vf vl w hnb h
 ·exact Uw next y z l r nb vf vl w hnb h
 ·exact St next y z l r nb vf vl w hnb h
structure LW (w0 w:World)(n:Nat)(ps:Nat->kN)(next:Nat->Int)(vr vn vp:Value):Prop where
 bl:Below w0.heap.size w0 w
 fl:w.rangeAt w0.heap.size 0 [vr,vn,vp]
 t1:w.there (w0.heap.size+1) 0 12
 nt:dH w (w0.heap.size+1+1) (.slice none 0 0) (.slice none 0 0) next
 pt:oW w (w0.heap.size+1+1+1) n ps
 hz:w0.heap.size+4<=w.heap.size
variable {w0 w w':World} {n:Nat} {ps:Nat->kN} {next next':Nat->Int} {vr vn vp:Value}
theorem LW.below (h:LW w0 w n ps next vr vn vp)(hB:Below w.heap.size w w'):LW w0 w' n ps next vr vn vp:=by
 have hz:=h.hz;exact⟨h.bl.trans (hB.mono (by omega)),aC h.fl (hB.block _ (by omega)),aQ h.t1 (hB.block _ (by omega)),h.nt.below hB (by omega),h.pt.block (hB.block _ (by omega)),by have:=hB.size;omega⟩
theorem LW.net (h:LW w0 w n ps next vr vn vp)(hg:w.grownBy w' (some (w0.heap.size+1+1)))(hn:dH w' (w0.heap.size+1+1) (.slice none 0 0) (.slice none 0 0) next'):LW w0 w' n ps next' vr vn vp:=by
 have hz:=h.hz;have ne:∀k,k≠w0.heap.size+1+1->some k≠some (w0.heap.size+1+1):=fun k hk e=>by injection e;omega
 exact⟨⟨hg.os.trans h.bl.os,hg.tape.trans h.bl.tape,hg.output.trans h.bl.output,Nat.le_trans h.bl.size hg.size,fun k hk=>(hg.block k (by omega) (ne k (by omega))).trans (h.bl.block k hk)⟩,aC h.fl (hg.block _ (by omega) (ne _ (by omega))),aQ h.t1 (hg.block _ (by omega) (ne _ (by omega))),hn,h.pt.block (hg.block _ (by omega) (ne _ (by omega))),by have:=hg.size;omega⟩
theorem LW.part (h:LW w0 w n ps next vr vn vp){k:Nat}(hk:k<n)(p:kN):LW w0 (w.setCells (w0.heap.size+1+1+1) (k*3) (gH p)) n (fun i=>if i=k then p else ps i) next vr vn vp:=by
 have hz:=h.hz;have hb:Below (w0.heap.size+1+1+1) w (w.setCells (w0.heap.size+1+1+1) (k*3) (gH p)):=aD _ _ _ _ (bT _ _) (bC _);exact⟨h.bl.trans (hb.mono (by omega)),aC h.fl (hb.block _ (by omega)),aQ h.t1 (hb.block _ (by omega)),h.nt.below hb (by omega),h.pt.set hk p,by have:=hb.size;omega⟩
structure LX (w0 w:World)(n:Nat)(ps:Nat->kN)(next:Nat->Int)(fi la:List Int)(vf vl vr vn vp:Value):Prop where
 bl:Below w0.heap.size w0 w
 fl:w.rangeAt w0.heap.size 0 [vr,vn,vp]
 t1:w.there (w0.heap.size+1) 0 12
 nt:dH w (w0.heap.size+1+1) vf vl next
 pt:oW w (w0.heap.size+1+1+1) n ps
 rf:w.ownsRow (w0.heap.size+4) 103 1 vf fi.length (jP fi)
 rl:w.ownsRow (w0.heap.size+4) 103 1 vl la.length (jP la)
 ap:∀k,vf.ownBlock=some k->vl.ownBlock=some k->False
 hz:w0.heap.size+4<=w.heap.size
theorem LW.more (h:LW w0 w n ps next vr vn vp):LX w0 w n ps next [] [] (.slice none 0 0) (.slice none 0 0) vr vn vp:=
 ⟨h.bl,h.fl,h.t1,h.nt,h.pt,bK _ _ _ _,bK _ _ _ _,(fun k hk _=>by cases hk),h.hz⟩
variable {fi la:List Int} {vf vl:Value}
theorem LX.below (h:LX w0 w n ps next fi la vf vl vr vn vp)(hB:Below w.heap.size w w'):LX w0 w' n ps next fi la vf vl vr vn vp:=by
 have hz:=h.hz;exact⟨h.bl.trans (hB.mono (by omega)),aC h.fl (hB.block _ (by omega)),aQ h.t1 (hB.block _ (by omega)),h.nt.below hB (by omega),h.pt.block (hB.block _ (by omega)),pI h.rf hB,pI h.rl hB,h.ap,by have:=hB.size;omega⟩
theorem dH.set0 {w:World}{nb:Nat}{vf vl:Value}{next:Nat->Int}(h:dH w nb vf vl next)(u:Value):dH (w.setCell ⟨nb,0,none⟩ u) nb u vl next:=
 ⟨bN _ _ _ h.c0,by rw[aO (h:=by intro e;injection e;omega)];exact h.c1,fun k hk=>by rw[aO (h:=by intro e;injection e;omega)];exact h.nx k hk,fun i=>by rw[bO];exact h.fz i⟩
theorem dH.set1 {w:World}{nb:Nat}{vf vl:Value}{next:Nat->Int}(h:dH w nb vf vl next)(u:Value):dH (w.setCell ⟨nb,1,none⟩ u) nb vf u next:=
 ⟨by rw[aO (h:=by intro e;injection e;omega)];exact h.c0,bN _ _ _ h.c1,fun k hk=>by rw[aO (h:=by intro e;injection e;omega)];exact h.nx k hk,fun i=>by rw[bO];exact h.fz i⟩
theorem LX.moreF {w4:World}(h:LX w0 w n ps next fi la vf vl vr vn vp){o:Obj}{x:Int}{g cap:Nat}
  (hown:w4.ownsRow (w0.heap.size+4) 103 1 (.slice (some ⟨g,0,none⟩) (fi.length+1) cap) (fi.length+1) (jP fi++ [.int .i64 x])) (hgrow:(w.alloc o).grownBy w4 vf.ownBlock) (hat:vf.ownBlock=some g\/g=w.heap.size+1):
  LX w0 (w4.setCell ⟨w0.heap.size+1+1,0,none⟩ (.slice (some ⟨g,0,none⟩) (fi.length+1) cap)) n ps next (fi++ [x]) la (.slice (some ⟨g,0,none⟩) (fi.length+1) cap) vl vr vn vp/\Below (w0.heap.size+4) w w4:=by
 have hz:=h.hz;have hsz:=hgrow.size;simp at hsz;have blk:∀k,k<w.heap.size->vf.ownBlock≠some k->w4.heap[k]? =w.heap[k]? :=fun k hk hv=>(hgrow.block k (by simp;omega) (fun e=>hv e.symm)).trans (aT w o k hk)
 have hb:Below (w0.heap.size+4) w w4:=⟨hgrow.os,hgrow.tape,hgrow.output,by omega,fun k hk=>blk k (by omega) (fun e=>by have:=(h.rf.lt k e).1;omega)⟩
 have hbs:Below (w0.heap.size+1+1) w4 (w4.setCell ⟨w0.heap.size+1+1,0,none⟩ (.slice (some ⟨g,0,none⟩) (fi.length+1) cap)):=mL (bC _);have hset:∀k,k≠w0.heap.size+1+1->(w4.setCell ⟨w0.heap.size+1+1,0,none⟩ (.slice (some ⟨g,0,none⟩) (fi.length+1) cap)).heap[k]? =w4.heap[k]? :=fun k hk=>cF _ _ _ _ hk
 refine⟨⟨(h.bl.trans (hb.mono (by omega))).trans (hbs.mono (by omega)),aC (aC h.fl (hb.block _ (by omega))) (hset _ (by omega)),aQ (aQ h.t1 (hb.block _ (by omega))) (hset _ (by omega)),(h.nt.below hb (by omega)).set0 _,(h.pt.block (hb.block _ (by omega))).block (hset _ (by omega)), ?_, ?_,fun k h1 h2=> ?_,by simp[bM];omega⟩,hb⟩
 ·rw[nB,bD];exact ownsRow_setCell_below hown (by show w0.heap.size+1+1<w0.heap.size+4;omega) _
 ·exact ownsRow_setCell_below (cV h.rl (fun k hk=>blk k (h.rl.lt k hk).2 (fun e=>h.ap k e hk))) (by show w0.heap.size+1+1<w0.heap.size+4;omega) _
 ·have e:g=k:=by simpa[cN]using h1
  subst e;rcases hat with q | q
  ·exact h.ap g q h2
  ·have:=(h.rl.lt g h2).2;omega
theorem LX.moreL {w4:World}(h:LX w0 w n ps next fi la vf vl vr vn vp){o:Obj}{x:Int}{g cap:Nat}
  (hown:w4.ownsRow (w0.heap.size+4) 103 1 (.slice (some ⟨g,0,none⟩) (la.length+1) cap) (la.length+1) (jP la++ [.int .i64 x])) (hgrow:(w.alloc o).grownBy w4 vl.ownBlock) (hat:vl.ownBlock=some g\/g=w.heap.size+1):
  LX w0 (w4.setCell ⟨w0.heap.size+1+1,1,none⟩ (.slice (some ⟨g,0,none⟩) (la.length+1) cap)) n ps next fi (la++ [x]) vf (.slice (some ⟨g,0,none⟩) (la.length+1) cap) vr vn vp/\Below (w0.heap.size+4) w w4:=by
 have hz:=h.hz;have hsz:=hgrow.size;simp at hsz;have blk:∀k,k<w.heap.size->vl.ownBlock≠some k->w4.heap[k]? =w.heap[k]? :=fun k hk hv=>(hgrow.block k (by simp;omega) (fun e=>hv e.symm)).trans (aT w o k hk)
 have hb:Below (w0.heap.size+4) w w4:=⟨hgrow.os,hgrow.tape,hgrow.output,by omega,fun k hk=>blk k (by omega) (fun e=>by have:=(h.rl.lt k e).1;omega)⟩
 have hbs:Below (w0.heap.size+1+1) w4 (w4.setCell ⟨w0.heap.size+1+1,1,none⟩ (.slice (some ⟨g,0,none⟩) (la.length+1) cap)):=mL (bC _);have hset:∀k,k≠w0.heap.size+1+1->(w4.setCell ⟨w0.heap.size+1+1,1,none⟩ (.slice (some ⟨g,0,none⟩) (la.length+1) cap)).heap[k]? =w4.heap[k]? :=fun k hk=>cF _ _ _ _ hk
 refine⟨⟨(h.bl.trans (hb.mono (by omega))).trans (hbs.mono (by omega)),aC (aC h.fl (hb.block _ (by omega))) (hset _ (by omega)),aQ (aQ h.t1 (hb.block _ (by omega))) (hset _ (by omega)),(h.nt.below hb (by omega)).set1 _,(h.pt.block (hb.block _ (by omega))).block (hset _ (by omega)), ?_, ?_,fun k h1 h2=> ?_,by simp[bM];omega⟩,hb⟩
 ·exact ownsRow_setCell_below (cV h.rf (fun k hk=>blk k (h.rf.lt k hk).2 (fun e=>h.ap k hk e))) (by show w0.heap.size+1+1<w0.heap.size+4;omega) _
 ·rw[nB,bD];exact ownsRow_setCell_below hown (by show w0.heap.size+1+1<w0.heap.size+4;omega) _
 ·have e:g=k:=by simpa[cN]using h2
  subst e;rcases hat with q | q
  ·exact h.ap g h1 q
  ·have:=(h.rf.lt g h1).2;omega
end Go.Proofs.YtgjgjgihceijnaaGreat
