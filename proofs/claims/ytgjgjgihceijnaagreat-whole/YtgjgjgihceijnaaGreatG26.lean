import Derived.Test.YtgjgjgihceijnaaGreatG25
import Derived.Test.YtgjgjgihceijnaaGreatG23
open List renaming getD_eq_getElem?_getD->aL,getElem?_eq_getElem->aO,mem_singleton->aT,getElem_mem->bD,mem_append->bK,getElem?_toArray->bM,flatMap_cons->bN
open Nat renaming zero_add->aR,le_refl->bC,succ_mul->bT,zero_le->cF
open Go.RowKit.Below renaming refl->bO
open Go.Value renaming int->bS
set_option maxRecDepth 100000
set_option maxHeartbeats 8000000
namespace Go.Stn
open Go.RowKit
theorem B7 {α:Type}{f:α->List Value}{m:Nat}(hm:∀x,(f x).length=m):∀(l:List α) (k i:Nat) (x:α),l[k]? =some x->i<m->(l.flatMap f)[k*m+i]? =(f x)[i]?
 | [],k,i,x,h,_=>by simp at h
 | a::l,0,i,x,h,hi=>by
  simp at h;subst h;rw[bN,Nat.zero_mul,aR,List.getElem?_append_left (by rw[hm];exact hi)]
 | a::l,k+1,i,x,h,hi=>by
  rw[List.getElem?_cons_succ]at h;rw[bN,List.getElem?_append_right (by rw[hm,bT];omega),hm];rw[show(k+1)*m+i - m=k*m+i by rw[bT];omega];exact B7 hm l k i x h hi
theorem vX {α:Type}{f:α->List Value}{m:Nat}(hm:∀x,(f x).length=m){w:World}{g:Nat}{l:List α}(h:w.rangeAt g 0 (l.flatMap f)){k:Nat}{x:α}(hk:l[k]? =some x):w.rangeAt g (k*m) (f x):=fun i v hv=>by
 have hi:i<m:=by rw[←hm x];exact(List.getElem?_eq_some_iff.1 hv).1
 have:=h (k*m+i) v (by rw[B7 hm l k i x hk hi];exact hv)
 rwa [aR]at this
theorem oU {w:World}{base e size n g cap:Nat}{xs:List Value}(h:w.ownsRow base e size (.slice (some ⟨g,0,none⟩) n cap) n xs):w.rangeAt g 0 xs:=fun i v hv=>by
 have:=h.cells rfl i v hv;rw[pV]at this;rw[aR];exact this
structure Qh (st:PSt):Prop where
 nn:st.nodes.length<=1000
 n0:0<st.nodes.length
 ok:Ai st.nodes
 r0:0<st.rules.length
 r1:st.rules.length<=255
 ro:∀x∈st.rules,0<=x.2.2/\x.2.2<st.nodes.length
 be:∀x∈st.rules,0<=x.2.1/\x.2.1<=255
 p0:0<st.places.length
 p1:st.places.length<=10
 g0:0<(kH st.places).2.length
 g1:(kH st.places).2.length<=256
 gl:∀x∈(kH st.places).1,x<(kH st.places).2.length
structure D6 (K:Nat)(ls:List (List (Nat×List Int))):Prop where
 l1:ls.length<=255
 s1:∀l∈ls,l.length<=255
 t1:∀l∈ls,∀z∈l,z.1<=255
 k1:∀l∈ls,∀z∈l,z.2.length=K
 x1:∀l∈ls,∀z∈l,∀y∈z.2,y= -1\/(0<=y/\y<=255)
theorem D6.at {K:Nat}{ls:List (List (Nat×List Int))}(h:D6 K ls):(∀c,c<ls.length->nsF ls c<=255)/\(∀c s,c<ls.length->s<nsF ls c->tkF ls c s<=255)/\(∀c s k,c<ls.length->s<nsF ls c->k<K->nxF ls c s k= -1\/(0<=nxF ls c s k/\nxF ls c s k<=255)):=by
 have hc:∀c,c<ls.length->ls.getD c []∈ls:=fun c hc=>by rw[aL,aO hc];exact bD hc
 have hs:∀(l:List (Nat×List Int)) s,s<l.length->l.getD s (0,[])∈l:=fun l s hs=>by rw[aL,aO hs];exact bD hs
 refine⟨fun c h1=>h.s1 _ (hc c h1),fun c s h1 h2=>h.t1 _ (hc c h1) _ (hs _ s h2),fun c s k h1 h2 h3=>h.x1 _ (hc c h1) _ (hs _ s h2) _ ?_⟩;have hl:=h.k1 _ (hc c h1) _ (hs _ s h2);have hr:∀r:List Int,r.length=K->r.getD k 0∈r:=fun r e=>by rw[aL,aO (by omega)];exact bD _
 exact hr _ hl
end Go.Stn
namespace Go.Proofs.YtgjgjgihceijnaaGreat
open Go.RowKit Go.Stn
def gQ (t:ByteArray):List UInt8×Int:=
 if dD t=0 then
  match qU (iQ (bB t).nodes (bB t).rules (kH (bB t).places).2) (bJ (bB t).rules 1) 0 []with
  | none=>([],4)
  | some ls=>(wrL (bB t).rules ls.length (kH (bB t).places).2.length (fun b=>(kH (bB t).places).1.getD b 0) (nsF ls) (tkF ls) (nxF ls),0)
 else([],dD t)
theorem Le (t:ByteArray)(w:World)(hF:dD t=0->Qh (bB t))
  (hA:dD t=0->∀ls,qU (iQ (bB t).nodes (bB t).rules (kH (bB t).places).2) (bJ (bB t).rules 1) 0 []=some ls->D6 (kH (bB t).places).2.length ls):
  Calls Tryz.prog 7 #[.string t] w fun e w'=>e= .returned (.tuple #[.string ⟨(gQ t).1.toArray⟩,.int .i64 (gQ t).2])/\Below w.heap.size w w':=by
 have hp:=Hf t w;have HF:=aA hF;have HA:=aA hA;clear hF hA;go_enter Tryz.func7,Tryz.ntmps7;go_wp2_with fail;refine hp.mono ?_;rintro e w1 ⟨hb1,vr,vn,vp,rfl,hfa,hfe⟩;have HB1:=aA hb1;have hz1:=hb1.size;have HBA:Hid (∀o,Below w.heap.size w (w1.alloc o)):=fun o=>HB1.out.alloc hz1 o
 clear hb1 hp;by_cases hz:dD t=0
 ·clear hfe;have HFA:=aA (hfa hz);have HFO:=aA (HF.out hz);have HA1:=aA (HA.out hz);clear hfa HF HA;have HE:Hid (∀X,qU (iQ (bB t).nodes (bB t).rules (kH (bB t).places).2) (bJ (bB t).rules 1) 0 []=X->gQ t=match X with
   | none=>([],4)
   | some ls=>(wrL (bB t).rules ls.length (kH (bB t).places).2.length (fun b=>(kH (bB t).places).1.getD b 0) (nsF ls) (tkF ls) (nxF ls),0)):=fun X hX=>by
   rw[←hX];unfold gQ;rw[if_pos hz]
  rw[hz];generalize bB t=st at*;clear hz;have hr0:=HFO.out.r0;have hr1:=HFO.out.r1;have hn0:=HFO.out.n0;have hn1:=HFO.out.nn;have hp0:=HFO.out.p0;have hp1:=HFO.out.p1;have hg0:=HFO.out.g0;have hg1:=HFO.out.g1;obtain⟨rg,rcap,hvr,_,_⟩:=HFA.out.rr.form (by omega);obtain⟨ng,ncap,hvn,_,_⟩:=HFA.out.rn.form (by omega);obtain⟨qg,qcap,hvp,_,_⟩:=HFA.out.rp.form (by omega);subst hvr hvn hvp;have HR1:Hid (nH w1 rg st.rules):=fun k x hk=>vX (f:=gU) (m:=6) (fun _=>rfl) (oU HFA.out.rr) hk
  have HN1:Hid (uF w1 ng st.nodes):=fun k x hk=>vX (f:=fun x=>[bS .i64 x.1,bS .i64 x.2.1,bS .i64 x.2.2]) (m:=3) (fun _=>rfl) (oU HFA.out.rn) hk
  have HP1:Hid (rI w1 qg st.places):=fun k x hk=>vX (f:=aV) (m:=256) (fun f=>aS f) (oU HFA.out.rp) hk
  have hrz:=HFA.out.lr rg rfl;have hnz:=HFA.out.ln ng rfl;have hqz:=HFA.out.lp qg rfl;clear HFA;have HB2:=aA (HBA.out (.cells #[.slice (some ⟨rg,0,none⟩) st.rules.length rcap,.slice (some ⟨ng,0,none⟩) st.nodes.length ncap,.slice (some ⟨qg,0,none⟩) st.places.length qcap] 44));have HBb:Hid (Below w1.heap.size w1 (w1.alloc (.cells #[.slice (some ⟨rg,0,none⟩) st.rules.length rcap,.slice (some ⟨ng,0,none⟩) st.nodes.length ncap,.slice (some ⟨qg,0,none⟩) st.places.length qcap] 44))):=(bO _ _).alloc (bC _) _;have HF2:=aA (gI w1 #[.slice (some ⟨rg,0,none⟩) st.rules.length rcap,.slice (some ⟨ng,0,none⟩) st.nodes.length ncap,.slice (some ⟨qg,0,none⟩) st.places.length qcap] 44);have hz2:(w1.alloc (.cells #[.slice (some ⟨rg,0,none⟩) st.rules.length rcap,.slice (some ⟨ng,0,none⟩) st.nodes.length ncap,.slice (some ⟨qg,0,none⟩) st.places.length qcap] 44)).heap.size=w1.heap.size+1:=by simp
  go_upto_region 4 with fail;generalize w1.alloc (.cells #[.slice (some ⟨rg,0,none⟩) st.rules.length rcap,.slice (some ⟨ng,0,none⟩) st.nodes.length ncap,.slice (some ⟨qg,0,none⟩) st.places.length qcap] 44)=w2 at*;have hgr:=Gl st.places qg qcap (.slice (some ⟨rg,0,none⟩) st.rules.length rcap) (.slice (some ⟨ng,0,none⟩) st.nodes.length ncap) w2 hp1 (HP1.out.below HBb.out hqz) (by omega);have HZ2:=aA hz2;clear hz2;go_wp2_with (first | (refine wpList_load_mid rfl 44 (.tmp 4) rfl w1.heap.size 0 rfl [.slice (some ⟨rg,0,none⟩) st.rules.length rcap,.slice (some ⟨ng,0,none⟩) st.nodes.length ncap,.slice (some ⟨qg,0,none⟩) st.places.length qcap] _ HF2.out Tryz.underlying44 rfl Tryz.fileSize ?_));refine hgr.mono ?_;rintro e w3 ⟨vpl,rfl,hgl,hrow,hb3⟩;have HGL:=aA hgl;have HGX:=aA HFO.out.gl;have HOK:=aA HFO.out.ok;have HRO:=aA HFO.out.ro;have HBE:=aA HFO.out.be;clear hgl hgr HFO;generalize (kH st.places).2=G at*;generalize (kH st.places).1=O at*;obtain⟨pg,pcap,hvp,_,_⟩:=hrow.form (by omega);subst hvp;have HGM:Hid (∀j a,G[j]? =some a->w3.cell? ⟨pg,j,none⟩=some (.int .i64 a)):=fun j a hj=>by
   have:=oU hrow j _ (tI G j a hj);rwa [aR]at this
  have hpz:=(hrow.lt pg rfl).2;have HF3:=aA (jK HF2.out hb3 (by have:=HZ2.out;omega));have HR3:=aA ((HR1.out.below HBb.out hrz).below hb3 (by have:=HZ2.out;omega));have HN3:=aA ((HN1.out.below HBb.out hnz).below hb3 (by have:=HZ2.out;omega));have HB3:=aA (HB2.out.trans (jV hb3 HB2.out.size));have hz3:w1.heap.size<w3.heap.size:=by have:=hb3.size;have:=HZ2.out;omega
  clear hrow hb3 HR1 HN1 HP1 HB2 HBb HF2 HZ2 HBA HB1;obtain⟨GL,hGL⟩:∃l,oI O (.slice (some ⟨pg,0,none⟩) G.length pcap)=l:=⟨_,rfl⟩
  have HGS:Hid (GL.length=257):=by rw[←hGL];exact xQ _ _ HGL.out
  have HGO:Hid (∀v∈GL,v.oneCell'=true):=fun v hv=>by
   rw[←hGL]at hv;unfold oI jD at hv;rcases bK.1 hv with h1 | h1
   ·rw[List.mem_map]at h1;obtain⟨y,_,rfl⟩:=h1;rfl
   ·rw[aT]at h1;rw[h1];rfl
  have HGC:Hid (GL[256]? =some (.slice (some ⟨pg,0,none⟩) G.length pcap)):=by rw[←hGL];exact Bc _ _ HGL.out
  have HGT:Hid (GL=jD O++ [.slice (some ⟨pg,0,none⟩) G.length pcap]):=by rw[←hGL];rfl
  rw[hGL];clear hGL;have HSZ:Hid (GL.toArray.size=257):=by unfold Hid;simpa using HGS.out
  have HT4:=aA (bI w3 Tryz.zeroCells50 50 w3.heap.size 257 Tryz.grpZeroSize rfl);have HB4:Hid (Below w3.heap.size w3 ((w3.alloc (.cells Tryz.zeroCells50 50)).setCells w3.heap.size 0 GL)):=aD _ 0 _ w3.heap.size ((bO _ _).alloc (bC _) _) (bC _);have HG4:Hid (((w3.alloc (.cells Tryz.zeroCells50 50)).setCells w3.heap.size 0 GL).rangeAt w3.heap.size 0 GL):=World.rangeAt_setCells_same _ _ _ _ (by rw[HGS.out];exact HT4.out);have HZ4:Hid (w3.heap.size<((w3.alloc (.cells Tryz.zeroCells50 50)).setCells w3.heap.size 0 GL).heap.size):=by
   have:=(aD GL 0 (w3.alloc (.cells Tryz.zeroCells50 50)) w3.heap.size (bO 0 _) (cF _)).size;unfold Hid;simp at this;omega
  go_upto_region 5 with(first
   | (refine wpList_store_mid rfl 50 (.tmp 6) (.tmp 17) rfl w3.heap.size 0 GL.toArray rfl rfl ?_ ?_ (all_oneCell_toArray HGO.out) ?_;(rw[HSZ.out];exact HT4.out);(rw[HSZ.out];exact Tryz.grpSize)))
  generalize (w3.alloc (.cells Tryz.zeroCells50 50)).setCells w3.heap.size 0 GL=w4 at*;have hz4:=HB4.out.size;have HF4:=aA (jK HF3.out HB4.out hz3);have HR4:=aA (HR3.out.below HB4.out (by omega));have HN4:=aA (HN3.out.below HB4.out (by omega));have HB5:=aA (HB3.out.trans (jV HB4.out HB3.out.size));have hal:=Pp st.nodes st.rules ng ncap rg rcap pg pcap (.slice (some ⟨qg,0,none⟩) st.places.length qcap) G GL.toArray w4 hn1 HOK.out HN4.out (by omega) (by omega) hr0 HR4.out (by omega) HRO.out (fun x hx=>by have:=HBE.out x hx;omega)
   HSZ.out (all_oneCell_toArray HGO.out) (by rw[bM];exact HGC.out) (by omega) (fun j a hj=>(HB4.out.cell (p:=⟨pg,j,none⟩) hpz).trans (HGM.out j a hj)) (by omega)
  have HGA:Hid (GL.toArray.toList=GL):=by unfold Hid;simp
  clear HF3 HR3 HN3 HT4 HB3;go_wp2_with (first
   | (refine wpList_load_mid rfl 44 (.tmp 4) rfl w1.heap.size 0 rfl [.slice (some ⟨rg,0,none⟩) st.rules.length rcap,.slice (some ⟨ng,0,none⟩) st.nodes.length ncap,.slice (some ⟨qg,0,none⟩) st.places.length qcap] _ HF4.out Tryz.underlying44 rfl Tryz.fileSize ?_)
   | (refine wpList_load_mid rfl 50 (.tmp 6) rfl w3.heap.size 0 rfl GL _ HG4.out Tryz.underlying50 rfl ?_ ?_;(rw[HGS.out];exact Tryz.grpSize)))
  refine hal.mono ?_;intro e w5 ho
  cases hx:qU (iQ st.nodes st.rules G) (bJ st.rules 1) 0 []with
  | none=>
   rw[hx]at ho;obtain⟨rfl,hb5⟩:=ho;have HEE:=aA (HE.out _ hx);have HB6:=aA (HB5.out.trans (jV hb5 HB5.out.size));clear hx hb5 hal;go_wp2;go_ret2;rw[HEE.out];exact⟨rfl,HB6.out⟩
  | some ls=>
   rw[hx]at ho;obtain⟨cg,ccap,rfl,hcm,hcg,hb5⟩:=ho;have HEE:=aA (HE.out _ hx);have HCO:=aA (HA1.out _ hx);have HB6:=aA (HB5.out.trans (jV hb5 HB5.out.size));have hz5:=hb5.size;have HF5:=aA (jK HF4.out hb5 (by omega));have HG5:=aA (jK HG4.out hb5 HZ4.out);have HR5:=aA (HR4.out.below hb5 (by omega));obtain⟨yb,zb,hC⟩:=Wr hcm hcg HCO.out.k1;obtain⟨q1,q2,q3⟩:=HCO.out.at;have hww:=Hl st.rules rg rcap cg ls.length G.length ccap pg pcap (.slice (some ⟨ng,0,none⟩) st.nodes.length ncap) (.slice (some ⟨qg,0,none⟩) st.places.length qcap) GL.toArray (jD O).toArray (fun b=>O.getD b 0) yb zb (nsF ls) (tkF ls) (nxF ls) w5
    hr1 HR5.out (by omega) HBE.out HCO.out.l1 q1 hg0 hg1 hC q2 q3 (by simp[gM,HGL.out]) (fun b hb=>by rw[bM,yD _ _ (by rw[HGL.out];exact hb),aL,aO (by rw[HGL.out];exact hb)];rfl) (fun b hb=>uG HGX.out (by rw[HGL.out];exact hb)) (by simpa using HGT.out)
   clear hx hb5 hal hC q1 q2 q3 hcm;go_wp2_with (first
    | (refine wpList_load_mid rfl 44 (.tmp 4) rfl w1.heap.size 0 rfl [.slice (some ⟨rg,0,none⟩) st.rules.length rcap,.slice (some ⟨ng,0,none⟩) st.nodes.length ncap,.slice (some ⟨qg,0,none⟩) st.places.length qcap] _ HF5.out Tryz.underlying44 rfl Tryz.fileSize ?_)
    | (refine wpList_load_mid rfl 50 (.tmp 6) rfl w3.heap.size 0 rfl GL _ HG5.out Tryz.underlying50 rfl ?_ ?_;(rw[HGS.out];exact Tryz.grpSize)))
   refine hww.mono ?_;rintro e w6 ⟨rfl,hb6⟩;have HB7:=aA (HB6.out.trans (jV hb6 HB6.out.size));clear hb6 hww;go_wp2;go_ret2;rw[HEE.out];exact⟨rfl,HB7.out⟩
 ·obtain⟨rfl,rfl,rfl⟩:=hfe hz;have HE:Hid (gQ t=([],dD t)):=by unfold Hid gQ;rw[if_neg hz]
  clear hfa hfe HA HF;have hd:(dD t !=0)=true:=by rw[bne_iff_ne];exact hz
  replace hz:=aA hz;generalize dD t=pc at*;go_wp2;go_ret2;rw[HE.out];exact⟨rfl,HBA.out _⟩
end Go.Proofs.YtgjgjgihceijnaaGreat
namespace Go.Stn
theorem vE:∀(l:List Int) (x:Int),cY l x<=l.length
 | [],_=>bC _
 | a::r,x=>by
  unfold cY;split
  ·exact cF _
  ·have:=vE r x;simp;omega
theorem vS (al:Nat->Int):∀(d b:Nat) (ofs:List Nat) (P:List Int),P.length<=b->(0<b->0<P.length)->(∀x∈ofs,x<P.length)->
  (yL al d b ofs P).2.length<=b+d/\(0<b+d->0<(yL al d b ofs P).2.length)/\∀x∈(yL al d b ofs P).1,x<(yL al d b ofs P).2.length
 | 0,b,ofs,P,h1,h2,h3=>⟨h1,h2,h3⟩
 | d+1,b,ofs,P,h1,h2,h3=>by
  rw[yL,show b+(d+1)=(b+1)+d by omega];have hm:=vE P (al b);by_cases hf:cY P (al b)=P.length
  ·rw[if_pos hf];refine vS al d (b+1) _ _ (by simp;omega) (fun _=>by simp) (fun x hx=> ?_);rw[List.length_append];rcases bK.1 hx with h | h
   ·have:=h3 x h;simp;omega
   ·rw[aT]at h;simp;omega
  ·rw[if_neg hf];refine vS al d (b+1) _ _ (by omega) (fun _=>by omega) (fun x hx=> ?_);rcases bK.1 hx with h | h
   ·exact h3 x h
   ·rw[aT]at h;omega
theorem E1 (places:List (Nat->Bool)):0<(kH places).2.length/\(kH places).2.length<=256/\∀x∈(kH places).1,x<(kH places).2.length:=by
 obtain⟨h1,h2,h3⟩:=vS (uR places) 256 0 [] [] (bC _) (fun h=>absurd h (Nat.lt_irrefl _)) (fun x hx=>absurd hx List.not_mem_nil);exact⟨h2 (by omega),by rw[aR]at h1;exact h1,h3⟩
end Go.Stn
namespace Go.Stn
abbrev aY:=(Nat->Bool)×Int×Rx
def eH (t:ByteArray)(a:Nat):Option (Int×Nat):=if 65<=aJ t a/\aJ t a<69 then some (aJ t a - 65,a+1)else none
def jT (t:ByteArray)(a:Nat):Option (Int×Nat):=
 if isB t 46 a=true then some (0,a+1)
 else if isB t 45 a=true then some (1,a+1)
 else match eH t a with
  | none=>none
  | some (x,a1)=>some (x+2,a1)
def dC (t:ByteArray):Nat->(Nat->Bool)->Int->Nat->Option ((Nat->Bool)×Nat)
 | 0,_,_,_=>none
 | n+1,f,last,a=>match eH t a with
  | none=>some (f,a)
  | some (x,a1)=>if x<=last then none else dC t n (mF f x) x a1
def lM (t:ByteArray)(a:Nat):Option ((Nat->Bool)×Nat):=match eH t a with
 | none=>none
 | some (x,a1)=>dC t 5 (mF aP x) x a1
def iY (t:ByteArray)(a:Nat):Option (aY×Nat):=match lM t a with
 | none=>none
 | some (f,a1)=>if isB t 32 a1=false then none else match dS t (t.size+1) (a1+1)with
  | none=>none
  | some (r,a2)=>if isB t 32 a2=false then none else match jT t (a2+1)with
   | none=>none
   | some (b,a3)=>some ((f,b,r),a3)
def dJ (t:ByteArray):Nat->List aY->Nat->Option (List aY×Nat)
 | 0,_,_=>none
 | n+1,l,a=>if isB t 10 a=false then some (l,a)else match iY t (a+1)with
  | none=>none
  | some (x,a1)=>dJ t n (l++ [x]) a1
def vU (t:ByteArray):Option (List aY×Nat):=match iY t 0 with
 | none=>none
 | some (x,a)=>dJ t (t.size+1) [x] a
def oN (t:ByteArray):Option (List aY):=match vU t with
 | none=>none
 | some (l,a)=>if a=t.size/\l.length<=8 then some l else none
def dX (st:PSt)(x:aY)(a:Nat):PSt:=⟨a,st.rules++ [(x.1,x.2.1,((st.nodes.length+x.2.2.sz - 1:Nat):Int))],st.nodes++x.2.2.flat st.nodes.length st.places.length,st.places++x.2.2.fns⟩
def aB:PSt->List aY->PSt
 | st,[]=>st
 | st,x::l=>aB (dX st x st.at_) l
theorem vI (t:ByteArray)(st:PSt):Qp (aI t st) st (eH t st.at_):=by
 unfold aI eH;split
 ·rfl
 ·rfl
theorem Hr (t:ByteArray)(st:PSt):Qp (cU t st) st (jT t st.at_):=by
 unfold cU jT;simp only[kC];by_cases h:isB t 46 st.at_=true
 ·rw[if_pos h,if_pos h];rfl
 ·rw[if_neg h,if_neg h];by_cases h2:isB t 45 st.at_=true
  ·rw[if_pos h2,if_pos h2];rfl
  ·rw[if_neg h2,if_neg h2];have hS:=vI t st
   cases e:eH t st.at_ with
   | none=>
    rw[e]at hS;have hS:(aI t st).2.1=false:=hS;rw[if_neg (by rw[hS];decide)];rfl
   | some y=>
    obtain⟨x,a1⟩:=y;rw[e]at hS;have hS:aI t st=(x,true,atS st a1):=hS;rw[hS];rfl
theorem N9 (t:ByteArray):∀(n:Nat) (f:Nat->Bool) (last:Int) (st:PSt),Gh (gJ t n f last st) st (dC t n f last st.at_):=by
 intro n
 induction n with
 | zero=>intro f last st;rfl
 | succ k ih=>
  intro f last st;rw[gJ,dC];have hS:=vI t st
  cases e:eH t st.at_ with
  | none=>
   rw[e]at hS;have hS2:(aI t st).2.1=false:=hS;rw[if_pos hS2];have hs:(aI t st).2.2=st:=by
    unfold aI at hS2 ⊢;split at hS2
    ·cases hS2
    ·rename_i h;rw[if_neg h]
   rw[hs];rfl
  | some y=>
   obtain⟨x,a1⟩:=y;rw[e]at hS;have hS:aI t st=(x,true,atS st a1):=hS;rw[hS,if_neg (by simp)];simp only;by_cases h:x<=last
   ·rw[if_pos h,if_pos h];rfl
   ·rw[if_neg h,if_neg h];have:=ih (mF f x) x (atS st a1);rw[show(atS st a1).at_=a1 from rfl]at this
    cases e2:dC t k (mF f x) x a1 with
    | none=>rw[e2]at this;exact this
    | some z=>rw[e2]at this;exact this
theorem Me (t:ByteArray)(st:PSt):Gh (bR t st) st (lM t st.at_):=by
 unfold bR lM;have hS:=vI t st
 cases e:eH t st.at_ with
 | none=>
  rw[e]at hS;have hS:(aI t st).2.1=false:=hS;rw[if_pos hS];rfl
 | some y=>
  obtain⟨x,a1⟩:=y;rw[e]at hS;have hS:aI t st=(x,true,atS st a1):=hS;rw[hS,if_neg (by simp)];simp only;have:=N9 t 5 (mF aP x) x (atS st a1);rw[show(atS st a1).at_=a1 from rfl]at this
  cases e2:dC t 5 (mF aP x) x a1 with
  | none=>rw[e2]at this;exact this
  | some z=>rw[e2]at this;exact this
def Wz (p:Bool×PSt)(st:PSt):Option (aY×Nat)->Prop
 | none=>p.1=false
 | some (x,a)=>p=(true,dX st x a)
theorem Dd (t:ByteArray)(st:PSt):Wz (gP t st) st (iY t st.at_):=by
 unfold gP iY;have hS:=Me t st
 cases e:lM t st.at_ with
 | none=>
  rw[e]at hS;have hS:(bR t st).2.1=false:=hS;rw[if_pos hS];rfl
 | some y=>
  obtain⟨f,a1⟩:=y;rw[e]at hS;have hS:bR t st=(f,true,atS st a1):=hS;rw[hS,if_neg (by simp)];simp only[kC];rw[show(atS st a1).at_=a1 from rfl];by_cases h1:isB t 32 a1=false
  ·rw[if_pos h1,if_pos h1];rfl
  ·rw[if_neg h1,if_neg h1];unfold uH;have hE:=Qy t (t.size+1) (adv (atS st a1));rw[show(adv (atS st a1)).at_=a1+1 from rfl]at hE
   cases e2:dS t (t.size+1) (a1+1)with
   | none=>
    rw[e2]at hE;have hE:(eQ t (t.size+1) (adv (atS st a1))).2.1=false:=hE;rw[if_pos hE];rfl
   | some z=>
    obtain⟨r,a2⟩:=z;rw[e2]at hE;have hE:eQ t (t.size+1) (adv (atS st a1))=(((st.nodes.length+r.sz - 1:Nat):Int),true,fF st r a2):=hE;rw[hE,if_neg (by simp)];simp only[kC];rw[show(fF st r a2).at_=a2 from rfl];by_cases h2:isB t 32 a2=false
    ·rw[if_pos h2,if_pos h2];rfl
    ·rw[if_neg h2,if_neg h2];unfold uC;have hB:=Hr t (adv (fF st r a2));rw[show(adv (fF st r a2)).at_=a2+1 from rfl]at hB
     cases e3:jT t (a2+1)with
     | none=>
      rw[e3]at hB;have hB:(cU t (adv (fF st r a2))).2.1=false:=hB;rw[if_pos hB];rfl
     | some u=>
      obtain⟨b,a3⟩:=u;rw[e3]at hB;have hB:cU t (adv (fF st r a2))=(b,true,atS (adv (fF st r a2)) a3):=hB;rw[hB,if_neg (by simp)]
      rfl
theorem uY:∀(l:List aY) (st:PSt) (x:aY) (a:Nat),atS (dX (aB st l) x a) 0=atS (aB st (l++ [x])) 0
 | [],_,_,_=>rfl
 | y::l,st,x,a=>uY l (dX st y st.at_) x a
def Wy (p:Bool×PSt):Option (List aY×Nat)->Prop
 | none=>p.1=false
 | some (l,a)=>p.1=true/\p.2.at_=a/\atS p.2 0=atS (aB st0 l) 0
theorem Ih (st st':PSt)(x:aY)(a:Nat)(h:atS st 0=atS st' 0):dX st x a=dX st' x a:=by
 unfold atS at h;injection h with _ h1 h2 h3;unfold dX;rw[h1,h2,h3]
theorem M8 (t:ByteArray):∀(n:Nat) (l:List aY) (st:PSt),atS st 0=atS (aB st0 l) 0->Wy (eZ t n true st) (dJ t n l st.at_):=by
 intro n
 induction n with
 | zero=>intro l st _;rfl
 | succ k ih=>
  intro l st h;rw[dJ];by_cases h1:isB t 10 st.at_=false
  ·rw[if_pos h1,tK (by rw[kC];exact h1)];exact⟨rfl,rfl,h⟩
  ·rw[if_neg h1,tC (by rw[kC];simpa using h1)];have hS:=Dd t (adv st);rw[show(adv st).at_=st.at_+1 from rfl]at hS
   cases e:iY t (st.at_+1)with
   | none=>
    rw[e]at hS;have hS:(gP t (adv st)).1=false:=hS;rw[hS,oJ];rfl
   | some y=>
    obtain⟨x,a1⟩:=y;rw[e]at hS;have hS:gP t (adv st)=(true,dX (adv st) x a1):=hS;rw[hS];have he:dX (adv st) x a1=dX (aB st0 l) x a1:=Ih _ _ x a1 h;rw[he];have:=ih (l++ [x]) (dX (aB st0 l) x a1) (uY l st0 x a1);exact this
theorem Ni (t:ByteArray):Wy (gF t st0) (vU t):=by
 unfold gF vU;have hS:=Dd t st0;rw[show st0.at_=0 from rfl]at hS
 cases e:iY t 0 with
 | none=>
  rw[e]at hS;have hS:(gP t st0).1=false:=hS;rw[hS,oJ];rfl
 | some y=>
  obtain⟨x,a1⟩:=y;rw[e]at hS;have hS:gP t st0=(true,dX st0 x a1):=hS;rw[hS];exact M8 t (t.size+1) [x] (dX st0 x a1) rfl
theorem kF:∀(l:List aY) (st:PSt),(aB st l).rules.length=st.rules.length+l.length
 | [],st=>rfl
 | x::l,st=>by rw[aB,kF l];simp[dX];omega
theorem D9 (t:ByteArray):(120<t.size->dD t=1)/\(t.size<=120->oN t=none->dD t=2)/\
  (t.size<=120->∀l,oN t=some l->(10<(aB st0 l).places.length->dD t=3)/\((aB st0 l).places.length<=10->dD t=0/\atS (bB t) 0=atS (aB st0 l) 0)):=by
 have hS:=Ni t;unfold dD bB oN;refine⟨fun h=>by rw[if_pos h],fun h hf=> ?_,fun h l hf=> ?_⟩
 ·rw[if_neg (by omega)];have:mD t (gF t st0)=false:=by
   unfold mD
   cases e:vU t with
   | none=>
    rw[e]at hS;have hS:(gF t st0).1=false:=hS;rw[hS];rfl
   | some y=>
    obtain⟨l,a⟩:=y;rw[e]at hS hf;obtain⟨h1,h2,h3⟩:=hS;simp only at hf;split at hf
    ·cases hf
    ·rename_i hno;rw[h1,h2];have hr:(gF t st0).2.rules=(aB st0 l).rules:=by have:=congrArg PSt.rules h3;exact this
     rw[hr,kF];simp only[Bool.true_and,Bool.and_eq_false_iff,decide_eq_false_iff_not];have:st0.rules.length=0:=rfl;omega
  rw[if_pos this]
 ·rw[if_neg (by omega)]
  cases e:vU t with
  | none=>rw[e]at hf;cases hf
  | some y=>
   obtain⟨l',a⟩:=y;rw[e]at hS hf;obtain⟨h1,h2,h3⟩:=hS;simp only at hf;split at hf
   ·rename_i hyes;injection hf with hf;subst hf;have hr:(gF t st0).2.rules=(aB st0 l').rules:=by have:=congrArg PSt.rules h3;exact this
    have hp:(gF t st0).2.places=(aB st0 l').places:=by have:=congrArg PSt.places h3;exact this
    have hb:mD t (gF t st0)=true:=by
     unfold mD;rw[h1,h2,hr,kF,hyes.1];have:st0.rules.length=0:=rfl;simp;omega
    rw[if_neg (by rw[hb];decide),hp];exact⟨fun h=>by rw[if_pos h],fun h=>⟨by rw[if_neg (by omega)],h3⟩⟩
   ·cases hf
end Go.Stn
