import Derived.Test.YtgjgjgihceijnaaGreatG19
import Derived.Test.YtgjgjgihceijnaaGreatG01
open List renaming getD_eq_getElem?_getD->aL,getElem?_eq_getElem->aO,length_map->aR,not_mem_nil->aT,mem_singleton->bD,mem_append->bK,mem_cons_of_mem->bN,mem_cons_self->bS,getElem_mem->cN
open Nat renaming le_refl->bC,strongRecOn->bM,zero_add->bT,lt_trichotomy->cL
open Array renaming length_toList->bO
open Int renaming toNat_natCast->cF
open Go.RowKit.Below renaming refl->cO
open Go.Value renaming oneCell'->cP
set_option maxRecDepth 100000
set_option maxHeartbeats 8000000
namespace Go.Stn
open Go.RowKit
def Jk (next:Nat->Int)(begin:Int)(G:List Int)(lasts:List Int):Nat×(Nat->Nat)×(Nat->Nat->Int):=
 ((cG next begin G).1.length,(fun s=>rR lasts ((cG next begin G).1.getD s 0)),(fun s k=>((cG next begin G).2.getD s []).getD k 0))
def V2 (next:Nat->Int)(begin:Int)(G:List Int)(lasts:List Int):Option (List (Nat×List Int)):=
 rV (Jk next begin G lasts).1 (Jk next begin G lasts).2.1 (Jk next begin G lasts).2.2 G.length
def qU (cs:Nat->Option (List (Nat×List Int))):Nat->Nat->List (List (Nat×List Int))->Option (List (List (Nat×List Int)))
 | 0,_,acc=>some acc
 | d+1,c,acc=>match cs c with
  | none=>none
  | some l=>qU cs d (c+1) (acc++ [l])
theorem If {next:Nat->Int}{begin:Int}{G:List Int}:∀f s S R,kA S->R.length=s->s<=S.length->s+f=1025->(∀r∈R,r.length=G.length/\∀y∈r,y=(-1:Int)\/(0<=y/\y<(S.length:Int)))->
  kA (iB next begin G f s S R).1/\(iB next begin G f s S R).2.length=(iB next begin G f s S R).1.length/\∀r∈(iB next begin G f s S R).2,r.length=G.length/\∀y∈r,y=(-1:Int)\/(0<=y/\y<((iB next begin G f s S R).1.length:Int)):=by
 intro f
 induction f with
 | zero=>intro s S R h1 h2 h3 h4 h5;have:=rJ h1;exact⟨h1,by omega,h5⟩
 | succ d ih=>
  intro s S R h1 h2 h3 h4 h5;rw[iB];by_cases hlt:s<S.length
  ·rw[if_pos hlt];obtain⟨k1,k2,k3,k4,k5⟩:=Ju (ahead:=eF next begin S s) G [] S h1 (fun y hy=>absurd hy (aT));refine ih _ _ _ k1 (by simp[h2]) (by omega) (by omega) (fun r hr=> ?_);rcases bK.1 hr with q | q
   ·refine⟨(h5 r q).1,fun y hy=> ?_⟩;rcases(h5 r q).2 y hy with e | e
    ·exact .inl e
    ·exact .inr ⟨e.1,by omega⟩
   ·rw[bD]at q;rw[q];exact⟨by rw[k4];simp,k5⟩
  ·rw[if_neg hlt];exact⟨h1,by simp only;omega,h5⟩
theorem mY (next:Nat->Int)(begin:Int)(G:List Int):kA (cG next begin G).1/\(cG next begin G).2.length=(cG next begin G).1.length/\∀r∈(cG next begin G).2,r.length=G.length/\∀y∈r,y=(-1:Int)\/(0<=y/\y<((cG next begin G).1.length:Int)):=
 If 1025 0 [0] [] ⟨rfl,by simp,fun x hx=>by simp at hx;omega⟩ rfl (by simp) rfl (fun r hr=>absurd hr (aT))
theorem Nu (next:Nat->Int)(begin:Int)(G:List Int)(i k:Nat)(hi:i<(cG next begin G).1.length)(hk:k<G.length):
  ((cG next begin G).2.getD i []).getD k 0= -1\/(0<=((cG next begin G).2.getD i []).getD k 0/\((cG next begin G).2.getD i []).getD k 0<(cG next begin G).1.length):=by
 obtain⟨_,h2,h3⟩:=mY next begin G;have hi2:i<(cG next begin G).2.length:=by omega
 obtain⟨q1,q2⟩:=h3 _ (cN hi2);have e:(cG next begin G).2.getD i []=(cG next begin G).2[i]:=by rw[aL,aO hi2];rfl
 rw[e];have hk2:k<((cG next begin G).2[i]).length:=by omega
 have e2:((cG next begin G).2[i]).getD k 0=((cG next begin G).2[i])[k]:=by rw[aL,aO hk2];rfl
 rw[e2];exact q2 _ (cN hk2)
end Go.Stn
namespace Go.Proofs.YtgjgjgihceijnaaGreat
open Go.RowKit Go.Stn
def Cl (w:World)(K:Nat)(cg:Nat)(ls:List (List (Nat×List Int))):Prop:=
 ∃ys:List jG,ys.map (fun y=>y.2.map (·.1))=ls/\w.rangeAt cg 0 (qJ ys)/\∀y∈ys,iT w K y
def Vz (w:World)(K:Nat):Option (List (List (Nat×List Int)))->Ending->World->Prop
 | none,e,w'=>e= .returned (.tuple #[.slice none 0 0,.int .i64 4])/\Below w.heap.size w w'
 | some ls,e,w'=>∃cg cap,e= .returned (.tuple #[.slice (some ⟨cg,0,none⟩) ls.length cap,.int .i64 0])/\Cl w' K cg ls/\cg<w'.heap.size/\Below w.heap.size w w'
theorem Tryz.infoStates:(Tryz.prog.info? 110).map (fun i=>(i.zero,i.size,i.bytes))=some (some (.slice none 0 0),1,24):=by kernel_rfl
theorem Aj {w:World}{nb:Nat}{vf vl:Value}{next:Nat->Int}(h:w.rangeAt nb 0 (fY vf vl next).toList)(hf:∀i,w.frozen? ⟨nb,i,none⟩=false):dH w nb vf vl next:=by
 have hc:∀k v,(fY vf vl next).toList[k]? =some v->w.cell? ⟨nb,k,none⟩=some v:=fun k v hk=>by have:=h k v hk;rw[bT]at this;exact this
 refine⟨hc 0 _ rfl,hc 1 _ rfl,fun k hk=> ?_,hf⟩;have:k=0\/k=1\/k=2\/k=3\/k=4\/k=5\/k=6\/k=7\/k=8\/k=9:=by omega
 rcases this with rfl | rfl | rfl | rfl | rfl | rfl | rfl | rfl | rfl | rfl<;> exact hc _ _ rfl
theorem Ul (f:Nat->Bool):∀k c,oZ f k c<=max c k:=by
 intro k
 induction k with
 | zero=>intro c;rw[oZ];exact Nat.le_max_left _ _
 | succ j ih=>
  intro c;have:=ih c;rw[oZ];split<;> omega
theorem Z1:∀(rules:List ((Nat->Bool)×Int×Int)) (c:Nat),c<=1000->(∀x∈rules,0<=x.2.1/\x.2.1<=1000)->bJ rules c<=1000:=by
 intro rules
 induction rules with
 | nil=>intro c h _;exact h
 | cons x r ih=>
  intro c h hb;rw[bJ];refine ih _ ?_ (fun y hy=>hb y (bN _ hy));have h1:=Ul x.1 4 c;have h2:=hb x bS;unfold wY;split<;> omega
structure ARo (W:World)(n0 nb rg rcap m ng ncap nn fg fcap pg:Nat)(vp vl:Value)(NXT:Nat->Int)(FI LA G:List Int)(GA:Array Value)(rules:List ((Nat->Bool)×Int×Int)):Prop where
 fl:W.rangeAt n0 0 [.slice (some ⟨rg,0,none⟩) m rcap,.slice (some ⟨ng,0,none⟩) nn ncap,vp]
 gr:W.rangeAt (n0+1) 0 GA.toList
 nr:W.rangeAt nb 0 (fY (.slice (some ⟨fg,0,none⟩) m fcap) vl NXT).toList
 nt:dH W nb (.slice (some ⟨fg,0,none⟩) m fcap) vl NXT
 fn:NIn W fg m (fun r=>FI.getD r 0)
 rl:F7 W vl LA
 ru:nH W rg rules
 gm:∀j a,G[j]? =some a->W.cell? ⟨pg,j,none⟩=some (.int .i64 a)
 b1:n0+1<nb
 b2:fg<nb
 b3:∀k,vl.ownBlock=some k->k<nb
 b4:rg<n0
 b5:pg<n0
theorem ARo.below {W W':World}{n0 nb rg rcap m ng ncap nn fg fcap pg B:Nat}{vp vl:Value}{NXT:Nat->Int}{FI LA G:List Int}{GA:Array Value}{rules:List ((Nat->Bool)×Int×Int)}
  (h:ARo W n0 nb rg rcap m ng ncap nn fg fcap pg vp vl NXT FI LA G GA rules) (hB:Below B W W') (hb:nb<B):ARo W' n0 nb rg rcap m ng ncap nn fg fcap pg vp vl NXT FI LA G GA rules:=by
 have b1:=h.b1;have b2:=h.b2;have b4:=h.b4;have b5:=h.b5;exact⟨aC h.fl (hB.block _ (by omega)),aC h.gr (hB.block _ (by omega)),aC h.nr (hB.block _ hb),h.nt.below hB hb,h.fn.below hB (by omega),h.rl.below hB (fun k hk=>by have:=h.b3 k hk;omega),h.ru.below hB (by omega),
  fun j a hj=>(hB.cell (p:=⟨pg,j,none⟩) (show pg<B by omega)).trans (h.gm j a hj),b1,b2,h.b3,b4,b5⟩
def kU (nodes:List (Int×Int×Int)):Nat->Int:=(cQ nodes 0 (fun _=>kM) (fun _=>0)).2
def rD (nodes:List (Int×Int×Int))(rules:List ((Nat->Bool)×Int×Int)):List Int:=rules.map fun x=>((cQ nodes 0 (fun _=>kM) (fun _=>0)).1 x.2.2.toNat).1
def mO (nodes:List (Int×Int×Int))(rules:List ((Nat->Bool)×Int×Int)):List Int:=rules.map fun x=>((cQ nodes 0 (fun _=>kM) (fun _=>0)).1 x.2.2.toNat).2.1
def iQ (nodes:List (Int×Int×Int))(rules:List ((Nat->Bool)×Int×Int))(G:List Int)(c:Nat):Option (List (Nat×List Int)):=
 V2 (kU nodes) (lN (fun r=>(rD nodes rules).getD r 0) c rules 0 0) G (mO nodes rules)
theorem Pp (nodes:List (Int×Int×Int))(rules:List ((Nat->Bool)×Int×Int))(ng ncap rg rcap pg pcap:Nat)(vp:Value)(G:List Int)(GA:Array Value)(w:World)
  (hn:nodes.length<=1000) (hok:Ai nodes) (hN:uF w ng nodes) (hg:ng<w.heap.size) (hrn:rules.length<=1000) (hr0:0<rules.length) (hR:nH w rg rules) (hrg:rg<w.heap.size) (hro:∀x∈rules,0<=x.2.2/\x.2.2<nodes.length) (hbe:∀x∈rules,0<=x.2.1/\x.2.1<=1000)
  (hGs:GA.size=257) (hGo:GA.all (·.oneCell')=true) (hGc:GA[256]? =some (.slice (some ⟨pg,0,none⟩) G.length pcap)) (hGl:G.length<=300) (hGm:∀j a,G[j]? =some a->w.cell? ⟨pg,j,none⟩=some (.int .i64 a)) (hpg:pg<w.heap.size):
  Calls Tryz.prog 18 #[.agg #[.slice (some ⟨rg,0,none⟩) rules.length rcap,.slice (some ⟨ng,0,none⟩) nodes.length ncap,vp],.agg GA] w fun e w'=>Vz w G.length (qU (iQ nodes rules G) (bJ rules 1) 0 []) e w':=by
 obtain⟨i1,hi0,hz0,hz1,hz2⟩:=info_parts Tryz.infoStates;have HI:Hid (Tryz.prog.info? 110=some i1/\i1.zero=some (.slice none 0 0)/\i1.size=1/\i1.bytes=24):=⟨hi0,hz0,hz1,hz2⟩
 clear hi0 hz0 hz1 hz2;obtain⟨W0,hW0⟩:∃W,(w.alloc (.cells #[.slice (some ⟨rg,0,none⟩) rules.length rcap,.slice (some ⟨ng,0,none⟩) nodes.length ncap,vp] 44)).alloc (.cells GA 50)=W:=⟨_,rfl⟩
 have hz0:W0.heap.size=w.heap.size+1+1:=by rw[←hW0];simp
 have HB0:Hid (Below w.heap.size w W0):=by unfold Hid;rw[←hW0];exact((cO _ _).alloc (bC _) _).alloc (by simp) _
 have HF0:Hid (W0.rangeAt w.heap.size 0 [.slice (some ⟨rg,0,none⟩) rules.length rcap,.slice (some ⟨ng,0,none⟩) nodes.length ncap,vp]):=by
  unfold Hid;rw[←hW0];exact aC (gI w #[.slice (some ⟨rg,0,none⟩) rules.length rcap,.slice (some ⟨ng,0,none⟩) nodes.length ncap,vp] 44) (Below.heap_alloc _ _ _ (by simp))
 have HG0:Hid (W0.rangeAt (w.heap.size+1) 0 GA.toList):=by
  unfold Hid;rw[←hW0];have:=gI (w.alloc (.cells #[.slice (some ⟨rg,0,none⟩) rules.length rcap,.slice (some ⟨ng,0,none⟩) nodes.length ncap,vp] 44)) GA 50;have e:(w.alloc (.cells #[.slice (some ⟨rg,0,none⟩) rules.length rcap,.slice (some ⟨ng,0,none⟩) nodes.length ncap,vp] 44)).heap.size=w.heap.size+1:=by simp
  rw[e]at this;exact this
 have hlk:=Lf nodes rules ng ncap rg rcap vp W0 hn hok (hN.below HB0.out hg) (by omega) hrn (hR.below HB0.out hrg) (by omega) hro;have HN:=aA hN;have HR:=aA hR;have HRO:=aA hro;have HBE:=aA hbe;have HGC:=aA hGc;have HGM:=aA hGm;have HGS:=aA hGs;have HGO:=aA hGo;clear hN hR hro hbe hGc hGm hGs hGo hok;obtain⟨m,hm⟩:∃m,rules.length=m:=⟨_,rfl⟩
 obtain⟨nn,hnn⟩:∃m,nodes.length=m:=⟨_,rfl⟩
 obtain⟨K,hK⟩:∃m,G.length=m:=⟨_,rfl⟩
 rw[hm]at hrn hr0 HF0 hW0 hlk ⊢;rw[hnn]at hn HF0 hW0 hlk ⊢;rw[hK]at hGl HGC ⊢;replace hm:=aA hm;replace hnn:=aA hnn;replace hK:=aA hK;replace hW0:=aA hW0;go_enter Tryz.func18,Tryz.ntmps18;go_upto_region 1 with(first
  | (refine wpList_boxTo rfl 50 (.tmp 1) rfl _ rfl (w.heap.size+1) (by simp) GA rfl ?_))
 rw[hW0.out];go_wp2_with (first | (refine wpList_load_mid rfl 44 (.tmp 2) rfl w.heap.size 0 rfl [.slice (some ⟨rg,0,none⟩) m rcap,.slice (some ⟨ng,0,none⟩) nn ncap,vp] _ HF0.out Tryz.underlying44 rfl Tryz.fileSize ?_) | fail);refine hlk.mono ?_;rintro e w1 ⟨vf,vl,rfl,hb1,hrf,hrl⟩;have hrf':w1.ownsRow (W0.heap.size+4) 103 1 vf (rD nodes rules).length (jP (rD nodes rules)):=by unfold rD;rw[aR];exact hrf
 have hrl':w1.ownsRow (W0.heap.size+4) 103 1 vl (mO nodes rules).length (jP (mO nodes rules)):=by unfold mO;rw[aR];exact hrl
 have hFl:(rD nodes rules).length=m:=by unfold rD;rw[aR,hm.out]
 have hLl:(mO nodes rules).length=m:=by unfold mO;rw[aR,hm.out]
 have HNN:Hid ((cQ nodes 0 (fun _=>kM) (fun _=>0)).2=kU nodes):=rfl;rw[HNN.out];obtain⟨CS,ECS⟩:∃f,iQ nodes rules G=f:=⟨_,rfl⟩
 have HCS:Hid (∀c,CS c=V2 (kU nodes) (lN (fun r=>(rD nodes rules).getD r 0) c rules 0 0) G (mO nodes rules)):=fun c=>by rw[←ECS];rfl
 replace ECS:=aA ECS;generalize kU nodes=NXT at*;generalize rD nodes rules=FI at*;generalize mO nodes rules=LA at*;obtain⟨fg,fcap,hvf,_,_⟩:=hrf'.form (by omega);subst hvf;have HFN:Hid (NIn w1 fg m (fun r=>FI.getD r 0)):=fun i hi=>by
  have:=hrf'.cells rfl i (.int .i64 (FI.getD i 0)) (tI FI i _ (by rw[aL,aO (by omega)];rfl));rw[pV]at this;exact this
 have hfgz:=(hrf'.lt fg rfl).2;have HRL:=aA (Kb hrl');have HVL:Hid (∀k,vl.ownBlock=some k->k<w1.heap.size):=fun k hk=>(hrl'.lt k hk).2
 obtain⟨lga,lcap,hvl⟩:=aK hrl';rw[hFl];clear hrf hrl hrf' hrl' hlk HNN;have HF1:=aA (aC HF0.out (hb1.block _ (by omega)));have HG1:=aA (aC HG0.out (hb1.block _ (by omega)));have HB1:=aA (HB0.out.trans (hb1.mono (by omega)));have hz1:=hb1.size;clear HF0 HG0 HB0 hb1;obtain⟨NA,hNA⟩:∃a,fY (.slice (some ⟨fg,0,none⟩) m fcap) vl NXT=a:=⟨_,rfl⟩
 have HNS:Hid (NA.size=12/\NA.all (·.oneCell')=true):=by rw[←hNA];exact⟨rfl,by rw[hvl];simp[fY,cP]⟩
 clear hvl;rw[hNA];have HTN:=aA (bI w1 (fY (.slice none 0 0) (.slice none 0 0) (fun _=>0)) 108 w1.heap.size 12 rfl rfl);have HBN:Hid (Below w1.heap.size w1 ((w1.alloc (.cells (fY (.slice none 0 0) (.slice none 0 0) (fun _=>0)) 108)).setCells w1.heap.size 0 NA.toList)):=aD _ 0 _ w1.heap.size ((cO _ _).alloc (bC _) _) (bC _);have HRN:Hid (((w1.alloc (.cells (fY (.slice none 0 0) (.slice none 0 0) (fun _=>0)) 108)).setCells w1.heap.size 0 NA.toList).rangeAt w1.heap.size 0 NA.toList):=World.rangeAt_setCells_same _ _ _ _ (by rw[bO,HNS.out.1];exact HTN.out);have HFZ:Hid (∀i,((w1.alloc (.cells (fY (.slice none 0 0) (.slice none 0 0) (fun _=>0)) 108)).setCells w1.heap.size 0 NA.toList).frozen? ⟨w1.heap.size,i,none⟩=false):=fun i=>by rw[oE,World.frozen?_alloc_new]
 have HZN:Hid (w1.heap.size<((w1.alloc (.cells (fY (.slice none 0 0) (.slice none 0 0) (fun _=>0)) 108)).setCells w1.heap.size 0 NA.toList).heap.size):=by
  have:=(aD NA.toList 0 (w1.alloc (.cells (fY (.slice none 0 0) (.slice none 0 0) (fun _=>0)) 108)) w1.heap.size (cO 0 _) (Nat.zero_le _)).size;unfold Hid;simp at this;omega
 unfold fY at HTN HBN HRN HFZ HZN;go_upto_region 2 with(first
  | (refine wpList_store_mid rfl 108 (.tmp 6) (.tmp 15) rfl w1.heap.size 0 NA rfl rfl ?_ ?_ HNS.out.2 ?_;(rw[HNS.out.1];exact HTN.out);(rw[HNS.out.1];exact Tryz.netSize)))
 generalize hW2:(w1.alloc (.cells #[.slice none 0 0,.slice none 0 0,.int .i64 0,.int .i64 0,.int .i64 0,.int .i64 0,.int .i64 0,.int .i64 0,.int .i64 0,.int .i64 0,.int .i64 0,.int .i64 0] 108)).setCells w1.heap.size 0 NA.toList=W2 at*;have HBW:Hid (Below w.heap.size w W2):=HB1.out.trans (HBN.out.mono (by omega));have HAR:Hid (ARo W2 w.heap.size w1.heap.size rg rcap m ng ncap nn fg fcap pg vp vl NXT FI LA G GA rules):=by
  refine⟨aC HF1.out (HBN.out.block _ (by omega)),aC HG1.out (HBN.out.block _ (by omega)),by rw[hNA];exact HRN.out,Aj (by rw[hNA];exact HRN.out) HFZ.out,HFN.out.below HBN.out hfgz,HRL.out.below HBN.out HVL.out,HR.out.below HBW.out hrg,fun j a hj=>(HBW.out.cell (p:=⟨pg,j,none⟩) hpg).trans (HGM.out j a hj),by omega,hfgz,HVL.out,hrg,hpg⟩
 have HSZ2:Hid (w1.heap.size<W2.heap.size):=HZN;clear HF1 HG1 HRN HFZ HFN HRL HVL HGM HBN HTN HZN HB1 hW2;obtain⟨nb,hnb⟩:∃n,w1.heap.size=n:=⟨_,rfl⟩
 rw[hnb]at HAR HSZ2 ⊢;replace hNA:=aA hNA;have hcn:=Hj rules rg rcap (.slice (some ⟨ng,0,none⟩) nn ncap) vp W2 (by rw[hm.out];exact hrn) HBE.out HAR.out.ru (by have:=HBW.out.size;omega);rw[hm.out]at hcn;have hcl:=Z1 rules 1 (by omega) HBE.out;obtain⟨CN,hCN⟩:∃c,bJ rules 1=c:=⟨_,rfl⟩
 rw[hCN]at hcn hcl;replace hCN:=aA hCN;go_wp2_with (first | (refine wpList_load_mid rfl 44 (.tmp 2) rfl w.heap.size 0 rfl [.slice (some ⟨rg,0,none⟩) m rcap,.slice (some ⟨ng,0,none⟩) nn ncap,vp] _ HAR.out.fl Tryz.underlying44 rfl Tryz.fileSize ?_) | fail);refine hcn.mono ?_;rintro e w3 ⟨rfl,hb3⟩;have HAR3:=aA (HAR.out.below hb3 HSZ2.out);have HB3:=aA (HBW.out.trans (hb3.mono HBW.out.size));have hz3:nb<w3.heap.size:=by have:=hb3.size;have:=HSZ2.out;omega
 clear hb3 hcn HAR HBW HSZ2;go_wp2_with (first | (at_make;refine wpList_make_own w3 rfl _ _ 52 rfl w3.heap.size 110 i1 (.slice none 0 0) 1 Tryz.underlying52 HI.out.1 HI.out.2.1 HI.out.2.2.1 .i64 .i64 _ CN rfl rfl rfl (by rw[HI.out.2.2.2];omega) (by unfold maxLen;omega) (bC _) ?_;intro w4 hown4 hg4));have hb4:Below w3.heap.size w3 w4:=⟨hg4.os,hg4.tape,hg4.output,hg4.size,fun k hk=>hg4.block k hk (by simp)⟩
 have HAR4:=aA (HAR3.out.below hb4 hz3);have HB4:=aA (HB3.out.trans (hb4.mono HB3.out.size));have HO4:=aA hown4;have hzw:w.heap.size<=w3.heap.size:=HB3.out.size;clear hown4 hg4 hb4 HAR3 HB3;obtain⟨cg,hcg⟩:∃c,w3.heap.size=c:=⟨_,rfl⟩
 rw[hcg]at HO4 hz3 hzw ⊢;obtain⟨AL,EAL⟩:∃a,qU CS CN 0 []=a:=⟨_,rfl⟩
 replace EAL:=aA EAL
 go_loopg [8,9] CN (fun gk cv iv wr=>∃(c:Nat) (acc:List (List (Nat×List Int))) (ys:List jG),cv= .slice (some ⟨cg,0,none⟩) c CN/\iv= .int .i64 (c:Int)/\c+gk=CN/\ys.length=c/\ys.map (fun y=>y.2.map (·.1))=acc/\AL=qU CS gk c acc/\
  wr.ownsRow cg 110 1 (.slice (some ⟨cg,0,none⟩) c CN) c (qJ ys)/\(∀y∈ys,iT wr K y/\∀k,yT y k->cg<k)/\ARo wr w.heap.size nb rg rcap m ng ncap nn fg fcap pg vp vl NXT FI LA G GA rules/\Below w.heap.size w wr)
 case atStart=>exact⟨0,[],[],rfl,rfl,by omega,rfl,rfl,EAL.out.symm,HO4.out,fun y hy=>absurd hy (aT),HAR4.out,HB4.out⟩
 case round=>
  obtain⟨c,acc,ys,rfl,rfl,hcg2,hyl,hacc,heq,hown,hcs,har,hb⟩:=hrel;have HQ:=aA heq;have HO:=aA hown;have HCI:=aA hcs;have HAR:=aA har;have HB:=aA hb;have HYL:=aA hyl;have HACC:=aA hacc;have hcz:cg<wr.heap.size:=(hown.lt cg rfl).2;have hwz:=hb.size;clear heq hown hcs har hb hyl hacc HO4 HAR4 HB4;by_cases hlt:c<CN
  ·obtain⟨d,rfl⟩:∃d,gk=d+1:=⟨gk - 1,by omega⟩
   have hd1:decide ((c:Int)<(CN:Int))=true:=by simp;omega
   have hbg:=Fl rules rg rcap nb fg fcap c (fun r=>FI.getD r 0) (.slice (some ⟨ng,0,none⟩) nn ncap) vp wr (by rw[hm.out];exact hrn) HAR.out.ru (by omega) (by omega) (by rw[hm.out];exact HAR.out.nt.c0) (by rw[hm.out];exact HAR.out.fn) (by have:=HAR.out.b2;omega);rw[hm.out]at hbg;have HCC:=aA (HCS.out c);generalize lN (fun r=>FI.getD r 0) c rules 0 0=BG at*;go_wp2_with (first | (refine wpList_load_mid rfl 44 (.tmp 2) rfl w.heap.size 0 rfl [.slice (some ⟨rg,0,none⟩) m rcap,.slice (some ⟨ng,0,none⟩) nn ncap,vp] _ HAR.out.fl Tryz.underlying44 rfl Tryz.fileSize ?_) | fail);refine hbg.mono ?_;rintro e w5 ⟨rfl,hb5⟩;have HAR5:=aA (HAR.out.below hb5 (by omega));have hz5:=hb5.size;have HB5:=aA hb5;clear hb5 hbg;have hGd:GA.toList.length=257:=by rw[bO];exact HGS.out
   have hsp:=Bw (.slice (some ⟨fg,0,none⟩) m fcap) vl NXT LA G GA pg pcap BG w5 (by omega) HAR5.out.rl (fun k hk=>by have:=HAR5.out.b3 k hk;omega) (by rw[hK.out];exact HGC.out) (by rw[hK.out];exact hGl) HAR5.out.gm (by have:=HAR5.out.b5;omega);rw[hK.out]at hsp;go_wp2_with (first
    | (refine wpList_load_mid rfl 108 (.tmp 6) rfl nb 0 rfl (fY (.slice (some ⟨fg,0,none⟩) m fcap) vl NXT).toList _ HAR5.out.nr Tryz.underlying108 rfl Tryz.netSize ?_)
    | (refine wpList_load_mid rfl 50 (.tmp 3) rfl (w.heap.size+1) 0 rfl GA.toList _ HAR5.out.gr Tryz.underlying50 rfl ?_ ?_;(rw[hGd];exact Tryz.grpSize))
    | fail)
   refine hsp.mono ?_;rintro e w6 ⟨tg,tcap,zb,rfl,hb6,hS6⟩;have hok2:=mY NXT BG G;have hsl:=rJ hok2.1;have HCC2:Hid (CS c=rV (cG NXT BG G).1.length (fun s=>rR LA ((cG NXT BG G).1.getD s 0)) (fun s k=>((cG NXT BG G).2.getD s []).getD k 0) K):=by unfold Hid;rw[HCC.out,←hK.out];rfl
   have hmg:=Ii tg (cG NXT BG G).1.length tcap K zb _ _ w6 (by omega) hGl (fun i k hi hk=>Nu NXT BG G i k hi (by rw[hK.out];exact hk)) hS6;rw[←HCC2.out]at hmg;have HB6:=aA (HB5.out.trans (hb6.mono hz5));have hz6:=hb6.size;clear hb6 hS6 hsp hok2 HCC HCC2 HAR5 HB5;generalize (cG NXT BG G).1.length=rn at*;go_wp2_with fail;refine hmg.mono ?_;intro e w7 hout;have HQ2:Hid (AL=match CS c with
    | none=>none
    | some l=>qU CS d (c+1) (acc++ [l])):=HQ.out
   cases hcsc:CS c with
   | none=>
    rw[hcsc]at hout HQ2;obtain⟨rfl,hb7⟩:=hout;have HE:Hid (AL=none):=HQ2.out;have HB7:=aA (HB.out.trans ((HB6.out.trans (hb7.mono (by omega))).mono hwz));clear hb7 hmg hcsc;go_wp2;go_ret2;rw[ECS.out,hCN.out,EAL.out,HE.out];exact⟨rfl,HB7.out⟩
   | some l=>
    rw[hcsc]at hout HQ2;obtain⟨v,⟨B,zs,hB6,hv,hzm,hzo,hzr,hb7⟩,rfl⟩:=hout
    cases hv
    have HE:Hid (AL=qU CS d (c+1) (acc++ [l])):=HQ2.out;have HBW7:Hid (Below wr.heap.size wr w7):=HB6.out.trans (hb7.mono (by omega));have HY:Hid (iT w7 K (B,zs)/\∀k,yT (B,zs) k->cg<k):=by
     refine⟨⟨(hzo.lt B rfl).2,fun i u hu=> ?_,fun z hz=>⟨(hzr z hz).2.1,(hzr z hz).2.2⟩⟩,fun k hk=> ?_⟩
     ·have:=hzo.cells rfl i u hu;rw[pV]at this;rw[bT];exact this
     ·rcases hk with rfl | ⟨z,hz,rfl⟩
      ·omega
      ·have:=(hzr z hz).1;omega
    have HZM:=aA hzm;have HO7:=aA (pI HO.out HBW7.out);have HCI7:Hid (∀y∈ys,iT w7 K y/\∀k,yT y k->cg<k):=fun y hy=>⟨(HCI.out y hy).1.below HBW7.out (bC _),(HCI.out y hy).2⟩
    have HAR7:=aA (HAR.out.below HBW7.out (by omega));have HB7:=aA (HB.out.trans (HBW7.out.mono hwz));have hz7:=HBW7.out.size;clear hb7 hmg hcsc hzm hzo hzr HO HCI HAR HB;go_wp2_with (first | (at_builtin;refine eI w7 rfl _ _ 52 rfl cg 110 (.slice none 0 0) 1 24 Tryz.underlying52 Tryz.infoStates cg c CN (qJ ys) [.slice (some ⟨B,0,none⟩) zs.length zs.length] _ rfl HO7.out _ rfl rfl rfl (by simp[cP]) (by omega) ?_;intro w8 hown8 hgrow8) | fail);go_roundg d
    case measure=>omega
    case rel=>
     have hg1:=World.grownBy_alloc w7 (.cells #[.slice (some ⟨B,0,none⟩) zs.length zs.length] 110) (some cg);have hg8:=aH hg1 hgrow8;have hmv:∀y:jG,(iT w7 K y/\∀k,yT y k->cg<k)->iT w8 K y/\∀k,yT y k->cg<k:=fun y hy=>⟨hy.1.block hg8.size (fun k hk ho=>hg8.block k hk (fun e=>by injection e with e;have:=hy.2 k ho;omega)),hy.2⟩
     have hbb:Below cg w7 w8:=⟨hg8.os,hg8.tape,hg8.output,hg8.size,fun k hk=>hg8.block k (by omega) (fun e=>by injection e with e;omega)⟩
     refine⟨c+1,acc++ [l],ys++ [(B,zs)],rfl,by go_num,by omega,by simp[HYL.out], ?_,HE.out,by rw[G7];exact hown8,fun y hy=> ?_,HAR7.out.below hbb hz3,HB7.out.trans (hbb.mono hzw)⟩
     ·rw[List.map_append,HACC.out,List.map_singleton];simp only;rw[HZM.out]
     ·rcases bK.1 hy with h1 | h1
      ·exact hmv y (HCI7.out y h1)
      ·rw[bD]at h1;rw[h1];exact hmv _ HY.out
  ·have e:gk=0:=by omega
   subst e;have HE:Hid (AL=some acc):=HQ.out;have hd1:decide ((c:Int)<(CN:Int))=false:=by simp;omega
   go_wp2;go_ret2;rw[ECS.out,hCN.out,EAL.out,HE.out];have hal:acc.length=c:=by rw[←HACC.out,aR,HYL.out]
   refine⟨cg,CN,by rw[hal];rfl,⟨ys,HACC.out,fun i u hu=> ?_,fun y hy=>(HCI.out y hy).1⟩,hcz,HB.out⟩;have:=HO.out.cells rfl i u hu;rw[pV]at this;rw[bT];exact this
end Go.Proofs.YtgjgjgihceijnaaGreat
namespace Go.Stn
def kX (tr:Nat->Nat->Int):Nat->List Nat->Option Nat
 | p,[]=>some p
 | p,b::w=>if tr p b= -1 then none else kX tr (tr p b).toNat w
def cI (mk:Nat->Nat)(tr:Nat->Nat->Int)(p:Nat)(w:List Nat):Nat:=match kX tr p w with
 | none=>0
 | some q=>mk q
def eE (L:Nat)(w:List Nat):Prop:=∀b∈w,b<L
theorem tQ (tr:Nat->Nat->Int):∀(u v:List Nat) (p:Nat),kX tr p (u++v)=match kX tr p u with
  | none=>none
  | some q=>kX tr q v
 | [],v,p=>rfl
 | b::u,v,p=>by
  rw[List.cons_append,kX,kX];by_cases h:tr p b= -1
  ·rw[if_pos h,if_pos h]
  ·rw[if_neg h,if_neg h];exact tQ tr u v _
theorem tV {tr:Nat->Nat->Int}{u:List Nat}{p q b:Nat}(h:kX tr p u=some q):kX tr p (u++ [b])=if tr q b= -1 then none else some (tr q b).toNat:=by
 rw[tQ,h];rfl
theorem tP {mk:Nat->Nat}{tr:Nat->Nat->Int}{u v:List Nat}{p q:Nat}(h:kX tr p u=some q):cI mk tr p (u++v)=cI mk tr q v:=by
 unfold cI;rw[tQ,h]
theorem bQ {mk:Nat->Nat}{tr:Nat->Nat->Int}{v:List Nat}{p b:Nat}(h:tr p b≠ -1):cI mk tr p (b::v)=cI mk tr (tr p b).toNat v:=by
 unfold cI;rw[kX,if_neg h]
theorem fB {mk:Nat->Nat}{tr:Nat->Nat->Int}{v:List Nat}{p b:Nat}(h:tr p b= -1):cI mk tr p (b::v)=0:=by
 unfold cI;rw[kX,if_pos h]
theorem Qc (mk:Nat->Nat)(tr:Nat->Nat->Int)(p:Nat):cI mk tr p []=mk p:=rfl
theorem tE {L:Nat}{u v:List Nat}(h:eE L u)(k:eE L v):eE L (u++v):=fun b hb=>by
 rcases bK.1 hb with h1 | h1
 ·exact h b h1
 ·exact k b h1
theorem Eb {L b:Nat}(h:b<L):eE L [b]:=fun c hc=>by rw[bD]at hc;rw[hc];exact h
theorem jL {L b:Nat}{v:List Nat}(h:b<L)(k:eE L v):eE L (b::v):=fun c hc=>by
 rcases List.mem_cons.1 hc with h1 | h1
 ·rw[h1];exact h
 ·exact k c h1
theorem pN (L:Nat):eE L []:=fun _ h=>absurd h aT
structure iX (n L:Nat)(tr:Nat->Nat->Int):Prop where
 pos:0<n
 rng:∀p b,p<n->b<L->tr p b= -1\/(0<=tr p b/\tr p b<(n:Int))
structure P8 (n L:Nat)(tr:Nat->Nat->Int):Prop where
 d1:∀p b q:Nat,p<n->b<L->0<q->(q:Int)<=tr p b->∃p' b':Nat,b'<L/\(p'<p\/(p'=p/\b'<=b))/\tr p' b'=(q:Int)
 d2:∀q:Nat,0<q->q<n->∃p b:Nat,p<q/\b<L/\tr p b=(q:Int)
def K8 (n L:Nat)(mk:Nat->Nat)(tr:Nat->Nat->Int):Prop:=∀p b,p<n->b<L->tr p b≠ -1->∃z,eE L z/\cI mk tr (tr p b).toNat z≠0
def Qg (n L:Nat)(mk:Nat->Nat)(tr:Nat->Nat->Int):Prop:=∀p q,p<n->q<n->p≠q->∃z,eE L z/\cI mk tr p z≠cI mk tr q z
structure nI (n L:Nat)(mk:Nat->Nat)(tr:Nat->Nat->Int):Prop where
 au:iX n L tr
 od:P8 n L tr
 li:K8 n L mk tr
 ap:Qg n L mk tr
theorem oP {n L:Nat}{tr:Nat->Nat->Int}(h:iX n L tr):∀(w:List Nat) (p q:Nat),p<n->eE L w->kX tr p w=some q->q<n
 | [],p,q,hp,_,hr=>by rw[kX]at hr;injection hr with hr;omega
 | b::w,p,q,hp,hl,hr=>by
  rw[kX]at hr;by_cases e:tr p b= -1
  ·rw[if_pos e]at hr;cases hr
  ·rw[if_neg e]at hr;rcases h.rng p b hp (hl b bS)with h1 | h1
   ·exact absurd h1 e
   ·exact oP h w _ q (by omega) (fun c hc=>hl c (bN _ hc)) hr
def nC (L:Nat)(t1 t2:Nat->Nat->Int)(p q:Nat):Prop:=∃u,eE L u/\kX t1 0 u=some p/\kX t2 0 u=some q
section
variable {n1 n2 L:Nat} {m1 m2:Nat->Nat} {t1 t2:Nat->Nat->Int}
theorem nC.swap {p q:Nat}(h:nC L t1 t2 p q):nC L t2 t1 q p:=by obtain⟨u,h1,h2,h3⟩:=h;exact⟨u,h1,h3,h2⟩
theorem nC.obs (hs:∀w,eE L w->cI m1 t1 0 w=cI m2 t2 0 w){p q:Nat}(h:nC L t1 t2 p q)(z:List Nat)(hz:eE L z):cI m1 t1 p z=cI m2 t2 q z:=by
 obtain⟨u,h1,h2,h3⟩:=h;rw[←tP h2,←tP h3];exact hs _ (tE h1 hz)
theorem nC.right (hs:∀w,eE L w->cI m1 t1 0 w=cI m2 t2 0 w)(h2:iX n2 L t2)(a2:Qg n2 L m2 t2){p q q':Nat}(h:nC L t1 t2 p q)(k:nC L t1 t2 p q'):q=q':=by
 by_cases e:q=q'
 ·exact e
 ·obtain⟨u,u1,u2,u3⟩:=h;obtain⟨v,v1,v2,v3⟩:=k;have hq:=oP h2 u 0 q h2.pos u1 u3;have hq':=oP h2 v 0 q' h2.pos v1 v3;obtain⟨z,hz,hne⟩:=a2 q q' hq hq' e;exact absurd ((nC.obs hs ⟨u,u1,u2,u3⟩ z hz).symm.trans (nC.obs hs ⟨v,v1,v2,v3⟩ z hz)) hne
theorem nC.left (hs:∀w,eE L w->cI m1 t1 0 w=cI m2 t2 0 w)(h1:iX n1 L t1)(a1:Qg n1 L m1 t1){p p' q:Nat}(h:nC L t1 t2 p q)(k:nC L t1 t2 p' q):p=p':=
 nC.right (fun w hw=>(hs w hw).symm) h1 a1 h.swap k.swap
theorem nC.step (hs:∀w,eE L w->cI m1 t1 0 w=cI m2 t2 0 w)(h1:iX n1 L t1)(l1:K8 n1 L m1 t1){p q b:Nat}(h:nC L t1 t2 p q)(hb:b<L)(ht:t1 p b≠ -1):
  t2 q b≠ -1/\nC L t1 t2 (t1 p b).toNat (t2 q b).toNat:=by
 obtain⟨u,u1,u2,u3⟩:=h;have hp:=oP h1 u 0 p h1.pos u1 u2;obtain⟨z,hz,hne⟩:=l1 p b hp hb ht;have hobs:=nC.obs hs ⟨u,u1,u2,u3⟩ (b::z) (jL hb hz);rw[bQ ht]at hobs;have h2:t2 q b≠ -1:=fun e=>by rw[fB e]at hobs;exact hne hobs
 refine⟨h2,u++ [b],tE u1 (Eb hb), ?_, ?_⟩
 ·rw[tV u2,if_neg ht]
 ·rw[tV u3,if_neg h2]
theorem Jc (P:Nat->Nat->Prop):∀(p b:Nat),P p b->∃p' b',P p' b'/\(p'<p\/(p'=p/\b'<=b))/\∀x y,(x<p'\/(x=p'/\y<b'))->¬P x y:=by
 have hb:∀(q:Nat),(∀x y,x<q->¬P x y)->∀b,P q b->∃b',P q b'/\b'<=b/\∀y,y<b'->¬P q y:=by
  intro q _ b
  induction b using bM with
  | ind b ih=>
   intro h;by_cases e:∃y,y<b/\P q y
   ·obtain⟨y,hy,hp⟩:=e;obtain⟨b',h1,h2,h3⟩:=ih y hy hp;exact⟨b',h1,by omega,h3⟩
   ·exact⟨b,h,bC _,fun y hy hp=>e ⟨y,hy,hp⟩⟩
 intro p
 induction p using bM with
 | ind p ih=>
  intro b h;by_cases e:∃x y,x<p/\P x y
  ·obtain⟨x,y,hx,hp⟩:=e;obtain⟨p',b',h1,h2,h3⟩:=ih x hx y hp;exact⟨p',b',h1,.inl (by omega),h3⟩
  ·obtain⟨b',h1,h2,h3⟩:=hb p (fun x y hx hp=>e ⟨x,y,hx,hp⟩) b h;refine⟨p,b',h1,.inr ⟨rfl,h2⟩,fun x y hxy hp=> ?_⟩;rcases hxy with hx | ⟨rfl,hy⟩
   ·exact e ⟨x,y,hx,hp⟩
   ·exact h3 y hy hp
theorem yY (c1:nI n1 L m1 t1)(c2:nI n2 L m2 t2)(hs:∀w,eE L w->cI m1 t1 0 w=cI m2 t2 0 w):∀p,p<n1->nC L t1 t2 p p:=by
 intro p
 induction p using bM with
 | ind p ih=>
  intro hp;by_cases h0:p=0
  ·subst h0;exact⟨[],pN L,rfl,rfl⟩
  ·obtain⟨x,y,hx,hy,hxy⟩:=c1.od.d2 p (by omega) hp;obtain⟨p1,b,⟨hbL,hp1⟩,hle,hmin⟩:=Jc (fun x y=>y<L/\t1 x y=(p:Int)) x y ⟨hy,hxy⟩;have hp1p:p1<p:=by omega
   have r1:=ih p1 hp1p (by omega);have ht1:t1 p1 b≠ -1:=by rw[hp1];omega
   obtain⟨ht2,hpair⟩:=nC.step hs c1.au c1.li r1 hbL ht1;rw[hp1]at hpair;simp only[cF]at hpair;have hlt2:p1<n2:=by obtain⟨u,u1,u2,u3⟩:=r1;exact oP c2.au u 0 p1 c2.au.pos u1 u3
   have hr2:=c2.au.rng p1 b hlt2 hbL;generalize hq:(t2 p1 b).toNat=q at hpair;have hqI:t2 p1 b=(q:Int):=by rcases hr2 with h | h<;> omega
   rcases cL q p with hqp | hqp | hqp
   ·have:=nC.left hs c1.au c1.ap hpair (ih q hqp (by omega));omega
   ·subst hqp;exact hpair
   ·obtain⟨p2,b2,hb2,hle2,hp2⟩:=c2.od.d1 p1 b p hlt2 hbL (by omega) (by omega);have hne:¬(p2=p1/\b2=b):=by rintro⟨rfl,rfl⟩;omega
    have hp2p:p2<p:=by omega
    have r2:=ih p2 hp2p (by omega);have ht3:t2 p2 b2≠ -1:=by rw[hp2];omega
    obtain⟨ht4,hpair2⟩:=nC.step (fun w hw=>(hs w hw).symm) c2.au c2.li r2.swap hb2 ht3;rw[hp2]at hpair2;simp only[cF]at hpair2;have hr4:=c1.au.rng p2 b2 (by omega) hb2;generalize hq3:(t1 p2 b2).toNat=p3 at hpair2;have hqI3:t1 p2 b2=(p3:Int):=by rcases hr4 with h | h<;> omega
    rcases cL p3 p with h3 | h3 | h3
    ·have:=nC.left (fun w hw=>(hs w hw).symm) c2.au c2.ap hpair2 (ih p3 h3 (by omega)).swap;omega
    ·subst h3;exact absurd ⟨hb2,hqI3⟩ (hmin p2 b2 (by omega))
    ·obtain⟨p4,b4,hb4,hle4,hp4⟩:=c1.od.d1 p2 b2 p (by omega) hb2 (by omega) (by omega);exact absurd ⟨hb4,hp4⟩ (hmin p4 b4 (by omega))
theorem wL (c1:nI n1 L m1 t1)(c2:nI n2 L m2 t2)(hs:∀w,eE L w->cI m1 t1 0 w=cI m2 t2 0 w):
  n1=n2/\(∀p,p<n1->m1 p=m2 p)/\∀p b,p<n1->b<L->t1 p b=t2 p b:=by
 have h12:=yY c1 c2 hs;have h21:=yY c2 c1 (fun w hw=>(hs w hw).symm);have hlt:∀p,p<n1->p<n2:=fun p hp=>by obtain⟨u,u1,_,u3⟩:=h12 p hp;exact oP c2.au u 0 p c2.au.pos u1 u3
 have hgt:∀p,p<n2->p<n1:=fun p hp=>by obtain⟨u,u1,_,u3⟩:=h21 p hp;exact oP c1.au u 0 p c1.au.pos u1 u3
 have hn:n1=n2:=by
  have:=c1.au.pos;have:=c2.au.pos;have a:=hlt (n1 - 1) (by omega);have b:=hgt (n2 - 1) (by omega);omega
 refine⟨hn,fun p hp=>nC.obs hs (h12 p hp) [] (pN L),fun p b hp hb=> ?_⟩;by_cases e:t1 p b= -1
 ·by_cases e2:t2 p b= -1
  ·rw[e,e2]
  ·exact absurd e (nC.step (fun w hw=>(hs w hw).symm) c2.au c2.li (h12 p hp).swap hb e2).1
 ·obtain⟨e2,hp2⟩:=nC.step hs c1.au c1.li (h12 p hp) hb e;have hr1:=c1.au.rng p b hp hb;have hr2:=c2.au.rng p b (by omega) hb;have:=nC.right hs c2.au c2.ap hp2 (h12 (t1 p b).toNat (by rcases hr1 with h | h<;> omega));rcases hr1 with h | h<;> rcases hr2 with k | k<;> omega
end
end Go.Stn
