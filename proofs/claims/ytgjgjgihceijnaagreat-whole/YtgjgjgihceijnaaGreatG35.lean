import Derived.Test.YtgjgjgihceijnaaGreatG34
import Derived.Test.YtgjgjgihceijnaaGreatG02
open List renaming length_append->aL,length_singleton->aR,length_eq_zero_iff->bM,append_nil->bT
open Go.Value renaming oneCell'->aO,slice->cN
open Go.World renaming cell?_of_block->aT,cell?_setCell_other->a9,cell?_setCell_same->bK,frozen?_setCell->bO,setCell->cL
open Classical renaming byContradiction->bC
open Go.RowKit.Below renaming heap_alloc->bN,refl->cF
open Nat renaming le_refl->bS,zero_le->cO
set_option maxRecDepth 100000
set_option maxHeartbeats 8000000
namespace Go.Proofs.YtgjgjgihceijnaaGreat
open Go.RowKit Go.Stn
theorem kV.node2 {w w1:World}{O O1:Nat->Nat}{fb nR pl cn:Nat}{L:List NV}{vN vR:Value}{rc:List Value}{ns:List Nat}{g cap m:Nat}(hf:FN fb w1 O1 L vN vR rc nR pl cn)(hk:FK w O w1 O1)(h:kV w1 O1 w.heap.size (.slice (some ⟨g,0,none⟩) m cap) ns)(hm:m=ns.length)(hn:0<ns.length)(k:Nat)(h0:k≠0)(f:Nat->Bool):
  FN fb w1 (fun k=>if k=g then 4 else O1 k) L vN vR rc nR pl cn/\FK w O w1 (fun k=>if k=g then 4 else O1 k)/\
   zQ w1 (fun k=>if k=g then 4 else O1 k) ⟨⟨k,ns,f⟩,.slice (some ⟨g,0,none⟩) m cap,.slice none 0 0⟩:=by
 obtain⟨g',cap',e,h1,h2,h3⟩:=h.node hf hk hn k h0 f;injection e with e1 _ e3;injection e1 with e1;injection e1 with e1;subst e1 e3;rw[hm];exact⟨h1,h2,h3⟩
theorem Tryz.infoIntR:(Tryz.prog.info? 3).map (fun i=>(i.zero,i.size,i.bytes))=some (some (.int .i64 0),1,8):=by kernel_rfl
theorem Gn {s:ByteArray}{f lo:Nat}(hs:s.size<=200)(hp:Ge 104 s 2 1 lo (bY s (dS s f))):Ge 76 s 0 0 lo (kL s (dS s (f+1))):=by
 intro fb w O L vN vR rc nR pl cn i0 h hok hlo hi hL;have HB:=aA (qF s f);have HS:=aA (ExI.start s f i0);obtain⟨T,hT⟩:∃T,T=kL s (dS s (f+1)) i0:=⟨_,rfl⟩
 rw[←hT]at HS ⊢;clear hT;have HP:=aA hp;have HF:=aA h;have HOK:=aA hok;clear hp h hok;obtain⟨ex,hex⟩:∃ex,ex=dS s f:=⟨_,rfl⟩
 rw[←hex]at HB HS HP;clear hex;go_enter Tryz.func76,Tryz.ntmps76;go_wp2_with fail
 go_loopw [2,9,10] (fun z x y wr=>∃(i:Nat) (M:List NV) (vN1:Value) (O1:Nat->Nat) (no nr:List Nat) (ors rs:List Rx),z= .int .i64 (i:Int)/\i0<=i/\i<=s.size/\XI s ex T fb w O L vR rc nR pl cn i0 wr i x y M vN1 O1 no nr ors rs) (fun z _ _ _=>s.size - (intOf z).toNat)
 case atStart=>
  refine⟨i0,[],vN,O,[],[],[],[],rfl,bS _,hi,⟨?_,FK.refl _ _,kV.start _ _ _,kV.start _ _ _,fun k e=>(by cases e),.nil,.nil, ?_,by simp,fun e=>absurd e (by simp),by simp,HS.out⟩⟩
  ·rw[bT];exact HF.out
  ·rw[bT];exact HOK.out
 case round=>
  obtain⟨i,M,vN1,O1,no,nr,ors,rs,rfl,hi0,his,hxi⟩:=hrel;obtain⟨ar,cr,er⟩:=aK hxi.lr.ro;obtain⟨ao,co,eo⟩:=aK hxi.lo.ro;subst er eo;have HX:=aA hxi;have hb1:=hxi.b1;have hb3:=hxi.b3;have hzw:=hxi.fk.size;have hlr:=mH.len hxi.sr;have HLR:=aA hlr;clear hxi HS HF HOK hlr;by_cases hst:oC s i=true
  ·have hcase:s.size<=i\/∃h:i<s.size,(s[i]'h).toNat=41:=by
    unfold oC at hst;rw[decide_eq_true_eq]at hst;by_cases e:s.size<=i
    ·exact .inl e
    ·exact .inr ⟨by omega,by rw[jE s i (by omega)];exact hst.resolve_left e⟩
   have HST:=aA hst;clear hst
   cases rs with
   | nil=>
    have hn0:nr= []:=bM.1 HLR.out;have HTN:Hid (T=none):=HX.out.ei.none0 (H5 (Ja HST.out));subst hn0;rcases hcase with hge | ⟨hlt,hby⟩
    all_goals
     go_wp2;go_ret3;rw[HTN.out];exact nM.bad HX.out.fk
   | cons p ps=>
    have hnr:0<nr.length:=by rw[HLR.out];simp
    have hz0:((nr.length:Int)==0)=false:=by rw[beq_eq_false_iff_ne];omega
    obtain⟨g,eg⟩:∃g,ar=some ⟨g,0,none⟩:=by
     rcases bZ HX.out.lr.ro with e | ⟨g,c,e⟩
     ·injection e with e1 e2 e3;omega
     ·injection e with e1 e2 e3;exact⟨g,e1⟩
    subst eg;have HN:=aA (kV.node2 HX.out.fn HX.out.fk HX.out.lr rfl hnr 1 (by decide) (fun _=>false));have HCL:Hid (∀m,m∈nr->m<(L++M).length):=fun m hm=>by have:=HX.out.sr.lt m hm;rw[dQ]at this;exact this
    have hdi:(cN ao no.length co).ownBlock≠some g:=fun e=>HX.out.di g e rfl
    have HTG:=aA (HX.out.lo.tagged hdi);obtain⟨L1,e1⟩:∃L1,L1=L++M:=⟨_,rfl⟩
    have hl1:L1.length<=6000:=by rw[e1,aL];omega
    rw[←e1]at HN HCL;have HLM:=aA e1;clear e1 hdi;rcases hcase with hge | ⟨hlt,hby⟩
    all_goals
     go_wp2_with fail;refine(nP HN.out.1 1 (some ⟨g,0,none⟩) none nr.length cr 0 0 ⟨1,nr,fun _=>false⟩ rfl HN.out.2.2 HCL.out (by omega)).mono ?_;obtain⟨t1,ht1⟩:∃t:NV,t=⟨⟨1,nr,fun _=>false⟩,.slice (some ⟨g,0,none⟩) nr.length cr,.slice none 0 0⟩:=⟨_,rfl⟩
     rw[←ht1];rintro e w3 ⟨rfl,O3,vN3,hf3,hk3⟩;have HT1:Hid (t1.x=⟨1,nr,fun _=>false⟩):=by unfold Hid;rw[ht1]
     have HF3:=aA hf3;have HK3:=aA (HN.out.2.1.trans hk3);have HO3:=aA (HTG.out.keep hk3);have HRO:=aA HO3.out.ro;have hz3:=HK3.out.size;clear ht1 hf3 hk3 HN HTG;go_wp2_with (first | (at_builtin;refine aF w3 rfl (.tmp 42) (.tmp 44) 59 rfl w.heap.size 3 (.int .i64 0) 1 8 Tryz.underlying59 Tryz.infoIntR rfl (by decide) (by decide) (.slice ao no.length co) no.length (dP no) [.int .i64 (L1.length:Int)] _ rfl HRO.out _ rfl rfl rfl (by simp[aO]) (by omega) (by omega) ?_;intro g4 cap4 w4 hown4 hgrow4 hat4 hlt4;have HAP:=aA (kV.app HF3.out HK3.out HO3.out (kV.start w3 O3 w.heap.size) (fun k e=>by cases e) hown4 hgrow4 hat4);clear hown4 hgrow4 hat4 hlt4));have HN5:=aA (kV.node2 HAP.out.1 HAP.out.2.1 HAP.out.2.2.1 (by simp) (by simp) 2 (by decide) (fun _=>false));have HC5:Hid (∀m,m∈no++ [L1.length]->m<(L1++ [t1]).length):=fun m hm=>by
      rw[aL,aR];rcases List.mem_append.1 hm with e | e
      ·have:=HX.out.so.lt m e;rw[dQ,←HLM.out]at this;omega
      ·rw[List.mem_singleton.1 e];omega
     refine(nP HN5.out.1 2 (some ⟨g4,0,none⟩) none (no.length+1) cap4 0 0 ⟨2,no++ [L1.length],fun _=>false⟩ rfl HN5.out.2.2 HC5.out (by simp;omega)).mono ?_;obtain⟨t2,ht2⟩:∃t:NV,t=⟨⟨2,no++ [L1.length],fun _=>false⟩,.slice (some ⟨g4,0,none⟩) (no.length+1) cap4,.slice none 0 0⟩:=⟨_,rfl⟩
     rw[←ht2];rintro e w6 ⟨rfl,O6,vN6,hf6,hk6⟩;have HT2:Hid (t2.x=⟨2,no++ [(L++M).length],fun _=>false⟩):=by unfold Hid;rw[ht2,HLM.out]
     have HF6:=aA hf6;have HK6:=aA (HN5.out.2.1.trans hk6);clear ht2 hf6 hk6 HN5;go_wp2;go_ret3;have hfin:=HX.out.fin hs his HST.out HT1.out HT2.out (by rw[←HLM.out];exact HF6.out) HK6.out;rw[←HLM.out]at hfin;exact hfin
  ·have hlt:i<s.size:=by
    apply bC;intro hn;exact hst (by unfold oC;rw[decide_eq_true_eq];exact .inl (by omega))
   have h41:bt s i≠41:=fun e=>hst (by unfold oC;rw[decide_eq_true_eq];exact .inr e)
   have HSF:Hid (oC s i=false):=by unfold Hid;simpa using hst
   have hby:(s[i]'hlt).toNat=bt s i:=jE s i hlt;have hiI:(0:Int)<=(i:Int)/\(i:Int)<(s.size:Int):=by omega
   have hyl:=jS s i;clear hst;by_cases k1:bt s i=124
   ·have HBA:=aA k1;rw[k1]at hby;clear k1 h41 hyl
    cases rs with
    | nil=>
     have hn0:nr= []:=bM.1 HLR.out;have HTN:Hid (T=none):=HX.out.ei.none0 (H5 (Pz hlt HBA.out));subst hn0;go_wp2;go_ret3;rw[HTN.out];exact nM.bad HX.out.fk
    | cons p ps=>
     have hnr:0<nr.length:=by rw[HLR.out];simp
     have hz0:((nr.length:Int)==0)=false:=by rw[beq_eq_false_iff_ne];omega
     obtain⟨g,eg⟩:∃g,ar=some ⟨g,0,none⟩:=by
      rcases bZ HX.out.lr.ro with e | ⟨g,c,e⟩
      ·injection e with e1 e2 e3;omega
      ·injection e with e1 e2 e3;exact⟨g,e1⟩
     subst eg;have HN:=aA (kV.node2 HX.out.fn HX.out.fk HX.out.lr rfl hnr 1 (by decide) (fun _=>false));have HCL:Hid (∀m,m∈nr->m<(L++M).length):=fun m hm=>by have:=HX.out.sr.lt m hm;rw[dQ]at this;exact this
     have hdi:(cN ao no.length co).ownBlock≠some g:=fun e=>HX.out.di g e rfl
     have HTG:=aA (HX.out.lo.tagged hdi);obtain⟨L1,e1⟩:∃L1,L1=L++M:=⟨_,rfl⟩
     have hl1:L1.length<=6000:=by rw[e1,aL];omega
     rw[←e1]at HN HCL;have HLM:=aA e1;clear e1 hdi;go_wp2_with fail;refine(nP HN.out.1 1 (some ⟨g,0,none⟩) none nr.length cr 0 0 ⟨1,nr,fun _=>false⟩ rfl HN.out.2.2 HCL.out (by omega)).mono ?_;obtain⟨t1,ht1⟩:∃t:NV,t=⟨⟨1,nr,fun _=>false⟩,.slice (some ⟨g,0,none⟩) nr.length cr,.slice none 0 0⟩:=⟨_,rfl⟩
     rw[←ht1];rintro e w3 ⟨rfl,O3,vN3,hf3,hk3⟩;have HT1:Hid (t1.x=⟨1,nr,fun _=>false⟩):=by unfold Hid;rw[ht1]
     have HF3:=aA hf3;have HK3:=aA (HN.out.2.1.trans hk3);have HO3:=aA (HTG.out.keep hk3);have HRO:=aA HO3.out.ro;have hz3:=HK3.out.size;clear ht1 hf3 hk3 HN HTG;go_wp2_with (first | (at_builtin;refine aF w3 rfl (.tmp 42) (.tmp 44) 59 rfl w.heap.size 3 (.int .i64 0) 1 8 Tryz.underlying59 Tryz.infoIntR rfl (by decide) (by decide) (.slice ao no.length co) no.length (dP no) [.int .i64 (L1.length:Int)] _ rfl HRO.out _ rfl rfl rfl (by simp[aO]) (by omega) (by omega) ?_;intro g4 cap4 w4 hown4 hgrow4 hat4 hlt4;have HAP:=aA (kV.app HF3.out HK3.out HO3.out (kV.start w3 O3 w.heap.size) (fun k e=>by cases e) hown4 hgrow4 hat4);clear hown4 hgrow4 hat4 hlt4));go_roundw
     case rel=>
      have hbar:=HX.out.bar hs hi0 hlt HBA.out HT1.out (by rw[←HLM.out];exact HAP.out.1) HAP.out.2.1 (by rw[←HLM.out];exact HAP.out.2.2.1);exact⟨i+1,_,_,_,_,_,_,_,by go_num,by omega,hlt,hbar⟩
     case measure=>simp[intOf];omega
   ·have t1:((bt s i:Int)==41)=false:=by rw[beq_eq_false_iff_ne];omega
    have t2:((bt s i:Int)==124)=false:=by rw[beq_eq_false_iff_ne];omega
    have HB2:=aA k1;have HXB:Hid (∀W,FN fb W O1 (L++M) vN1 vR rc nR (pl+npL ors+npL rs) cn->Calls Tryz.prog 104 #[.pointer (some ⟨fb,0,none⟩),.string s,.int .i64 (i:Int)] W (nM 2 fb W O1 (L++M) vR rc nR (pl+npL ors+npL rs) cn i (bY s ex i))):=fun W hW=>HP.out fb W O1 (L++M) vN1 vR rc nR _ cn i hW HX.out.ok (by omega) (by omega) (by rw[aL];omega)
    have HBAD:Hid (bY s ex i=none->T=none):=fun e=>HX.out.ei.bad hlt HSF.out HB2.out e
    have HPB:=aA (fun r a=>pU HB.out i r a);have HMO:Hid (∀r2 a2,bY s ex i=some (r2,a2)->ExI s ex T ors (rs++ [r2]) a2):=fun r2 a2 e=>HX.out.ei.piece HB.out e
    obtain⟨P,hPe⟩:∃P,P=bY s ex i:=⟨_,rfl⟩
    rw[←hPe]at HXB HBAD HPB HMO;have HPE:=aA hPe;clear hPe k1 h41 hyl;generalize bt s i=y at*
    cases P with
    | none=>
     have HTN:=aA (HBAD.out rfl);go_wp2_with fail;refine(HXB.out _ (HX.out.fn.below ⟨rfl,rfl,rfl,bS _,fun _ _=>rfl⟩)).mono ?_;rintro e w1 ⟨a,b,O',rfl,hk⟩;have HK:=aA (HX.out.fk.trans hk);clear hk;go_wp2;go_ret3;rw[HTN.out];exact nM.bad HK.out
    | some q=>
     obtain⟨r2,a2⟩:=q;have hpb:=HPB.out r2 a2 rfl;have HPE2:Hid (bY s ex i=some (r2,a2)):=HPE.out.symm;clear HBAD HPB HMO HPE;go_wp2_with fail;refine(HXB.out _ (HX.out.fn.below ⟨rfl,rfl,rfl,bS _,fun _ _=>rfl⟩)).mono ?_;rintro e w1 ⟨n,M2,vN2,O2,rfl,hf,hk,hsm,hok2,hM⟩;have HF1:=aA hf;have HK1:=aA (HX.out.fk.trans hk);have HS1:=aA hsm;have HO1:=aA hok2;have HR1:=aA (HX.out.lr.keep hk);have HQ1:=aA (HX.out.lo.keep hk);have HRO:=aA HR1.out.ro;have hz1:=HK1.out.size;clear hf hk hsm hok2;go_wp2_with (first | (at_builtin;refine aF w1 rfl (.tmp 66) (.tmp 68) 59 rfl w.heap.size 3 (.int .i64 0) 1 8 Tryz.underlying59 Tryz.infoIntR rfl (by decide) (by decide) (.slice ar nr.length cr) nr.length (dP nr) [.int .i64 (n:Int)] _ rfl HRO.out _ rfl rfl rfl (by simp[aO]) (by omega) (by omega) ?_;intro g4 cap4 w4 hown4 hgrow4 hat4 hlt4;have HAP:=aA (kV.app HF1.out HK1.out HR1.out HQ1.out HX.out.di hown4 hgrow4 hat4);clear hown4 hgrow4 hat4 hlt4));go_roundw
     case rel=>
      have hmo:=HX.out.more hi0 HB.out HPE2.out HS1.out HO1.out hM HAP.out.1 HAP.out.2.1 HAP.out.2.2.2.1 HAP.out.2.2.1 HAP.out.2.2.2.2;exact⟨a2,_,_,_,_,_,_,_,rfl,by omega,hpb.2,hmo⟩
     case measure=>simp[intOf];omega
theorem Ma {s:ByteArray}(hs:s.size<=200):∀f,Ge 76 s 0 0 (s.size+1 - f) (kL s (dS s f)):=by
 intro f
 induction f with
 | zero=>intro fb w O L vN vR rc nR pl cn i _ _ h1 h2;omega
 | succ f ih=>
  have ha:=Lz (by omega) ih (qF s f);have hp:=Hs (by omega) ha (qF s f);have he:=Gn hs hp;have e:s.size+1 - f - 1=s.size+1 - (f+1):=by omega
  rw[e]at he;exact he
end Go.Proofs.YtgjgjgihceijnaaGreat
namespace Go.Stn
def spl (s:ByteArray)(c:Nat):Nat->Nat->Nat->List (Nat×Nat)
 | 0,_,_=>[]
 | n+1,fr,i=>if i=s.size\/bt s i=c then(fr,i)::spl s c n (i+1) (i+1)else spl s c n fr (i+1)
def fC (s:ByteArray)(c:Nat):List (Nat×Nat):=spl s c (s.size+1) 0 0
theorem V0 {s:ByteArray}{c n fr i:Nat}(h:i=s.size\/bt s i=c):spl s c (n+1) fr i=(fr,i)::spl s c n (i+1) (i+1):=by
 show(if i=s.size\/bt s i=c then _ else _)=_;rw[if_pos h]
theorem Et {s:ByteArray}{c n fr i:Nat}(h:¬(i=s.size\/bt s i=c)):spl s c (n+1) fr i=spl s c n fr (i+1):=by
 show(if i=s.size\/bt s i=c then _ else _)=_;rw[if_neg h]
theorem Tk (s:ByteArray)(c:Nat):∀(n fr i:Nat),n+i=s.size+1->0<n->0<(spl s c n fr i).length:=by
 intro n
 induction n with
 | zero=>intro fr i _ h;omega
 | succ n ih=>
  intro fr i h _;by_cases hc:i=s.size\/bt s i=c
  ·rw[V0 hc];simp
  ·rw[Et hc];exact ih fr (i+1) (by omega) (by omega)
theorem Ho (s:ByteArray)(c:Nat):0<(fC s c).length:=Tk s c (s.size+1) 0 0 (by omega) (by omega)
def Z2 (s:ByteArray)(l:List (Nat×Nat)):List Value:=l.map (fun(p:Nat×Nat)=>Value.string (s.extract p.1 p.2))
theorem S3 (s:ByteArray)(l:List (Nat×Nat))(a b:Nat):Z2 s (l++ [(a,b)])=Z2 s l++ [.string (s.extract a b)]:=by unfold Z2;simp
theorem Ps {s:ByteArray}{l:List (Nat×Nat)}{j a b:Nat}(h:l[j]? =some (a,b)):(Z2 s l)[j]? =some (.string (s.extract a b)):=by unfold Z2;rw[List.getElem?_map,h];rfl
end Go.Stn
namespace Go.Proofs.YtgjgjgihceijnaaGreat
open Go.RowKit Go.Stn
theorem Tryz.infoStrR:(Tryz.prog.info? 9).map (fun i=>(i.zero,i.size,i.bytes))=some (some (.string ⟨#[]⟩),1,16):=by kernel_rfl
theorem iA {w wr w4:World}{T:TypeId}{z n:Nat}{v:Value}{xs:List Value}{o:Obj}(hb:Below w.heap.size w wr)(hr:wr.ownsRow w.heap.size T z v n xs)(hg:(wr.alloc o).grownBy w4 v.ownBlock):Below w.heap.size w w4:=by
 have hz:=hb.size;have hs:=hg.size;have ez:(wr.alloc o).heap.size=wr.heap.size+1:=by simp
 exact⟨hg.os.trans hb.os,hg.tape.trans hb.tape,hg.output.trans hb.output,by omega,fun k hk=>((hg.block k (by omega) (fun e=>by have:=(hr.lt k e.symm).1;omega)).trans (bN wr o k (by omega))).trans (hb.block k hk)⟩
def D5 (s:ByteArray)(c:Nat)(w:World)(e:Ending)(w':World):Prop:=
 ∃g cap,e= .returned (.slice (some ⟨g,0,none⟩) (fC s c).length cap)/\Below w.heap.size w w'/\w.heap.size<=g/\g<w'.heap.size/\∀j a b,(fC s c)[j]? =some (a,b)->w'.cell? ⟨g,j,none⟩=some (.string (s.extract a b))
theorem D5.of {s:ByteArray}{c:Nat}{w wr:World}{v:Value}(h:wr.ownsRow w.heap.size 9 1 v (fC s c).length (Z2 s (fC s c)))(hb:Below w.heap.size w wr):D5 s c w (.returned v) wr:=by
 have hp:=Ho s c;rcases bZ h with e | ⟨g,cap,e⟩
 ·exfalso;obtain⟨a,q,e2⟩:=aK h;rw[e]at e2;injection e2 with _ e3 _;omega
 ·have hlt:=h.lt g (by rw[e];rfl);refine⟨g,cap,by rw[e],hb,hlt.1,hlt.2,fun j a b hj=> ?_⟩;have:=h.cells (g:=g) (by rw[e];rfl) j _ (Ps hj);have ea:(⟨g,0,none⟩:Addr).add j=⟨g,j,none⟩:=by
   unfold Addr.add;split
   ·rename_i e0;rw[e0]
   ·rw[Nat.zero_add]
  rw[ea]at this;exact this
theorem I7 (s:ByteArray)(c:Nat)(w:World)(hs:s.size<=500):
  Calls Tryz.prog 43 #[.string s,.int .u8 (c:Int)] w (D5 s c w):=by
 go_enter Tryz.func43,Tryz.ntmps43;go_wp2
 go_loopw [5,6,7] (fun x y z wr=>∃(i fr:Nat) (acc:List (Nat×Nat)),i<=s.size+1/\fr<=i/\acc.length<=i/\z= .int .i64 (i:Int)/\y= .int .i64 (fr:Int)/\Hid (fC s c=acc++spl s c (s.size+1 - i) fr i)/\wr.ownsRow w.heap.size 9 1 x acc.length (Z2 s acc)/\Below w.heap.size w wr) (fun _ _ z _=>s.size+1 - (intOf z).toNat)
 case atStart=>exact⟨0,0,[],by omega,by omega,by simp,rfl,rfl,rfl,World.ownsRow_nil _ _ _ 1,cF _ _⟩
 case round=>
  obtain⟨i,fr,acc,hi,hfr,hal,rfl,rfl,HSP,hro,hbl⟩:=hrel;obtain⟨ao,co,eo⟩:=aK hro;subst eo;have HRO:=aA hro;have HBL:=aA hbl;have hzw:=hbl.size;clear hro hbl;by_cases hle:i<=s.size
  ·obtain⟨n,hn⟩:∃n,s.size+1 - i=n+1:=⟨s.size - i,by omega⟩
   have hn2:s.size+1 - (i+1)=n:=by omega
   have hfi:(0:Int)<=(fr:Int)/\(fr:Int)<=(i:Int)/\(i:Int)<=(s.size:Int):=by omega
   rw[hn]at HSP;have HN2:=aA hn2;clear hn hn2;by_cases hc:i=s.size\/bt s i=c
   ·rw[V0 hc]at HSP;have hcase:i=s.size\/∃h:i<s.size,(s[i]'h).toNat=c/\((i:Int)==(s.size:Int))=false:=by
     by_cases e:i=s.size
     ·exact .inl e
     ·exact .inr ⟨by omega,by rw[jE s i (by omega)];exact hc.resolve_left e,by rw[beq_eq_false_iff_ne];omega⟩
    have HSP2:Hid (fC s c=(acc++ [(fr,i)])++spl s c (s.size+1 - (i+1)) (i+1) (i+1)):=by unfold Hid;rw[HSP.out,HN2.out];simp
    clear hc HSP HN2;rcases hcase with e | ⟨h1,h2,h3⟩
    ·have d1:((i:Int)==(s.size:Int))=true:=by rw[e];simp
     clear e;go_wp2_with (first | (at_builtin;refine aF wr rfl (.tmp 25) (.tmp 30) 123 rfl w.heap.size 9 (.string ⟨#[]⟩) 1 16 Tryz.underlying123 Tryz.infoStrR rfl (by decide) (by decide) (.slice ao acc.length co) acc.length (Z2 s acc) [.string (s.extract fr i)] _ rfl HRO.out _ rfl rfl rfl (by simp[aO]) (by omega) (by omega) ?_;intro g4 cap4 w4 hown4 hgrow4 hat4 hlt4;have HOW:=aA hown4;have HBW:Hid (Below w.heap.size w w4):=iA HBL.out HRO.out hgrow4;clear hown4 hgrow4 hat4 hlt4));go_roundw
     case rel=>exact⟨i+1,i+1,acc++ [(fr,i)],by omega,by omega,by simp;omega,by go_num,by go_num,HSP2,by rw[S3,aL,aR];exact HOW.out,HBW.out⟩
     case measure=>simp[intOf];omega
    ·have hiI:(0:Int)<=(i:Int)/\(i:Int)<(s.size:Int):=by omega
     go_wp2_with (first | (at_builtin;refine aF wr rfl (.tmp 25) (.tmp 30) 123 rfl w.heap.size 9 (.string ⟨#[]⟩) 1 16 Tryz.underlying123 Tryz.infoStrR rfl (by decide) (by decide) (.slice ao acc.length co) acc.length (Z2 s acc) [.string (s.extract fr i)] _ rfl HRO.out _ rfl rfl rfl (by simp[aO]) (by omega) (by omega) ?_;intro g4 cap4 w4 hown4 hgrow4 hat4 hlt4;have HOW:=aA hown4;have HBW:Hid (Below w.heap.size w w4):=iA HBL.out HRO.out hgrow4;clear hown4 hgrow4 hat4 hlt4));go_roundw
     case rel=>exact⟨i+1,i+1,acc++ [(fr,i)],by omega,by omega,by simp;omega,by go_num,by go_num,HSP2,by rw[S3,aL,aR];exact HOW.out,HBW.out⟩
     case measure=>simp[intOf];omega
   ·rw[Et hc]at HSP;have hlt:i<s.size:=by
     apply bC;intro h;exact hc (.inl (by omega))
    have hby:(s[i]'hlt).toNat=bt s i:=jE s i hlt;have d1:((i:Int)==(s.size:Int))=false:=by rw[beq_eq_false_iff_ne];omega
    have d2:((bt s i:Int)==(c:Int))=false:=by rw[beq_eq_false_iff_ne];intro e;exact hc (.inr (by omega))
    have hiI:(0:Int)<=(i:Int)/\(i:Int)<(s.size:Int):=by omega
    have HSP2:Hid (fC s c=acc++spl s c (s.size+1 - (i+1)) fr (i+1)):=by unfold Hid;rw[HSP.out,HN2.out]
    clear hc HSP HN2;generalize bt s i=y at*;go_wp2;go_roundw
    case rel=>exact⟨i+1,fr,acc,by omega,by omega,by omega,by go_num,rfl,HSP2,HRO.out,HBL.out⟩
    case measure=>simp[intOf];omega
  ·have HE:Hid (fC s c=acc):=by
    unfold Hid;rw[HSP.out,show s.size+1 - i=0 by omega];simp[spl]
   have dl:decide ((i:Int)<=(s.size:Int))=false:=by simp;omega
   go_wp2;go_ret;exact D5.of (by rw[HE.out];exact HRO.out) HBL.out
end Go.Proofs.YtgjgjgihceijnaaGreat
namespace Go.Proofs.YtgjgjgihceijnaaGreat
open Go.RowKit Go.Stn
variable {w w':World} {O O':Nat->Nat} {fb nR pl cn:Nat} {L:List NV} {vN vR:Value} {rc:List Value}
theorem FN.cns (h:FN fb w O L vN vR rc nR pl cn)(p:Nat):FN fb (w.setCell ⟨fb,3,none⟩ (.int .i64 (p:Int))) O L vN vR rc nR pl p/\FK w O (w.setCell ⟨fb,3,none⟩ (.int .i64 (p:Int))) O:=by
 obtain⟨o1,b1⟩:=h.wt;have hB:∀k,k≠fb->(w.setCell ⟨fb,3,none⟩ (.int .i64 (p:Int))).heap[k]? =w.heap[k]? :=fun k hk=>cB w fb 3 _ hk
 have hz:(w.setCell ⟨fb,3,none⟩ (.int .i64 (p:Int))).heap.size=w.heap.size:=by simp[cL]
 have hc:∀i,i≠3->(w.setCell ⟨fb,3,none⟩ (.int .i64 (p:Int))).cell? ⟨fb,i,none⟩=w.cell? ⟨fb,i,none⟩:=fun i hi=>a9 _ _ _ _ (by intro e1;injection e1;omega)
 have hs:=(cF 0 w).setCell (p:=⟨fb,3,none⟩) (cO _) (.int .i64 (p:Int));refine⟨⟨(hc 0 (by omega)).trans h.c0,(hc 1 (by omega)).trans h.c1,(hc 2 (by omega)).trans h.c2,bK _ _ _ h.c3,fun i=>by rw[bO];exact h.fz i,⟨o1,by omega⟩,
  cV h.rn (fun k hk=>hB k (by have:=(h.rn.lt k hk).1;omega)),cV h.rr (fun k hk=>hB k (by have:=(h.rr.lt k hk).1;omega)),h.tn,h.tr,
  fun t ht=>(h.nd t ht).keep (by omega) (fun k hk ho=>⟨hB k (fun e=>by rw[e,o1]at ho;cases ho),rfl⟩),h.cl,fun k hk=>h.fr k (by omega)⟩,
  ⟨hs.os,hs.tape,hs.output,by omega,fun k hk h1 _ _=>hB k (fun e=>h1 (by rw[e];exact o1)),fun _ _=>rfl⟩⟩
def jR (cn:Nat)(n:Int):Nat:=if(cn:Int)<=n then(n+1).toNat else cn
theorem B4 (h:FN fb w O L vN vR rc nR pl cn)(n:Int)(hn: -1<=n/\n<=3):
  Calls Tryz.prog 75 #[.pointer (some ⟨fb,0,none⟩),.int .i64 n] w fun e w'=>e= .returned (.tuple #[])/\FN fb w' O L vN vR rc nR pl (jR cn n)/\FK w O w' O:=by
 have c3:=h.c3;have f3:=h.fz 3;have HF:=aA h;clear h;by_cases hlt:(cn:Int)<=n
 ·have d1:decide ((cn:Int)<=n)=true:=by simp;omega
  have HE:Hid (jR cn n=(n+1).toNat):=by unfold Hid jR;rw[if_pos hlt]
  have HC:=aA (HF.out.cns (n+1).toNat);have hnn:((n+1).toNat:Int)=n+1:=by omega
  rw[hnn]at HC;clear hnn;go_enter Tryz.func75,Tryz.ntmps75;go_wp2;refine bodyPost_end (results_none rfl _ _ _) rfl ?_;exact⟨rfl,by rw[HE.out];exact HC.out.1,HC.out.2⟩
 ·have d1:decide ((cn:Int)<=n)=false:=by simp;omega
  have HE:Hid (jR cn n=cn):=by unfold Hid jR;rw[if_neg hlt]
  go_enter Tryz.func75,Tryz.ntmps75;go_wp2;refine bodyPost_end (results_none rfl _ _ _) rfl ?_;exact⟨rfl,by rw[HE.out];exact HF.out,FK.refl _ _⟩
structure RV where
 f:Nat->Bool
 c:Nat
 n:Nat
 g:Nat
def RV.cells (x:RV):List Value:= [.slice (some ⟨x.g,0,none⟩) 4 4,.int .u8 (x.c:Int),.int .i64 (x.n:Int)]
def rvC (R:List RV):List Value:=R.flatMap RV.cells
theorem Ut (l:List RV)(t:RV):rvC (l++ [t])=rvC l++t.cells:=by unfold rvC;simp
def Bv (w:World)(O:Nat->Nat)(x:RV):Prop:=O x.g=4/\x.g<w.heap.size/\∀i,i<4->w.cell? ⟨x.g,i,none⟩=some (.bool (x.f i))
theorem Bv.keep {x:RV}(h:Bv w O x)(hk:FK w O w' O'):Bv w' O' x:=by
 obtain⟨h1,h2,h3⟩:=h;have e:=hk.block x.g h2 (by omega) (by omega) (by omega);exact⟨(hk.own x.g h2).trans h1,Nat.lt_of_lt_of_le h2 hk.size,fun i hi=>(aT (w:=w) (a:=⟨x.g,i,none⟩) e).trans (h3 i hi)⟩
theorem FN.rule (h:FN fb w O L vN vR rc nR pl cn){w4:World}{o:Obj}{g cap n:Nat}{xs:List Value}{v0:Value}(hn:nR=n)(hv0:vR=v0)
  (hown:w4.ownsRow (fb+1) 82 3 (.slice (some ⟨g,0,none⟩) (n+1) cap) (n+1) (rc++xs))
  (hgr:(w.alloc o).grownBy w4 v0.ownBlock) (hat:v0.ownBlock=some g\/g=w.heap.size+1):
  FN fb (w4.setCell ⟨fb,1,none⟩ (.slice (some ⟨g,0,none⟩) (n+1) cap)) (fun k=>if k=g then 3 else O k) L vN (.slice (some ⟨g,0,none⟩) (n+1) cap) (rc++xs) (n+1) pl cn/\
  FK w O (w4.setCell ⟨fb,1,none⟩ (.slice (some ⟨g,0,none⟩) (n+1) cap)) (fun k=>if k=g then 3 else O k):=by
 subst hn hv0;obtain⟨o1,b1⟩:=h.wt;have hsz:=hgr.size;have ez:(w.alloc o).heap.size=w.heap.size+1:=by simp
 have hg4:=(hown.lt g rfl).2;have hz5:(w4.setCell ⟨fb,1,none⟩ (.slice (some ⟨g,0,none⟩) (nR+1) cap)).heap.size=w4.heap.size:=by simp[cL]
 have hog:g<w.heap.size->O g=3:=fun hg=>by
  rcases hat with e | e
  ·exact h.tr g e
  ·omega
 have keep:∀k,k<w.heap.size->O k≠1->O k≠3->(w4.setCell ⟨fb,1,none⟩ (.slice (some ⟨g,0,none⟩) (nR+1) cap)).heap[k]? =w.heap[k]? /\(if k=g then 3 else O k)=O k:=fun k hk hn1 hn2=>by
  have hkB:k≠fb:=fun e=>hn1 (by rw[e];exact o1)
  have hkg:k≠g:=fun e=>hn2 (by rw[e];exact hog (by omega))
  refine⟨(cB w4 fb 1 _ hkB).trans ((hgr.block k (by omega) (fun e=>hn2 (h.tr k e.symm))).trans (bN w o k hk)),if_neg hkg⟩
 have hB4:w4.heap[fb]? =w.heap[fb]? :=(hgr.block fb (by omega) (fun e=>by have:=h.tr fb e.symm;omega)).trans (bN w o fb b1);have hgB:g≠fb:=by have:=(hown.lt g rfl).1;omega
 have hc:∀i,i≠1->(w4.setCell ⟨fb,1,none⟩ (.slice (some ⟨g,0,none⟩) (nR+1) cap)).cell? ⟨fb,i,none⟩=w.cell? ⟨fb,i,none⟩:=fun i hi=>by
  rw[a9 (h:=by intro e';injection e';omega)];exact aT (w:=w) (a:=⟨fb,i,none⟩) hB4
 refine⟨⟨(hc 0 (by omega)).trans h.c0,bK _ _ _ ((aT (w:=w) (a:=⟨fb,1,none⟩) hB4).trans h.c1),(hc 2 (by omega)).trans h.c2,(hc 3 (by omega)).trans h.c3,fun i=>by rw[bO];exact(World.frozen?_of_block (w:=w) (a:=⟨fb,i,none⟩) hB4).trans (h.fz i),⟨(if_neg (Ne.symm hgB)).trans o1,by omega⟩, ?_, ?_,fun k hk=> ?_,fun k hk=> ?_,fun u hu=> ?_,h.cl,fun k hk=> ?_⟩, ?_⟩
 ·exact cV h.rn (fun k hk=>(keep k (h.rn.lt k hk).2 (by have:=h.tn k hk;omega) (by have:=h.tn k hk;omega)).1)
 ·exact ownsRow_setCell_below hown (show fb<fb+1 by omega) _
 ·have:=h.tn k hk;rw[(keep k (h.rn.lt k hk).2 (by omega) (by omega)).2];exact this
 ·have hk':g=k:=by simpa[Value.ownBlock]using hk
  exact if_pos hk'.symm
 ·exact(h.nd u hu).keep (by omega) (fun k hk ho=>keep k hk (by omega) (by omega))
 ·rw[if_neg (by omega)];exact h.fr k (by omega)
 ·have hs:=(cF 0 w4).setCell (p:=⟨fb,1,none⟩) (cO _) (.slice (some ⟨g,0,none⟩) (nR+1) cap);refine⟨hs.os.trans hgr.os,hs.tape.trans hgr.tape,hs.output.trans hgr.output,by omega,fun k hk h1 _ h2=>(keep k hk h1 h2).1,fun k hk=> ?_⟩;by_cases e:k=g
  ·simp only[e,if_true];exact(hog (by omega)).symm
  ·simp only[if_neg e]
end Go.Proofs.YtgjgjgihceijnaaGreat
