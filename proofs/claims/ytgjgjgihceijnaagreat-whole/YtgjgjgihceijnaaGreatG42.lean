import Derived.Test.YtgjgjgihceijnaaGreatG40
open Nat renaming le_refl->aL,lt_of_lt_of_le->aT,zero_add->cO
open List renaming getElem?_eq_getElem->aO,getElem?_eq_some_iff->aR,take_add_one->bC,take_length->bK,mem_of_getElem?->bM,mem_singleton->bN,length_cons->bO,not_mem_nil->bS,mem_of_mem_take->bT,length_append->cN,length_take->cP,length_nil->eL
open Go.World renaming cell?_of_block->cF,cell?_alloc_at->cL
open Go.Value renaming slice->cT,oneCell'->eO
open Go.RowKit.Below renaming refl->eN
set_option maxRecDepth 100000
set_option maxHeartbeats 8000000
namespace Go.Proofs.YtgjgjgihceijnaaGreat
open Go.RowKit Go.Stn
theorem Tryz.infoLeft:(Tryz.prog.info? 188).map (fun i=>(i.zero,i.size,i.bytes))=some (some (.agg #[.int .i64 0,.slice none 0 0]),2,32):=by kernel_rfl
theorem eC.bndU {N:List RN}{tops ks:List Nat}(h:eC N tops ks){p:LfT}(hp:UB N tops p):∀m,m∈p.2->∀k,Und N m k->∀c,(bD N c k).length<=10:=fun m hm k hk c=>by
 obtain⟨n,h1,h2⟩:=hp;obtain⟨j,_,hn,ht,hj⟩:=h.top h1;have hu:Und N n m:=by
  rcases h2 with e | e
  ·rw[e]at hm;rw[bN.1 hm];exact .refl
  ·exact Se h.cl n hn p.2 e m hm
 have:=ht.2 k (hu.trans hk) c;omega
theorem Cs {B:Nat->List (List Nat)}{N:List RN}:∀(l:List Nat),(∀m,m∈l->(B m).length<=10)->(hO B N l).length<=10*l.length
 | [],_=>by simp[hO]
 | m::l,h=>by
  unfold hO;rw[cN,List.length_map,bO];have:=h m List.mem_cons_self;have:=Cs (N:=N) l (fun x hx=>h x (List.mem_cons_of_mem _ hx));split
  ·omega
  ·simp only[eL];omega
theorem Kw {fb gN cap:Nat}{L:List NV}{tops ks:List Nat}(hf:eC (nvN L) tops ks)(c:Nat)(hc:c<256){p:LfT}(hp:UB (nvN L) tops p){w:World}(h:FR fb w L gN cap){v:Value}(hv:IL w v p.2):
  Calls Tryz.prog 83 #[.pointer (some ⟨fb,0,none⟩),v,.int .i64 (c:Int)] w fun e w'=>∃v',e= .returned v'/\Below w.heap.size w w'/\LLr w' w.heap.size v' (rP (nvN L) c p.2):=by
 have hL:L.length<=3000:=by rw[←dQ];exact hf.n3
 obtain⟨h1,h2,_⟩:=hf.bnd hp;have hml:∀m,m∈p.2->m<L.length:=fun m hm=>by rw[←dQ];exact(h1 m hm).1
 refine Eh hf.sh hf.cl (by omega) c (fun m hm=>Ax hf.sh hf.cl hL c hc m (hml m hm) (fun k hk=>hf.bndU hp m hm k hk c)) (fun m hm=>⟨hml m hm,(h1 m hm).2 c,fun y hy=> ?_⟩) (by omega) h hv;have:=(Ij hf.cl hf.sh m (h1 m hm).1 y (E9 hf.cl m (h1 m hm).1 y hy)).2;have:=hf.n3;have:=(h1 m hm).1;omega
theorem eC.row_bnd {N:List RN}{tops ks:List Nat}(h:eC N tops ks){p:LfT}(hp:UB N tops p)(c:Nat):(rP N c p.2).length<=7000000/\∀y,y∈rP N c p.2->UL N tops (p.1,y)/\y.length<=1000000:=by
 obtain⟨h1,h2,_⟩:=h.bnd hp;refine⟨?_,fun y hy=> ?_⟩
 ·have:=Cs (B:=bD N c) (N:=N) p.2 (fun m hm=>(h1 m hm).2 c);show(hO (bD N c) N p.2).length<=_;omega
 ·have hu:=h.step_in hp hy;have:y.length<=700000:=(h.bnd hu.ub).2.1;exact⟨hu,by omega⟩
theorem eC.mid {N:List RN}{tops ks:List Nat}(h:eC N tops ks){ls:List LfT}(hl:∀p,p∈ls->UB N tops p){c i k:Nat}{p:LfT}(hp:UB N tops p):(rN p.1 (pP N c [] (ls.take i)) ((rP N c p.2).take k)).length<=10/\∀x,x∈rN p.1 (pP N c [] (ls.take i)) ((rP N c p.2).take k)->x.2.length<=1000000:=by
 have hu:∀x,x∈rN p.1 (pP N c [] (ls.take i)) ((rP N c p.2).take k)->UL N tops x:=fun x hx=>by
  rcases K4.1 hx with e | ⟨m,hm,e⟩
  ·rcases zG.1 e with e | ⟨q,hq,e1,e2⟩
   ·exact absurd e bS
   ·have:=h.step_in (hl q (bT hq)) e2;rw[e1]at this;exact this
  ·rw[e];exact((h.row_bnd hp c).2 m (bT hm)).1
 exact⟨h.few (Ag (I3 List.nodup_nil)) hu,fun x hx=>by have:=(h.bnd (hu x hx).ub).2.1;omega⟩
theorem GR.up {α:Type}{E:World->(Nat->Prop)->List Value->α->Prop}{T:TypeId}{z:Nat}{w w1 wr:World}{v1 v:Value}{xs:List α}{cs:List (List Value)}(h:GR E T z w w1 v1 wr v xs cs):GR E T z w w (.slice none 0 0) wr v xs cs:=
 ⟨h.ro,⟨h.bl.os,h.bl.tape,h.bl.output,h.bl.size,fun k hk _=>h.bl.block k hk⟩,fun g e=> .inr (h.ro.1.lt g e).1,h.bl⟩
theorem GR.lf {w w1 wr:World}{v1 v:Value}{ls:List LfT}{cs:List (List Value)}(h:GR pH 188 2 w w1 v1 wr v ls cs):LFp wr (fun g=>w.heap.size<=g) v ls:=h.ro.lf (fun _ hp _=>hp.1) (fun _ hb _=>hb)
theorem Tm {out:List LfT}{x:LfT}(h:gS out x=true):H7 out x=out:=if_pos h
theorem Rf {out:List LfT}{x:LfT}(h:gS out x=false):H7 out x=out++ [x]:=if_neg (by rw[h];decide)
theorem Kq {r:Nat}{out:List LfT}{ys:List (List Nat)}{k:Nat}{y:List Nat}(h:ys[k]? =some y):rN r out (ys.take (k+1))=H7 (rN r out (ys.take k)) (r,y):=by
 rw[bC,h];exact Nc r out (ys.take k) y
theorem Ic {N:List RN}{c:Nat}{ls:List LfT}{i:Nat}{p:LfT}(h:ls[i]? =some p):pP N c [] (ls.take (i+1))=rN p.1 (pP N c [] (ls.take i)) (rP N c p.2):=by
 rw[bC,h];exact Hc N c [] (ls.take i) p
theorem P9 {fb gN cap:Nat}{L:List NV}{tops ks:List Nat}(hf:eC (nvN L) tops ks)(c:Nat)(hc:c<256){w:World}(h:FR fb w L gN cap){P:Nat->Prop}{v:Value}{ls:List LfT}(hv:LFp w P v ls)(hl:ls.length<=1000000)(hu:∀p,p∈ls->UB (nvN L) tops p):
  Calls Tryz.prog 56 #[.pointer (some ⟨fb,0,none⟩),v,.int .i64 (c:Int)] w fun e w'=>∃v',e= .returned v'/\Below w.heap.size w w'/\LFp w' (fun g=>w.heap.size<=g) v' (dE (nvN L) c ls):=by
 obtain⟨a,ca,rfl,hv⟩:=hv;obtain⟨n,en⟩:∃n,ls.length=n:=⟨_,rfl⟩
 rw[en]at hl ⊢;have HLN:=aA en;have HV:=aA hv;have HF:=aA h;have HU:=aA hu;have HRW:=aA (fun(p:LfT) hp (W:World) hW (u:Value) (hu:IL W u p.2)=>Kw (fb:=fb) (gN:=gN) (cap:=cap) hf c hc (p:=p) hp (w:=W) hW (v:=u) hu);have HMID:=aA (fun(i k:Nat) (p:LfT) hp=>hf.mid (c:=c) hu (i:=i) (k:=k) (p:=p) hp);have HRB:=aA (fun(p:LfT) hp=>hf.row_bnd (p:=p) hp c);clear en hv hu h hf;go_enter Tryz.func56,Tryz.ntmps56;go_wp2_with fail
 go_loopw [7,8] (fun y z wr=>∃(i:Nat) (cs:List (List Value)),i<=n/\z= .int .i64 (i:Int)/\GR pH 188 2 w w (.slice none 0 0) wr y (pP (nvN L) c [] (ls.take i)) cs) (fun _ z _=>n - (intOf z).toNat)
 case atStart=>exact⟨0,[],by omega,rfl,GR.start _ _ _ w⟩
 case round=>
  obtain⟨i,cs,hi,rfl,hgr⟩:=hrel;have HG:=aA hgr;have hzw:=hgr.bl.size;by_cases hlt:i<n
  ·obtain⟨p,hp⟩:∃p,ls[i]? =some p:=⟨ls[i]'(by rw[HLN.out];exact hlt),aO _⟩
   obtain⟨g,rfl,_,hg,hcl⟩:=HV.out.resolve_left (fun e=>by rw[e]at hp;simp at hp);obtain⟨q,hq,hiq⟩:=hcl i p hp;have hp0:w.cell? ⟨g,i*2,none⟩=some (.int .i64 (p.1:Int)):=by have:=hq 0 _ rfl;exact this
   have y2:wr.cell? ⟨g,i*2+1,none⟩=some q:=(hgr.bl.cell (p:=⟨g,i*2+1,none⟩) hg).trans (by have:=hq 1 _ rfl;exact this);have HIQ:Hid (IL wr q p.2):=hiq.il.below (B:=w.heap.size) ⟨hgr.bl.os,hgr.bl.tape,hgr.bl.output,hgr.bl.size,hgr.bl.block⟩ (aL _);obtain⟨qa,qc,rfl,_,_⟩:=hiq;have hpU:=HU.out p (bM hp);have HPU:=aA hpU;obtain⟨hrl,hry⟩:=HRB.out p hpU;have HRY:=aA hry;have hiI:(0:Int)<=(i:Int)/\(i:Int)<(n:Int):=by omega
   have HST:=aA (Ic (N:=nvN L) (c:=c) hp);clear hq hcl hp hpU hry hgr;go_upto_region 6 with fail;refine(HRW.out p HPU.out _ (HF.out.below (B:=w.heap.size) ⟨HG.out.bl.os,HG.out.bl.tape,HG.out.bl.output,HG.out.bl.size,HG.out.bl.block⟩ (aL _)) _ (HIQ.out.below ⟨rfl,rfl,rfl,aL _,fun _ _=>rfl⟩ (aL _))).mono ?_;rintro e w1 ⟨vm,rfl,hbl1,hll1⟩;have hbl1':Below wr.heap.size wr w1:=⟨hbl1.os,hbl1.tape,hbl1.output,hbl1.size,hbl1.block⟩
   have HR1:=aA (HG.out.below pH.keeps hbl1');obtain⟨am,cm,rfl,hvm⟩:=hll1;have HVM:=aA hvm;have hzw1:=hbl1'.size;have hoB:Hid (∀k,wr.heap.size<=k->u7.ownBlock≠some k):=fun k hk e=>by
    have:=(HG.out.ro.1.lt k e).2;omega
   have HMI:=aA (fun k=>HMID.out i k p HPU.out);clear hvm hbl1 hbl1' HG y2 HIQ HRW HMID HRB;have hsW:w.heap.size<=wr.heap.size:=hzw;generalize wr.heap.size=sW at*;generalize rP (nvN L) c p.2=ys at*;generalize pP (nvN L) c [] (ls.take i)=out0 at*;obtain⟨M,eM⟩:∃M,ys.length=M:=⟨_,rfl⟩
   rw[eM]at hrl ⊢;have HLM:=aA eM;clear eM;go_wp2_with fail
   go_loopw [7,10] (fun y2 z2 wr2=>∃(k:Nat) (cs:List (List Value)),k<=M/\z2= .int .i64 (k:Int)/\GR pH 188 2 w w1 u7 wr2 y2 (rN p.1 out0 (ys.take k)) cs) (fun _ z2 _=>M - (intOf z2).toNat)
   case atStart=>exact⟨0,cs,by omega,rfl,HR1.out.from⟩
   case round=>
    obtain⟨k,cs2,hk,rfl,hri2⟩:=hrel;have HR2:=aA hri2;clear hri2;by_cases hkl:k<M
    ·obtain⟨y,hy⟩:∃y,ys[k]? =some y:=⟨ys[k]'(by rw[HLM.out];exact hkl),aO _⟩
     obtain⟨gm,rfl,hgm1,hgm2,hcm⟩:=HVM.out.resolve_left (fun e=>by rw[e]at hy;simp at hy);obtain⟨u,hu,hiu⟩:=hcm k y hy;have hst:∀j,sW<=j->j<w1.heap.size->wr.heap[j]? =w1.heap[j]? :=fun j h1 h2=>HR2.out.gr.block j h2 (fun e=>hoB.out j h1 e.symm)
     have y1:wr.cell? ⟨gm,k,none⟩=some u:=(cF (w:=w1) (a:=⟨gm,k,none⟩) (hst gm hgm1 hgm2)).trans hu;have y0:wr.cell? ⟨g,i*2,none⟩=some (.int .i64 (p.1:Int)):=(HR2.out.bl.cell (p:=⟨g,i*2,none⟩) hg).trans hp0;have hno:∀g,u7.ownBlock=some g->¬(sW<=g/\g<w1.heap.size):=fun g e h2=>by
      rcases HR2.out.ow g e with e1 | e1
      ·exact hoB.out g h2.1 e1
      ·omega
     have HIU:Hid (ILp wr (fun g=>w.heap.size<=g/\u7.ownBlock≠some g) u y):=by
      obtain⟨a,q,e,h1,h2⟩:=hiu;refine⟨a,q,e,h1, ?_⟩;rcases h2 with h2 | ⟨g2,o2,k1,k2,k3,_,k4⟩
      ·exact .inl h2
      ·exact .inr ⟨g2,o2,k1,⟨by omega,fun e=>hno g2 e ⟨k2,k3⟩⟩,aT k3 HR2.out.gr.size,fun i m hm=>(cF (w:=w1) (a:=⟨g2,o2+i,none⟩) (hst g2 k2 k3)).trans (k4 i m hm)⟩
     obtain⟨ua,uc,rfl,_,_⟩:=hiu;have HYL:=aA (HRY.out y (bM hy)).2;have HADD:=aA (Kq (r:=p.1) (out:=out0) hy);have hkI:(0:Int)<=(k:Int)/\(k:Int)<(M:Int):=by omega
     have HMK:=aA (HMI.out k);have hgmr:gm<wr.heap.size:=aT hgm2 HR2.out.gr.size;have hgrr:g<wr.heap.size:=aT hg HR2.out.bl.size;clear hst hu hy hcm hno;go_upto_region 9 with fail
     go_cut [11] from 27 to 51 (fun x wx=>x= .pointer (some ⟨wr.heap.size,0,none⟩)/\Below wr.heap.size wr wx/\wr.heap.size<wx.heap.size/\wx.cell? ⟨wr.heap.size,0,none⟩=some (.int .i64 (p.1:Int))/\wx.cell? ⟨wr.heap.size,1,none⟩=some (.slice ua y.length uc))
     case first=>
      go_region
      all_goals
       go_wp2_with fail;go_meet
       case rel=>
        have hb:Below wr.heap.size wr (wr.alloc (.cells #[.int .i64 (p.1:Int),.slice ua y.length uc] 188)):=(eN _ _).alloc (aL _) _;exact⟨rfl,⟨hb.os,hb.tape,hb.output,hb.size,hb.block⟩,by show wr.heap.size<(wr.alloc _).heap.size;simp,(cL _ _ _ 0 rfl).trans rfl,(cL _ _ _ 1 rfl).trans rfl⟩
     case rest=>
      obtain⟨rfl,hb3,hz3,c0,c1⟩:=hcut;have HR3:=aA (HR2.out.below pH.keeps hb3);have HIU3:Hid (ILp wc (fun g=>w.heap.size<=g/\u7.ownBlock≠some g) (.slice ua y.length uc) y):=HIU.out.keep hb3.size (fun j hp hj=>⟨hb3.block j hj,hp⟩);obtain⟨ao,co,eo⟩:=aK HR3.out.ro.1;subst eo;obtain⟨hk10,hkb⟩:=HMK.out;have HKB:=aA hkb;clear HR2 hb3 HIU y0 y1 hkb HMK;generalize rN p.1 out0 (ys.take k)=xk at*;obtain⟨nk,ek⟩:∃nk,xk.length=nk:=⟨_,rfl⟩
      rw[ek]at hk10 HIU3 HR3 ⊢;have HEK:=aA ek;clear ek;generalize wr.heap.size=sR at*;go_wp2_with fail;refine(G9 (r:=p.1) (HR3.out.lf.below (w':=wc) ⟨rfl,rfl,rfl,aL _,fun _ _=>rfl⟩) (HIU3.out.il.below (w':=wc) ⟨rfl,rfl,rfl,aL _,fun _ _=>rfl⟩ (aL _)) (by rw[HEK.out];omega) HKB.out HYL.out).mono ?_;rintro e w5 ⟨rfl,hb5⟩;have hb5':Below wc.heap.size wc w5:=⟨hb5.os,hb5.tape,hb5.output,hb5.size,hb5.block⟩
      have HR5:=aA (HR3.out.below pH.keeps hb5');have HIU5:=aA (HIU3.out.keep (P':=fun g=>w.heap.size<=g/\(cT ao nk co).ownBlock≠some g) hb5'.size (fun j hp hj=>⟨hb5'.block j hj,hp⟩));have z0:=(hb5'.cell (p:=⟨sR,0,none⟩) hz3).trans c0;have z1:=(hb5'.cell (p:=⟨sR,1,none⟩) hz3).trans c1;have hz5:=hb5'.size;clear HR3 HIU3 c0 c1 hb5 hb5'
      cases hh:gS xk (p.1,y)with
      | true=>
       have HX2:Hid (rN p.1 out0 (ys.take (k+1))=xk):=by unfold Hid;rw[HADD.out,Tm hh]
       clear hh z0 z1;go_wp2;go_roundw
       case rel=>exact⟨k+1,cs2,by omega,by go_num,by rw[HX2.out];exact HR5.out⟩
       case measure=>simp[intOf];omega
      | false=>
       have HX2:Hid (rN p.1 out0 (ys.take (k+1))=xk++ [(p.1,y)]):=by unfold Hid;rw[HADD.out,Rf hh]
       have HEL:Hid (pH w5 (fun g=>w.heap.size<=g/\(cT ao nk co).ownBlock≠some g) [.int .i64 (p.1:Int),.slice ua y.length uc] (p.1,y)):=⟨_,rfl,HIU5.out⟩
       have HRO:=aA HR5.out.ro.1;rw[HEK.out]at HRO;have hzb:=HR5.out.bl.size;clear hh HADD;go_wp2_with (first | (at_builtin;refine aF w5 rfl (.tmp 48) (.tmp 50) 145 rfl w.heap.size 188 (.agg #[.int .i64 0,.slice none 0 0]) 2 32 Tryz.underlying145 Tryz.infoLeft rfl (by decide) (by decide) (.slice ao nk co) nk cs2.flatten [.int .i64 (p.1:Int),.slice ua y.length uc] _ rfl HRO.out _ rfl rfl rfl (by simp[eO]) (by omega) (by omega) ?_;intro g4 cap4 w4 hown4 hgrow4 hat4 hlt4;have HR4:=aA (HR5.out.app pH.keeps HEK.out HEL.out rfl hown4 hgrow4 hat4);clear hown4 hgrow4 hat4 hlt4));go_roundw
       case rel=>exact⟨k+1,_,by omega,by go_num,by rw[HX2.out];exact HR4.out⟩
       case measure=>simp[intOf];omega
    ·have hkM:k=M:=by omega
     have dl:decide ((k:Int)<(M:Int))=false:=by simp;omega
     have hr3:=HR2.out;rw[hkM,←HLM.out,bK,←HST.out]at hr3;have HR3:=aA hr3.up;clear hr3 hkM HR2;go_wp2;go_roundw
     case rel=>exact⟨i+1,cs2,by omega,by go_num,HR3.out⟩
     case measure=>simp[intOf];omega
  ·have hin:i=n:=by omega
   have hre:=HG.out;rw[hin,←HLN.out,bK]at hre;have HRE:=aA hre;have dl:decide ((i:Int)<(n:Int))=false:=by simp;omega
   clear hin hre HG hgr;go_wp2;go_ret;exact⟨_,rfl,HRE.out.bl,HRE.out.lf⟩
end Go.Proofs.YtgjgjgihceijnaaGreat
namespace Go.Proofs.YtgjgjgihceijnaaGreat
open Go.RowKit Go.Stn
structure FRu (fb:Nat)(w:World)(R:List RV)(gR cR:Nat):Prop where
 c1:w.cell? ⟨fb,1,none⟩=some (.slice (some ⟨gR,0,none⟩) R.length cR)
 rl:∀(j:Nat) (x:RV),R[j]? =some x->w.rangeAt gR (j*3) x.cells/\x.g<w.heap.size/\∀i,i<4->w.cell? ⟨x.g,i,none⟩=some (.bool (x.f i))
 b0:fb<w.heap.size
 b1:gR<w.heap.size
theorem FRu.below {fb gR cR B:Nat}{w w':World}{R:List RV}(h:FRu fb w R gR cR)(hB:Below B w w')(hb:w.heap.size<=B):FRu fb w' R gR cR:=by
 have hz:=hB.size;have h0:=h.b0;have h1:=h.b1;exact⟨(hB.cell (p:=⟨fb,1,none⟩) (by show fb<B;omega)).trans h.c1,fun j x hx=>by
  obtain⟨a,b,c⟩:=h.rl j x hx;exact⟨fun i v hv=>(hB.cell (p:=⟨gR,j*3+i,none⟩) (by show gR<B;omega)).trans (a i v hv),by omega,fun i hi=>(hB.cell (p:=⟨x.g,i,none⟩) (by show x.g<B;omega)).trans (c i hi)⟩,by omega,by omega⟩
theorem Je:∀(R:List RV) (j:Nat) (x:RV) (i:Nat) (v:Value),R[j]? =some x->x.cells[i]? =some v->(rvC R)[j*3+i]? =some v
 | [],j,x,i,v,h,_=>by simp at h
 | y::R,0,x,i,v,h,hv=>by
  have e:y=x:=by simpa using h
  subst e;have hi:i<y.cells.length:=(aR.1 hv).1;show(y.cells++rvC R)[0*3+i]? =some v;rw[Nat.zero_mul,cO,List.getElem?_append_left hi];exact hv
 | y::R,j+1,x,i,v,h,hv=>by
  have:=Je R j x i v (by simpa using h) hv;show(y.cells++rvC R)[(j+1)*3+i]? =some v;have hl:y.cells.length=3:=rfl;rw[List.getElem?_append_right (by omega),hl,show(j+1)*3+i - 3=j*3+i by omega];exact this
theorem FN.rules {fb:Nat}{w:World}{O:Nat->Nat}{L:List NV}{vN vR:Value}{R:List RV}{pl cn:Nat}{N:List RN}{ls:List fM}(h:FN fb w O L vN vR (rvC R) R.length pl cn)(hr:RuM w O N R ls)(hL:0<R.length):∃gR cR,FRu fb w R gR cR:=by
 have hro:=h.rr;rcases bZ hro with e | ⟨g,cap,e⟩
 ·exfalso;obtain⟨a,c,e2⟩:=aK hro;rw[e]at e2;injection e2 with _ e3 _;omega
 ·refine⟨g,cap,by rw[←e];exact h.c1,fun j x hx=> ?_,h.wt.2,(hro.lt g (by rw[e];rfl)).2⟩;have hj:j<ls.length:=by rw[←hr.1];exact(aR.1 hx).1
  obtain⟨⟨_,k1,k2⟩,_⟩:=hr.2 j x _ hx (aO hj);refine⟨fun i v hv=> ?_,k1,k2⟩;have:=hro.cells (g:=g) (by rw[e];rfl) (j*3+i) v (Je R j x i v hx hv);rw[iL,cO]at this;exact this
def gG (cond:Nat):Nat->List RV->List LfT
 | _,[]=>[]
 | r,x::R=>(if x.f cond=true then [(r,[x.n])]else [])++gG cond (r+1) R
theorem T9 (cond:Nat)(x:RV):∀(R:List RV) (r:Nat),gG cond r (R++ [x])=gG cond r R++(if x.f cond=true then [(r+R.length,[x.n])]else [])
 | [],r=>by simp[gG]
 | y::R,r=>by
  show(if y.f cond=true then [(r,[y.n])]else [])++gG cond (r+1) (R++ [x])=((if y.f cond=true then [(r,[y.n])]else [])++gG cond (r+1) R)++_;rw[T9 cond x R (r+1),List.append_assoc,bO,show r+1+R.length=r+(R.length+1) by omega]
theorem Lj {cond:Nat}{R:List RV}{i:Nat}{x:RV}(h:R[i]? =some x):gG cond 0 (R.take (i+1))=gG cond 0 (R.take i)++(if x.f cond=true then [(i,[x.n])]else []):=by
 have hl:=(aR.1 h).1;rw[bC,h];have:=T9 cond x (R.take i) 0;rw[cP,Nat.min_eq_left (by omega),cO]at this;exact this
theorem xT (cond:Nat):∀(R:List RV) (r:Nat),(gG cond r R).length<=R.length
 | [],r=>by simp[gG]
 | x::R,r=>by
  have:=xT cond R (r+1);unfold gG;rw[cN,bO];split
  ·rw[List.length_singleton];omega
  ·simp only[eL];omega
theorem xX {cond:Nat}{p:LfT}:∀{R:List RV} {r:Nat},p∈gG cond r R↔∃(j:Nat) (x:RV),R[j]? =some x/\x.f cond=true/\p=(r+j,[x.n])
 | [],r=>by
  constructor
  ·intro h;exact absurd h bS
  ·rintro⟨j,x,h,_⟩;simp at h
 | y::R,r=>by
  unfold gG;rw[List.mem_append,xX];constructor
  ·rintro(h | ⟨j,x,h1,h2,h3⟩)
   ·split at h
    ·rename_i hf;exact⟨0,y,rfl,hf,by rw[bN.1 h];rfl⟩
    ·exact absurd h bS
   ·exact⟨j+1,x,by simpa using h1,h2,by rw[h3,show r+1+j=r+(j+1) by omega]⟩
  ·rintro⟨j,x,h1,h2,h3⟩
   cases j with
   | zero=>
    have e:y=x:=by simpa using h1
    subst e;left;rw[if_pos h2,h3];exact bN.2 rfl
   | succ j=>exact .inr ⟨j,x,by simpa using h1,h2,by rw[h3,show r+1+j=r+(j+1) by omega]⟩
theorem J2 {fb gR cR cond:Nat}{R:List RV}(hc:cond<4)(hR:R.length<=1000){w:World}(h:FRu fb w R gR cR):
  Calls Tryz.prog 55 #[.pointer (some ⟨fb,0,none⟩),.int .i64 (cond:Int)] w fun e w'=>∃v',e= .returned v'/\Below w.heap.size w w'/\LFp w' (fun g=>w.heap.size<=g) v' (gG cond 0 R):=by
 obtain⟨n,en⟩:∃n,R.length=n:=⟨_,rfl⟩
 have k1:=h.c1;rw[en]at hR k1;have HLN:=aA en;have HF:=aA h;have hb0:=h.b0;have hcI:(0:Int)<=(cond:Int)/\(cond:Int)<(4:Int):=by omega
 clear en h;go_enter Tryz.func55,Tryz.ntmps55;go_wp2_with fail
 go_loopw [5,6] (fun y z wr=>∃(i:Nat) (cs:List (List Value)),i<=n/\z= .int .i64 (i:Int)/\GR pH 188 2 w w (.slice none 0 0) wr y (gG cond 0 (R.take i)) cs) (fun _ z _=>n - (intOf z).toNat)
 case atStart=>exact⟨0,[],by omega,rfl,GR.start _ _ _ w⟩
 case round=>
  obtain⟨i,cs,hi,rfl,hgr⟩:=hrel;have HG:=aA hgr;have hzw:=hgr.bl.size;have c1:wr.cell? ⟨fb,1,none⟩=some (.slice (some ⟨gR,0,none⟩) n cR):=(hgr.bl.cell (p:=⟨fb,1,none⟩) hb0).trans k1;have HFR:=aA (HF.out.below hgr.bl (aL _));by_cases hlt:i<n
  ·obtain⟨x,hx⟩:∃x,R[i]? =some x:=⟨R[i]'(by rw[HLN.out];exact hlt),aO _⟩
   obtain⟨hq,hxg,hxb⟩:=HFR.out.rl i x hx;have y0:wr.cell? ⟨gR,i*3,none⟩=some (.slice (some ⟨x.g,0,none⟩) 4 4):=by have:=hq 0 _ rfl;exact this
   have y2:wr.cell? ⟨gR,i*3+2,none⟩=some (.int .i64 (x.n:Int)):=by have:=hq 2 _ rfl;exact this
   have y4:=hxb cond hc;have hiI:(0:Int)<=(i:Int)/\(i:Int)<(n:Int):=by omega
   have HST:=aA (Lj (cond:=cond) hx);have HLL:=aA (xT cond (R.take i) 0);clear hq hxb hx hgr
   cases hf:x.f cond with
   | false=>
    rw[hf]at y4 HST;have HS2:Hid (gG cond 0 (R.take (i+1))=gG cond 0 (R.take i)):=by unfold Hid;rw[HST.out,if_neg (by decide),List.append_nil]
    clear hf HST;go_wp2;go_roundw
    case rel=>exact⟨i+1,cs,by omega,by go_num,by rw[HS2.out];exact HG.out⟩
    case measure=>simp[intOf];omega
   | true=>
    rw[hf]at y4 HST;have HS2:Hid (gG cond 0 (R.take (i+1))=gG cond 0 (R.take i)++ [(i,[x.n])]):=by unfold Hid;rw[HST.out,if_pos rfl]
    have hl1:(gG cond 0 (R.take i)).length<=1000:=by have:=HLL.out;rw[cP]at this;omega
    clear hf HST HLL;obtain⟨ao,co,eo⟩:=aK HG.out.ro.1;subst eo;have hbA:Below wr.heap.size wr (wr.alloc (.cells #[.int .i64 (x.n:Int)] 3)):=(eN _ _).alloc (aL _) _;have hzA:(wr.alloc (.cells #[.int .i64 (x.n:Int)] 3)).heap.size=wr.heap.size+1:=by simp
    generalize gG cond 0 (R.take i)=xk at*;obtain⟨nk,ek⟩:∃nk,xk.length=nk:=⟨_,rfl⟩
    rw[ek]at hl1 HG ⊢;have HEK:=aA ek;clear ek;have HR5:=aA (HG.out.below pH.keeps hbA);have HRO:=aA HR5.out.ro.1;rw[HEK.out]at HRO;have HEL:Hid (pH (wr.alloc (.cells #[.int .i64 (x.n:Int)] 3)) (fun g=>w.heap.size<=g/\(cT ao nk co).ownBlock≠some g) [.int .i64 (i:Int),.slice (some ⟨wr.heap.size,0,none⟩) 1 1] (i,[x.n])):=⟨_,rfl,_,_,rfl,by simp,.inr ⟨wr.heap.size,0,rfl,⟨hzw,fun e=>by have:=(HG.out.ro.1.lt _ e).2;omega⟩,by omega,fun j m hm=>by
     cases j with
     | zero=>
      have e:x.n=m:=by simpa using hm
      subst e;rw[World.cell?_alloc_new]
      rfl
     | succ j=>simp at hm⟩⟩
    have HZ:=aA hzA;clear hbA hzA HG;go_wp2_with (first | (at_builtin;refine aF (wr.alloc (.cells #[.int .i64 (x.n:Int)] 3)) rfl (.tmp 27) (.tmp 39) 145 rfl w.heap.size 188 (.agg #[.int .i64 0,.slice none 0 0]) 2 32 Tryz.underlying145 Tryz.infoLeft rfl (by decide) (by decide) (.slice ao nk co) nk cs.flatten [.int .i64 (i:Int),.slice (some ⟨wr.heap.size,0,none⟩) 1 1] _ rfl HRO.out (wr.heap.size+1) HZ.out rfl rfl (by simp[eO]) (by omega) (by have:=HZ.out;omega) ?_;intro g4 cap4 w4 hown4 hgrow4 hat4 hlt4;have HR4:=aA (HR5.out.app pH.keeps HEK.out HEL.out rfl hown4 hgrow4 hat4).up;clear hown4 hgrow4 hat4 hlt4));go_roundw
    case rel=>exact⟨i+1,_,by omega,by go_num,by rw[HS2.out];exact HR4.out⟩
    case measure=>simp[intOf];omega
  ·have hin:i=n:=by omega
   have hre:=HG.out;rw[hin,←HLN.out,bK]at hre;have HRE:=aA hre;have dl:decide ((i:Int)<(n:Int))=false:=by simp;omega
   clear hin hre HG hgr;go_wp2;go_ret;exact⟨_,rfl,HRE.out.bl,HRE.out.lf⟩
end Go.Proofs.YtgjgjgihceijnaaGreat
namespace Go.Proofs.YtgjgjgihceijnaaGreat
open Go.RowKit Go.Stn
theorem Fk {N:List RN}{l:List LfT}{i:Nat}{p:LfT}(h:l[i]? =some p):eJ N (l.take (i+1))=M7 N (eJ N (l.take i)) p:=by
 rw[bC,h];exact R9 N (l.take i) p
theorem Lw {N:List RN}{l:List LfT}{R:Nat}(h:∀x,x∈l->x.1<R): -1<=eJ N l/\eJ N l<R:=by
 rcases En N l with⟨h1,_⟩ | ⟨r,h1,⟨p,h2,h3,_⟩,_⟩
 ·omega
 ·have:=h p h2;omega
theorem C3 {fb gN cap:Nat}{L:List NV}(hs:kP (nvN L))(hc:aN (nvN L))(hL:L.length<=100000){w:World}{P:Nat->Prop}{v:Value}{ls:List LfT}(h:FR fb w L gN cap)(hv:LFp w P v ls)(hl:ls.length<=1000000)(hb:∀x,x∈ls->x.1<1000/\x.2.length<=1000000/\∀m,m∈x.2->m<L.length):
  Calls Tryz.prog 57 #[.pointer (some ⟨fb,0,none⟩),v] w fun e w'=>e= .returned (.int .i64 (eJ (nvN L) ls))/\Below w.heap.size w w':=by
 obtain⟨a,ca,rfl,hv⟩:=hv;obtain⟨n,en⟩:∃n,ls.length=n:=⟨_,rfl⟩
 rw[en]at hl ⊢;have HLN:=aA en;have HV:=aA hv;have HBD:=aA hb;have HF:=aA h;have HDN:=aA (fun(W:World) hW (u:Value) (ns:List Nat) (hu:IL W u ns) hn hln=>Kg (fb:=fb) (gN:=gN) (cap:=cap) hs hc hL (w:=W) hW (v:=u) (ns:=ns) hu hn hln);clear en hv hb h hs hc hL;go_enter Tryz.func57,Tryz.ntmps57;go_wp2_with fail
 go_loopw [5,6] (fun y z wr=>∃(i:Nat) (b:Int),i<=n/\z= .int .i64 (i:Int)/\y= .int .i64 b/\ -1<=b/\b<1000/\Hid (b=eJ (nvN L) (ls.take i))/\Below w.heap.size w wr) (fun _ z _=>n - (intOf z).toNat)
 case atStart=>exact⟨0, -1,by omega,rfl,rfl,by omega,by omega,aA rfl,eN _ _⟩
 case round=>
  obtain⟨i,b,hi,rfl,rfl,hb1,hb2,HA,hbl⟩:=hrel;have HB:=aA hbl;have hzr:=hbl.size;by_cases hlt:i<n
  ·obtain⟨y,hy⟩:∃y,ls[i]? =some y:=⟨ls[i]'(by rw[HLN.out];exact hlt),aO _⟩
   obtain⟨g,rfl,_,hg,hc⟩:=HV.out.resolve_left (fun e=>by rw[e]at hy;simp at hy);obtain⟨q,hq,hiq⟩:=hc i y hy;have hy1:w.cell? ⟨g,i*2,none⟩=some (.int .i64 (y.1:Int)):=by have:=hq 0 _ rfl;exact this
   have y2:wr.cell? ⟨g,i*2+1,none⟩=some q:=(hbl.cell (p:=⟨g,i*2+1,none⟩) hg).trans (by have:=hq 1 _ rfl;exact this);have HIQ:Hid (IL wr q y.2):=hiq.il.below hbl (aL _);obtain⟨qa,qc,rfl,_,_⟩:=hiq;obtain⟨hy1k,hyl,hym⟩:=HBD.out y (bM hy);have HYL:=aA hyl;have HYM:=aA hym;have hiI:(0:Int)<=(i:Int)/\(i:Int)<(n:Int):=by omega
   have HA2:Hid (eJ (nvN L) (ls.take (i+1))=M7 (nvN L) b y):=by unfold Hid;rw[Fk hy,HA.out]
   clear hq hc hy hyl hym hbl;go_upto_region 6 with fail;refine(HDN.out _ (HF.out.below (B:=w.heap.size) ⟨HB.out.os,HB.out.tape,HB.out.output,HB.out.size,HB.out.block⟩ (aL _)) _ y.2 (HIQ.out.below ⟨rfl,rfl,rfl,aL _,fun _ _=>rfl⟩ (aL _)) HYM.out HYL.out).mono ?_;rintro e w3 ⟨rfl,hb3⟩;have hb4:Below w.heap.size w w3:=⟨hb3.os.trans HB.out.os,hb3.tape.trans HB.out.tape,hb3.output.trans HB.out.output,Nat.le_trans HB.out.size hb3.size,fun k hk=>(hb3.block k (aT hk HB.out.size)).trans (HB.out.block k hk)⟩
   have HB3:=aA hb4;have y1:w3.cell? ⟨g,i*2,none⟩=some (.int .i64 (y.1:Int)):=(hb4.cell (p:=⟨g,i*2,none⟩) hg).trans hy1;clear hb3 hb4 hy1 y2
   cases hd:qQ (nvN L) y.2 with
   | false=>
    have HA3:Hid (b=eJ (nvN L) (ls.take (i+1))):=by unfold Hid;rw[HA2.out,M7,hd,if_neg (by simp)]
    clear hd HA2;go_wp2;go_roundw
    case rel=>exact⟨i+1,b,by omega,by go_num,rfl,hb1,hb2,HA3,HB3.out⟩
    case measure=>simp[intOf];omega
   | true=>
    by_cases h1:b= -1
    ·have HA3:Hid ((y.1:Int)=eJ (nvN L) (ls.take (i+1))):=by unfold Hid;rw[HA2.out,M7,hd,if_pos ⟨rfl,.inl h1⟩]
     have d1:(b== -1)=true:=by rw[h1];rfl
     clear hd HA2 h1;go_wp2;go_roundw
     case rel=>exact⟨i+1,(y.1:Int),by omega,by go_num,rfl,by omega,by omega,HA3,HB3.out⟩
     case measure=>simp[intOf];omega
    ·have d1:(b== -1)=false:=by rw[beq_eq_false_iff_ne];exact h1
     by_cases h2:(y.1:Int)<b
     ·have HA3:Hid ((y.1:Int)=eJ (nvN L) (ls.take (i+1))):=by unfold Hid;rw[HA2.out,M7,hd,if_pos ⟨rfl,.inr h2⟩]
      have d2:decide ((y.1:Int)<b)=true:=by simp;omega
      clear hd HA2 h1;go_wp2;go_roundw
      case rel=>exact⟨i+1,(y.1:Int),by omega,by go_num,rfl,by omega,by omega,HA3,HB3.out⟩
      case measure=>simp[intOf];omega
     ·have HA3:Hid (b=eJ (nvN L) (ls.take (i+1))):=by unfold Hid;rw[HA2.out,M7,hd,if_neg (fun h=>by rcases h.2 with h | h<;> omega)]
      have d2:decide ((y.1:Int)<b)=false:=by simp;omega
      clear hd HA2 h1;go_wp2;go_roundw
      case rel=>exact⟨i+1,b,by omega,by go_num,rfl,hb1,hb2,HA3,HB3.out⟩
      case measure=>simp[intOf];omega
  ·have hin:i=n:=by omega
   have HR:Hid (b=eJ (nvN L) ls):=by
    unfold Hid;rw[HA.out,hin,←HLN.out,bK]
   have dl:decide ((i:Int)<(n:Int))=false:=by simp;omega
   clear hin;go_wp2;go_ret;exact⟨by rw[←HR.out];rfl,HB.out⟩
end Go.Proofs.YtgjgjgihceijnaaGreat
