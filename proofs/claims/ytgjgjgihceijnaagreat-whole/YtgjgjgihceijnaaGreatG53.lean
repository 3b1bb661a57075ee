import Derived.Test.YtgjgjgihceijnaaGreatG48
import Derived.Test.YtgjgjgihceijnaaGreatG52
import Derived.Test.YtgjgjgihceijnaaGreatG37
import Derived.Test.YtgjgjgihceijnaaGreatG24
import Derived.Test.YtgjgjgihceijnaaGreatG29
import Derived.Test.YtgjgjgihceijnaaGreatG04
import Derived.Test.YtgjgjgihceijnaaGreatG42
import Derived.Test.YtgjgjgihceijnaaGreatG44
open List renaming getElem?_eq_getElem->aL,getElem?_append_right->aT,getElem?_append_left->bC,length_map->a9,getElem_mem->bM
open Nat renaming le_refl->aO,zero_le->bN
open Go.World renaming cell?_of_block->aR,cell?_alloc_at->bK
open Go.RowKit.Below renaming refl->bO
set_option maxRecDepth 100000
set_option maxHeartbeats 8000000
namespace Go.Proofs.YtgjgjgihceijnaaGreat
open Go.RowKit Go.Stn
theorem Tryz.infoTableR:(Tryz.prog.info? 68).map (fun i=>(i.zero,i.size,i.bytes))=some (some (.agg #[.slice none 0 0,.slice none 0 0]),2,48):=by kernel_rfl
theorem Wh {w:World}{B n:Nat}{v:Value}{lw:List Nat}(h:w.ownsRow B 3 1 v n (dP lw))(hn:lw.length=n)(h0:0<n):IL w v lw:=by
 subst hn;rcases h.2 with⟨e1,e2⟩ | ⟨g,cap,cur,rfl,_,_,hnc,_⟩
 ·obtain⟨a,c,e⟩:=aK h;rw[e1]at e;injection e with _ e _;omega
 ·refine⟨_,cap,rfl,hnc,.inr ⟨g,0,rfl,(h.lt g rfl).2,fun i m hm=> ?_⟩⟩;have:=h.cells (g:=g) rfl i _ (kI hm);rw[iL]at this;exact this
theorem TbV.grown {w w':World}{v1 v2:Value}{n:Nat}{of:Nat->Int}{tr:Nat->Nat->Int}(h:TbV w v1 v2 n of tr)(hn:0<n){k m q:Nat}{a:Option Addr}(hk:w.cell? ⟨k,0,none⟩=some (.slice a m q))(hm:m<=100)(hz:w.heap.size<=w'.heap.size)(hB:∀j,j<w.heap.size->j≠k->w'.heap[j]? =w.heap[j]?):TbV w' v1 v2 n of tr:=by
 obtain⟨g1,c1,g2,c2,rw,e1,e2,⟨h1,h2,h3⟩,h4,h5,h6⟩:=h;have n1:g1≠k:=fun e=>by rw[←e,h4 0 hn]at hk;cases hk
 have n2:g2≠k:=fun e=>by
  rw[←e,h5 0 hn]at hk;injection hk with hk;injection hk with _ hk _;omega
 have n3:∀s,s<n->rw s≠k:=fun s hs e=>by rw[←e,h6 s 0 hs (by omega)]at hk;cases hk
 exact⟨g1,c1,g2,c2,rw,e1,e2,⟨by omega,by omega,fun s hs=>by have:=h3 s hs;omega⟩,fun s hs=>(aR (w:=w) (a:=⟨g1,s,none⟩) (hB g1 h1 n1)).trans (h4 s hs),fun s hs=>(aR (w:=w) (a:=⟨g2,s,none⟩) (hB g2 h2 n2)).trans (h5 s hs),fun s b hs hb=>(aR (w:=w) (a:=⟨rw s,b,none⟩) (hB (rw s) (h3 s hs) (n3 s hs))).trans (h6 s b hs hb)⟩
structure TL (W w:World)(v:Value)(c:Nat)(cs:List Value)(ns:Nat->Nat)(of:Nat->Nat->Int)(tr:Nat->Nat->Nat->Int):Prop where
 ow:w.ownsRow W.heap.size 68 2 v c cs
 z:c=0->v= .slice none 0 0
 t:∀i,i<c->0<ns i/\ns i<=100/\∃v1 v2,cs[i*2]? =some v1/\cs[i*2+1]? =some v2/\TbV w v1 v2 (ns i) (of i) (tr i)
 bl:Below W.heap.size W w
 len:cs.length=c*2
theorem TL.start (W:World):TL W W (.slice none 0 0) 0 [] (fun _=>0) (fun _ _=>0) (fun _ _ _=>0):=⟨World.ownsRow_nil _ _ _ 2,fun _=>rfl,fun i hi=>by omega,bO _ _,rfl⟩
theorem TL.below {W w w':World}{v:Value}{c:Nat}{cs:List Value}{ns:Nat->Nat}{of:Nat->Nat->Int}{tr:Nat->Nat->Nat->Int}(h:TL W w v c cs ns of tr)(hB:Below w.heap.size w w'):TL W w' v c cs ns of tr:=
 ⟨cV h.ow (fun k hk=>hB.block k (h.ow.lt k hk).2),h.z,fun i hi=>by
  obtain⟨a,b,v1,v2,k1,k2,k3⟩:=h.t i hi;exact⟨a,b,v1,v2,k1,k2,k3.below hB (aO _)⟩,dO h.bl hB,h.len⟩
def Sd {α:Type}(f:Nat->α)(c:Nat)(x:α):Nat->α:=fun i=>if i=c then x else f i
theorem pF {α:Type}(f:Nat->α)(c:Nat)(x:α):Sd f c x c=x:=if_pos rfl
theorem pE {α:Type}{f:Nat->α}{c:Nat}{x:α}{i:Nat}(h:i≠c):Sd f c x i=f i:=if_neg h
theorem TL.push {W w w4:World}{v:Value}{c:Nat}{cs:List Value}{ns:Nat->Nat}{of:Nat->Nat->Int}{tr:Nat->Nat->Nat->Int}(h:TL W w v c cs ns of tr){o:Obj}{g cap n:Nat}{v1 v2:Value}{f:Nat->Int}{t:Nat->Nat->Int}(hn:0<n)(hm:n<=100)(ht:TbV w v1 v2 n f t)
  (hown:w4.ownsRow W.heap.size 68 2 (.slice (some ⟨g,0,none⟩) (c+1) cap) (c+1) (cs++ [v1,v2])) (hgr:(w.alloc o).grownBy w4 v.ownBlock):TL W w4 (.slice (some ⟨g,0,none⟩) (c+1) cap) (c+1) (cs++ [v1,v2]) (Sd ns c n) (Sd of c f) (Sd tr c t):=by
 have hsz:=hgr.size;have ez:(w.alloc o).heap.size=w.heap.size+1:=by simp
 have hk:∀k,k<w.heap.size->v.ownBlock≠some k->w4.heap[k]? =w.heap[k]? :=fun k hk hne=>(hgr.block k (by omega) (fun e=>hne e.symm)).trans (Below.heap_alloc w o k hk)
 have hlen:=h.len;have keep:∀{v1 v2:Value} {n:Nat} {f:Nat->Int} {t:Nat->Nat->Int},0<n->TbV w v1 v2 n f t->TbV w4 v1 v2 n f t:=fun {v1 v2 n f t} hn ht=>by
  cases e:v.ownBlock with
  | none=>exact ht.below (B:=w.heap.size) ⟨hgr.os,hgr.tape,hgr.output,by omega,fun k hk2=>hk k hk2 (by rw[e];exact fun h=>by cases h)⟩ (aO _)
  | some k=>
   have hc:0<c:=by
    apply Classical.byContradiction;intro h0;rw[h.z (by omega)]at e
    cases e
   obtain⟨_,hm0,u1,u2,k1,_,k3⟩:=h.t 0 hc;rw[Nat.zero_mul]at k1;have hcell:=h.ow.cells e 0 _ k1;obtain⟨g1,c1,_,_,_,e1,_⟩:=k3;rw[e1,iL]at hcell;exact ht.grown hn (k:=k) hcell hm0 (by omega) (fun j hj hne=>hk j hj (fun h=>hne (by rw[e]at h;injection h with h;exact h.symm)))
 refine⟨hown,fun h=>by omega,fun i hi=> ?_,iA h.bl h.ow hgr,by rw[List.length_append,hlen];show c*2+2=_;omega⟩;by_cases hic:i=c
 ·subst hic;rw[pF,pF,pF];refine⟨hn,hm,v1,v2, ?_, ?_,keep hn ht⟩
  ·rw[aT (by omega),hlen,Nat.sub_self];rfl
  ·rw[aT (by omega),hlen,Nat.add_sub_cancel_left];rfl
 ·rw[pE hic,pE hic,pE hic];obtain⟨a,b,u1,u2,k1,k2,k3⟩:=h.t i (by omega);exact⟨a,b,u1,u2,by rw[bC (by omega)];exact k1,by rw[bC (by omega)];exact k2,keep a k3⟩
theorem TL.view {W w:World}{v:Value}{c:Nat}{cs:List Value}{ns:Nat->Nat}{of:Nat->Nat->Int}{tr:Nat->Nat->Nat->Int}(h:TL W w v c cs ns of tr)(hc:0<c):∃g cap,v= .slice (some ⟨g,0,none⟩) c cap/\TsV w g c ns of tr:=by
 rcases bZ h.ow with e | ⟨g,cap,e⟩
 ·exfalso;obtain⟨a,q,e2⟩:=aK h.ow;rw[e]at e2;injection e2 with _ e3 _;omega
 ·refine⟨g,cap,e,fun i hi=> ?_,(h.ow.lt g (by rw[e];rfl)).2⟩;obtain⟨_,_,v1,v2,k1,k2,k3⟩:=h.t i hi;have a1:=h.ow.cells (g:=g) (by rw[e];rfl) _ _ k1;have a2:=h.ow.cells (g:=g) (by rw[e];rfl) _ _ k2;rw[iL,Nat.zero_add]at a1 a2;exact⟨v1,v2,a1,a2,k3⟩
attribute [local go_sem ↓] Go.wp_at_zero Go.wp_at_succ
theorem S6 (t:ByteArray)(w:World):Calls Tryz.prog 8 #[.string t] w fun e w'=>e= .returned (.tuple #[.string ⟨(gQ t).1.toArray⟩,.int .i64 (gQ t).2])/\Below w.heap.size w w':=by
 obtain⟨hr1,hr2⟩:=vM t;have HRA:=aA (fun w=>P7 t w)
 cases hR:lV t with
 | mk o c=>
 cases o with
 | none=>
  obtain⟨hc0,hpc⟩:=hr1 c hR;have HE:Hid (gQ t=([],(c:Int))):=by
   rcases pQ t with⟨_,h2⟩ | ⟨h1,_⟩
   ·rw[←hpc];exact h2
   ·exfalso;rw[hpc]at h1;omega
  have HR:=aA hR;have d1:((c:Int) !=0)=true:=by rw[bne_iff_ne];omega
  clear hR hr1 hr2 hpc hc0;go_enter Tryz.func8,Tryz.ntmps8;go_wp2_with fail;refine(HRA.out _).mono ?_;intro e w1 h1;unfold lO at h1;rw[HR.out]at h1;obtain⟨hb,rfl⟩:=h1;have HB:=aA hb;clear hb;go_wp2;go_ret2;exact⟨by rw[HE.out];rfl,HB.out⟩
 | some ls=>
  obtain⟨hp0,hfx,hn10,hsz,hln⟩:=hr2 ls c hR;obtain⟨o1,o2,o3⟩:=lY hfx;rw[a9]at o2 o3;have hcn:=Ws hln hfx hn10;obtain⟨m1,m4,_,_⟩:=mP (ls.map toX) o1 (by rw[xB];exact hn10);have HMANY:Hid (∀(c n:Nat) (mk:Nat->Nat) (tr:Nat->Nat->Int),c<aU (ls.map toX)->uQ (ls.map toX) c n mk tr->100<n->gQ t=([],4)):=fun c n mk tr hc h hn=>Stn.Op hp0 hfx hc h hn
  have HIMG:Hid (∀(ns:Nat->Nat) (mk:Nat->Nat->Nat) (tr:Nat->Nat->Nat->Int),(∀c,c<aU (ls.map toX)->uQ (ls.map toX) c (ns c) (mk c) (tr c))->(∀c,c<aU (ls.map toX)->ns c<=100)->gQ t=(wrL (ruX (ls.map toX)) (aU (ls.map toX)) 256 (fun b=>b) ns mk tr,0)):=fun ns mk tr hT h100=>Th hp0 hfx hT h100
  have HLK:=aA (xS hln);have HR:=aA hR;have HO1:=aA o1;rw[←hcn]at m1 m4 HMANY HIMG;clear hR hr1 hr2 hp0 hfx hsz hln o1 hcn;go_enter Tryz.func8,Tryz.ntmps8;go_wp2_with fail;refine(HRA.out _).mono ?_;intro e w1 h1;unfold lO at h1;rw[HR.out]at h1;obtain⟨hb,fb,O,L,vN,vR,R,rfl,hfb,hfn,hok,hrm,h3⟩:=h1;have hRl:=hrm.1;have hLp:0<L.length:=by
   have h1:0<R.length:=by omega
   obtain⟨_,_,_,k⟩:=hrm.2 0 _ _ (aL h1) (aL (by omega));have:=k.1;rw[dQ]at this;omega
  obtain⟨gN,cN,_,hFR⟩:=hfn.read hLp;obtain⟨gR,cR,hFU⟩:=hfn.rules hrm (by omega);have hfp:=Sq hrm hok hfn.cl o3 hn10 h3;have c3:=hfn.c3;have hfz:=hfn.wt.2;have HFP:=aA hfp;have HFR:=aA hFR;have HFU:=aA hFU;have HRM:=aA hrm;have HB1:=aA hb;have hzb:=hb.size;have HRL:=aA hRl;generalize cnS ls=M at*;clear hb hfn hok hrm hFR hFU hfp hLp hRl HR HRA;go_wp2_with fail;refine(Bb (by omega) HFR.out).mono ?_;rintro e w2 ⟨vl,lw,rfl,hb2,hol,hlw,hlo⟩;have hz2:=hb2.size;obtain⟨al,cl,evl⟩:=aK hol;subst evl;have HIL:=aA (Wh hol hlw (by omega));have HLW:=aA hlw;have HLO:=aA hlo;have HFR2:=aA (HFR.out.below hb2 (aO _));have HFU2:=aA (HFU.out.below hb2 (aO _));have c32:=(hb2.cell (p:=⟨fb,3,none⟩) hfz).trans c3;have hfz2:fb<w2.heap.size:=by omega
  have HB2:=aA (HB1.out.trans (hb2.mono HB1.out.size));clear hb2 hol hlw hlo HFR HFU c3 HB1 hfz;go_wp2_with fail
  go_loopg [7,8] M (fun gk lv cv wr=>∃(c:Nat) (cs:List Value) (ns:Nat->Nat) (of:Nat->Nat->Int) (tr:Nat->Nat->Nat->Int),cv= .int .i64 (c:Int)/\c+gk=M/\TL w2 wr lv c cs ns of tr/\∀i,i<c->uQ (ls.map toX) i (ns i) (mkF (of i)) (tr i)/\(∀s,s<ns i-> -1<=of i s/\of i s<8))
  case atStart=>exact⟨0,[],_,_,_,rfl,by omega,TL.start w2,fun i hi=>by omega⟩
  case round=>
   obtain⟨c,cs,ns,of,tr,rfl,hcg,htl,hrt⟩:=hrel;have HTL:=aA htl;have HRT:=aA hrt;have hzr:=htl.bl.size;have c3r:=(htl.bl.cell (p:=⟨fb,3,none⟩) hfz2).trans c32;obtain⟨av,cv,ev⟩:=aK htl.ow;subst ev;clear htl hrt;by_cases hlt:c<M
   ·obtain⟨d,rfl⟩:∃d,gk=d+1:=⟨gk - 1,by omega⟩
    have hd1:decide ((c:Int)<(M:Int))=true:=by simp;omega
    have HTA:=aA (Hi (cond:=c) HFP.out (by omega) (HFR2.out.below HTL.out.bl (aO _)) (HFU2.out.below HTL.out.bl (aO _)) (HIL.out.below HTL.out.bl (aO _)) HLW.out HLO.out);go_wp2_with fail;refine HTA.out.mono ?_;rintro e w3 ⟨v1,v2,n,f,tt,rfl,hb3,htb,hn1025,hti⟩;have hrtab:=hti.rtab HRM.out;have hof:=hti.2.1;have hn0:=hti.1.au.pos;have hz3:=hb3.size;have HTB:=aA htb;obtain⟨g1,c1,g2,c2,rw,e1,e2,_⟩:=htb;subst e1 e2;have HTL3:=aA (HTL.out.below hb3);have HRB:=aA hrtab;have HOF:=aA hof;have HBA:Hid (Below w3.heap.size w3 (w3.alloc (.cells #[.slice (some ⟨g1,0,none⟩) n c1,.slice (some ⟨g2,0,none⟩) n c2] 68))):=(bO _ _).alloc (aO _) _;have hq0:(w3.alloc (.cells #[.slice (some ⟨g1,0,none⟩) n c1,.slice (some ⟨g2,0,none⟩) n c2] 68)).cell? ⟨w3.heap.size,0,none⟩=some (.slice (some ⟨g1,0,none⟩) n c1):=(bK _ _ _ 0 rfl).trans rfl;have hq1:(w3.alloc (.cells #[.slice (some ⟨g1,0,none⟩) n c1,.slice (some ⟨g2,0,none⟩) n c2] 68)).cell? ⟨w3.heap.size,1,none⟩=some (.slice (some ⟨g2,0,none⟩) n c2):=(bK _ _ _ 1 rfl).trans rfl;clear hrtab hof hti hb3 HTA HTL c3r;go_upto_region 10 with fail;generalize w3.alloc (.cells #[.slice (some ⟨g1,0,none⟩) n c1,.slice (some ⟨g2,0,none⟩) n c2] 68)=W4 at*;have HTL4:=aA (HTL3.out.below HBA.out);have HTB4:=aA (HTB.out.below HBA.out (aO _));have hz4:=HTL4.out.bl.size;clear HTL3 HTB;by_cases hbig:100<n
    ·have HE:=aA (HMANY.out c n _ _ hlt HRB.out hbig);have hd2:decide ((100:Int)<(n:Int))=true:=by simp;omega
     clear hbig;go_wp2;go_ret2;exact⟨by rw[HE.out];rfl,HB2.out.trans (HTL4.out.bl.mono HB2.out.size)⟩
    ·have hd2:decide ((100:Int)<(n:Int))=false:=by simp;omega
     have HRG:Hid (W4.rangeAt w3.heap.size 0 [.slice (some ⟨g1,0,none⟩) n c1,.slice (some ⟨g2,0,none⟩) n c2]):=fun i v hv=>by
      rcases i with _ | _ | i
      ·simp at hv;subst hv;exact hq0
      ·simp at hv;subst hv;exact hq1
      ·simp at hv
     have hn100:n<=100:=by omega
     clear hbig;go_wp2_with (first
      | (refine wpList_load_mid rfl 68 (.tmp 9) rfl w3.heap.size 0 rfl [.slice (some ⟨g1,0,none⟩) n c1,.slice (some ⟨g2,0,none⟩) n c2] _ HRG.out Tryz.underlying68 rfl Tryz.tableSize ?_)
      | (at_builtin;refine aF W4 rfl (.tmp 37) (.tmp 39) 61 rfl w2.heap.size 68 (.agg #[.slice none 0 0,.slice none 0 0]) 2 48 Tryz.underlying61 Tryz.infoTableR rfl (by decide) (by decide) (.slice av c cv) c cs [.slice (some ⟨g1,0,none⟩) n c1,.slice (some ⟨g2,0,none⟩) n c2] _ rfl HTL4.out.ow _ rfl rfl rfl (by simp[Value.oneCell']) (by omega) (by omega) ?_;intro g5 cap5 w5 hown5 hgrow5 hat5 hlt5;have HT5:=aA (HTL4.out.push hn0 hn100 HTB4.out hown5 hgrow5);clear hown5 hgrow5 hat5))
     go_roundg d
     case measure=>omega
     case rel=>exact⟨c+1,_,_,_,_,by go_num,by omega,HT5.out,fun i hi=>by
      by_cases e:i=c
      ·subst e;rw[pF,pF,pF];exact⟨HRB.out,HOF.out⟩
      ·rw[pE e,pE e,pE e];exact HRT.out i (by omega)⟩
   ·have e:gk=0:=by omega
    subst e;have e:c=M:=by omega
    subst e;have hd1:decide ((c:Int)<(c:Int))=false:=by simp
    obtain⟨g,cap,ev,hts⟩:=HTL.out.view (by omega);injection ev with e1 _ e3;subst e1 e3;have HE:=aA (HIMG.out ns _ tr (fun i hi=>(HRT.out i hi).1) (fun i hi=>(HTL.out.t i hi).2.1));have HWR:=aA (V7 (cap:=cv) (ru:=ruX (ls.map toX)) (HFU2.out.below HTL.out.bl (aO _)) c3r hts m4 (fun i hi=>(HTL.out.t i hi).2.1) (by have:=HRL.out;omega) (fun x hx=>by
      obtain⟨j,hj,ej⟩:=List.getElem_of_mem hx;have hj2:j<ls.length:=by rw[←HRL.out];exact hj
      obtain⟨_,_,k3,_⟩:=HRM.out.2 j x _ (by rw[aL hj,ej]) (aL hj2);rw[k3];exact(HLK.out _ (bM hj2)).th) (by rw[uE,a9,HRL.out]) (fun k x hx=>by
      have hj2:k<ls.length:=by rw[←HRL.out];exact(List.getElem?_eq_some_iff.1 hx).1
      have hy:=aL hj2;obtain⟨_,_,k3,_⟩:=HRM.out.2 k x _ hx hy;have e1:=Es (l:=ls.map toX) HO1.out (i:=k) (x:=toX (ls[k]'hj2)) (by rw[List.getElem?_map,hy];rfl);have e2:=(Kd (HLK.out _ (bM hj2))).1;rw[k3];have e1:(mR (ruX (ls.map toX)) k:Int)=sK (ls[k]'hj2).2.2.1:=e1;omega) (fun i s hi hs=>(HRT.out i hi).2 s hs) (fun i s b hi hs hb=>(HRT.out i hi).1.cn.au.rng s b hs hb))
    have HBT:=aA HTL.out.bl;clear HTL HRT hts;go_wp2_with fail;refine HWR.out.mono ?_;rintro e w5 ⟨rfl,hb5⟩;have HB5:=aA (dO HBT.out hb5);clear hb5;go_wp2;go_ret2;exact⟨by rw[HE.out];rfl,HB2.out.trans (HB5.out.mono HB2.out.size)⟩
end Go.Proofs.YtgjgjgihceijnaaGreat
namespace Go.Proofs.YtgjgjgihceijnaaGreat
open Go.RowKit Go.Stn
theorem Ae (t:ByteArray)(w:World):
  Calls Tryz.prog 15 #[.string t] w fun e w'=>e= .returned (.bool true)/\Below w.heap.size w w':=by
 have HP:=aA (fun w=>Ca t w);have HR:=aA (fun w=>S6 t w);generalize (gQ t).2=n at*;generalize (⟨(gQ t).1.toArray⟩:ByteArray)=s at*;have d2:(n==n)=true:=by simp
 go_enter Tryz.func15,Tryz.ntmps15;go_wp2_with fail;refine(HP.out _).mono ?_;rintro e w1 ⟨rfl,hb1⟩;have HB1:=aA hb1;clear hb1;go_wp2_with fail;refine(HR.out _).mono ?_;rintro e w2 ⟨rfl,hb2⟩;have HB2:=aA (HB1.out.trans (hb2.mono HB1.out.size));clear hb2;go_wp2_with fail;refine(Jn _ _).mono ?_;rintro e w3 ⟨rfl,hw3⟩;rw[hw3];go_wp2;go_ret;exact⟨by simp,HB2.out⟩
theorem Mz (w:World):Calls Tryz.prog 6 #[] w fun e w'=>e= .returned (.bool true)/\Below w.heap.size w w':=by
 have HC:=aA (fun w=>Ae ⟨#[65,32,97,32,46]⟩ w);go_enter Tryz.func6,Tryz.ntmps6;go_wp2_with fail;refine(HC.out _).mono ?_;rintro e w1 ⟨rfl,hb1⟩;go_wp2;go_ret;exact⟨rfl,hb1⟩
end Go.Proofs.YtgjgjgihceijnaaGreat
namespace Go.Stn
def seg (inp:ByteArray)(p q:Nat):List Nat:=(List.range (q - p)).map fun i=>bt inp (p+i)
theorem Vg (inp:ByteArray)(p q:Nat):(seg inp p q).length=q - p:=by unfold seg;simp
theorem Ty (inp:ByteArray)(p:Nat):seg inp p p= []:=by unfold seg;simp
theorem Jd (inp:ByteArray)(p:Nat):seg inp p (p+1)= [bt inp p]:=by
 unfold seg;rw[show p+1 - p=1 by omega];rfl
theorem Y7 (inp:ByteArray){p m q:Nat}(h1:p<=m)(h2:m<=q):seg inp p q=seg inp p m++seg inp m q:=by
 unfold seg;rw[show q - p=(m - p)+(q - m) by omega,List.range_add,List.map_append,List.map_map];congr 1;exact List.map_congr_left (fun i _=>by show bt inp (p+(m - p+i))=bt inp (m+i);congr 1;omega)
theorem Ra (inp:ByteArray)(p q:Nat):∀b∈seg inp p q,b<256:=fun b hb=>by
 unfold seg at hb;rw[List.mem_map]at hb;obtain⟨i,_,rfl⟩:=hb;unfold bt;exact UInt8.toNat_lt _
theorem Dy {x:Nat}:fD x= -1↔x=255:=by
 unfold fD;split
 ·simp[*]
 ·constructor
  ·intro h;omega
  ·intro h;contradiction
theorem Hh {x:Nat}(h:x≠255):(fD x).toNat=x:=by
 unfold fD;rw[if_neg h];omega
theorem Qt (s inp:ByteArray)(c p:Nat):∀d,mM s inp c p d=kX (fun p b=>fD (bE s c p b)) 0 (seg inp p (p+d)):=by
 intro d
 induction d with
 | zero=>rw[Nat.add_zero,Ty];rfl
 | succ d ih=>
  rw[Y7 inp (show p<=p+d by omega) (show p+d<=p+(d+1) by omega),show p+(d+1)=p+d+1 by omega,Jd,mM,ih]
  cases e:kX (fun p b=>fD (bE s c p b)) 0 (seg inp p (p+d))with
  | none=>rw[tQ,e]
  | some st=>
   rw[tV e];by_cases h:bE s c st (bt inp (p+d))=255
   ·simp only[h,if_true];rw[if_pos (Dy.2 rfl)]
   ·simp only[if_neg h];rw[if_neg (fun hh=>h (Dy.1 hh)),Hh h]
theorem Te (s inp:ByteArray)(c p d:Nat):sL s inp c p d=if 0<cI (eA s c) (fun p b=>fD (bE s c p b)) 0 (seg inp p (p+d))then some (cI (eA s c) (fun p b=>fD (bE s c p b)) 0 (seg inp p (p+d)) - 1)else none:=by
 unfold sL cI;rw[Qt]
 cases kX (fun p b=>fD (bE s c p b)) 0 (seg inp p (p+d))with
 | none=>simp
 | some st=>rfl
end Go.Stn
namespace Go.Proofs.YtgjgjgihceijnaaGreat
open Go.RowKit Go.Stn
def jQ (N:List RN):List LfT->List Nat->List LfT
 | l,[]=>l
 | l,c::w=>jQ N (dE N c l) w
theorem R6 (N:List RN)(c:Nat):∀(w:List Nat) (l:List LfT),jQ N l (w++ [c])=dE N c (jQ N l w)
 | [],_=>rfl
 | b::w,l=>R6 N c w (dE N b l)
theorem R0 (N:List RN):∀(w:List Nat),jQ N [] w= []
 | []=>rfl
 | b::w=>by
  show jQ N (dE N b []) w= [];exact R0 N w
theorem Bu (N:List RN):∀(u w:List Nat) (l:List LfT),jQ N l (u++w)=jQ N (jQ N l u) w
 | [],_,_=>rfl
 | b::u,w,l=>Bu N u w (dE N b l)
variable {N:List RN} {tops ks:List Nat}
theorem Jj (hf:eC N tops ks):∀(w:List Nat) (l:List LfT),(∀p,p∈l->UB N tops p)->∀p,p∈jQ N l w->UB N tops p
 | [],_,h=>h
 | _::w,_,h=>Jj hf w _ (fun p hp=>(hf.step_all h p hp).ub)
theorem Dv (hf:eC N tops ks):∀(w:List Nat) (l:List LfT),l.length<=10->(∀p,p∈l->UB N tops p)->(jQ N l w).length<=10
 | [],_,h,_=>h
 | b::w,l,_,h=>Dv hf w _ (hf.few (sN N b l) (hf.step_all h)) (fun p hp=>(hf.step_all h p hp).ub)
theorem Js (hf:eC N tops ks)(r:Nat)(u:List Nat):∀(w:List Nat) (l:List LfT),(∀p,p∈l->UB N tops p)->eE 256 w->(WL N (jQ N l w) r u↔WL N l r (w++u))
 | [],_,_,_=>Iff.rfl
 | b::w,l,h,hw=>(Js hf r u w (dE N b l) (fun p hp=>(hf.step_all h p hp).ub) (fun x hx=>hw x (List.mem_cons_of_mem _ hx))).trans (hf.wl_step h (hw b List.mem_cons_self) r (w++u))
theorem Pt (hf:eC N tops ks){l:List LfT}(h:∀p,p∈l->UB N tops p){w:List Nat}(hw:eE 256 w):N6 N l w (eJ N (jQ N l w)+1).toNat:=
 (Cr hf (jQ N l w)).same (fun r=>by have:=Js hf r [] w l h hw;rw[List.append_nil]at this;exact this)
theorem Dg (N:List RN)(l:List LfT): -1<=eJ N l:=by
 rcases En N l with⟨h1,_⟩ | ⟨r,h1,_⟩<;> omega
theorem Uu {w0:World}{O:Nat->Nat}{L:List NV}{R:List RV}{ls:List fM}(hr:RuM w0 O (nvN L) R ls)(hf:eC (nvN L) (R.map RV.n) ks){s inp:ByteArray}(h:mC (ls.map toX) s){c p d:Nat}(hc:c<aU (ls.map toX))(hd:0<d):
  sL s inp c p d=if eJ (nvN L) (jQ (nvN L) (gG c 0 R) (seg inp p (p+d)))= -1 then none else some (eJ (nvN L) (jQ (nvN L) (gG c 0 R) (seg inp p (p+d)))).toNat:=by
 obtain⟨b,u,e⟩:∃b u,seg inp p (p+d)=b::u:=by
  cases e:seg inp p (p+d)with
  | nil=>have:=congrArg List.length e;rw[Vg,List.length_nil]at this;omega
  | cons b u=>exact⟨b,u,rfl⟩
 have hl:=Ra inp p (p+d);rw[e]at hl;have ht:=h.tok c hc b u hl;have hk:=(Pt hf (Y5 (cond:=c) (R:=R)) hl).tok hr;rw[Te,e];have hv:=uL ht hk;have hge:=Dg (nvN L) (jQ (nvN L) (gG c 0 R) (b::u));rw[hv];generalize eJ (nvN L) (jQ (nvN L) (gG c 0 R) (b::u))=v at*;by_cases e1:v= -1
 ·rw[if_pos e1,e1];rfl
 ·rw[if_neg e1,if_pos (by omega)];congr 1;omega
end Go.Proofs.YtgjgjgihceijnaaGreat
namespace Go.Proofs.YtgjgjgihceijnaaGreat
open Go.RowKit Go.Stn
theorem Pm (x:ByteArray)(i:Nat):seg x 0 (i+1)=seg x 0 i++ [bt x i]:=by
 rw[Y7 x (bN i) (Nat.le_succ i),Jd]
theorem V9 {fb gN cap gR cR cond:Nat}{L:List NV}{R:List RV}{ks:List Nat}(hf:eC (nvN L) (R.map RV.n) ks)(hcond:cond<4)(hR:R.length<=8)(hL:L.length<=3000){w:World}(h:FR fb w L gN cap)(hr:FRu fb w R gR cR)(x:ByteArray)(hx:0<x.size)(hxs:x.size<=1000):
  Calls Tryz.prog 26 #[.pointer (some ⟨fb,0,none⟩),.string x,.int .i64 (cond:Int)] w fun e w'=>e= .returned (.int .i64 (eJ (nvN L) (jQ (nvN L) (gG cond 0 R) (seg x 0 x.size))))/\Below w.heap.size w w':=by
 have HBG:=aA (J2 (cond:=cond) hcond (by omega) hr);have HUB:Hid (∀q,q∈gG cond 0 R->UB (nvN L) (R.map RV.n) q):=Y5;have HLN:Hid ((gG cond 0 R).length<=10):=by have:=xT cond R 0;unfold Hid;omega
 have HF:=aA hf;have HFR:=aA h;generalize gG cond 0 R=l0 at*;have HEND:Hid (∀(wr:World) (P:Nat->Prop) (v:Value) (l:List LfT),Below w.heap.size w wr->LFp wr P v l->l.length<=10->(∀q,q∈l->UB (nvN L) (R.map RV.n) q)->Calls Tryz.prog 57 #[.pointer (some ⟨fb,0,none⟩),v] wr fun e w'=>e= .returned (.int .i64 (eJ (nvN L) l))/\Below wr.heap.size wr w'):=fun wr P v l hb hv hl hu=>
  C3 HF.out.sh HF.out.cl (by omega) (HFR.out.below hb (aO _)) hv (by omega) (fun q hq=>by
   obtain⟨b1,b2,b3⟩:=HF.out.bnd (hu q hq);rw[a9]at b3;exact⟨by omega,by omega,fun m hm=>by have:=(b1 m hm).1;rw[dQ]at this;exact this⟩)
 have HSTEP:Hid (∀(wr:World) (P:Nat->Prop) (v:Value) (l:List LfT) (c:Nat),c<256->Below w.heap.size w wr->LFp wr P v l->l.length<=10->(∀q,q∈l->UB (nvN L) (R.map RV.n) q)->Calls Tryz.prog 56 #[.pointer (some ⟨fb,0,none⟩),v,.int .i64 (c:Int)] wr fun e w'=>∃v',e= .returned v'/\Below wr.heap.size wr w'/\LFp w' (fun g=>wr.heap.size<=g) v' (dE (nvN L) c l)):=fun wr P v l c hc hb hv hl hu=>
  P9 HF.out c hc (HFR.out.below hb (aO _)) hv (by omega) hu
 have HIN:Hid (∀i,(∀q,q∈jQ (nvN L) l0 (seg x 0 i)->UB (nvN L) (R.map RV.n) q)/\(jQ (nvN L) l0 (seg x 0 i)).length<=10):=fun i=>⟨Jj HF.out _ _ HUB.out,Dv HF.out _ _ HLN.out HUB.out⟩
 obtain⟨n,en⟩:∃n,x.size=n:=⟨_,rfl⟩
 have HN:=aA en;have HNIL:Hid (∀i,i<=n->jQ (nvN L) l0 (seg x 0 i)= []->jQ (nvN L) l0 (seg x 0 n)= []):=fun i hi e=>by
  rw[Y7 x (bN i) hi,Bu,e,R0]
 have HSN:Hid (∀i,jQ (nvN L) l0 (seg x 0 (i+1))=dE (nvN L) (bt x i) (jQ (nvN L) l0 (seg x 0 i))):=fun i=>by rw[Pm,R6]
 have H0:Hid (jQ (nvN L) l0 (seg x 0 0)=l0):=rfl;generalize R.map RV.n=tops at*;generalize nvN L=N at*;rw[en];clear hf h hr en;go_enter Tryz.func26,Tryz.ntmps26;go_wp2_with fail;refine HBG.out.mono ?_;rintro e w1 ⟨v0,rfl,hb1,hlf⟩;have HB1:=aA hb1;have HLF:=aA hlf;clear hb1 hlf;go_wp2_with fail
 go_loopw [7,8] (fun lv iv wr=>∃(i:Nat) (P:Nat->Prop),i<=n/\iv= .int .i64 (i:Int)/\LFp wr P lv (jQ N l0 (seg x 0 i))/\Below w.heap.size w wr) (fun _ iv _=>n - (intOf iv).toNat)
 case atStart=>exact⟨0,_,by omega,rfl,by rw[H0.out];exact HLF.out,HB1.out⟩
 case round=>
  obtain⟨i,P,hi,rfl,hlf2,hbr⟩:=hrel;obtain⟨hub,hlen⟩:=HIN.out i;have HLF2:=aA hlf2;have HBR:=aA hbr;have HUBI:=aA hub;have hni:=HNIL.out i hi;obtain⟨l,el⟩:∃l,jQ N l0 (seg x 0 i)=l:=⟨_,rfl⟩
  rw[el]at HLF2 HUBI hlen hni;have HEL:=aA el;have HLEN:=aA hlen;obtain⟨a,ca,ev,_⟩:=id HLF2.out;subst ev;have HNI:=aA hni;clear hlf2 hbr hub el hlen hni HLF HB1 HBG;have HXN:=HN.out;by_cases hgo:i<n/\0<l.length
  ·obtain⟨hlt,hl0⟩:=hgo;have d1:decide ((i:Int)<(n:Int))=true:=by simp;omega
   have d2:decide ((0:Int)<(l.length:Int))=true:=by simp;omega
   have hb:=jE x i (by omega);have hb2:=jS x i;have HS:=aA (HSTEP.out wr P _ l (bt x i) hb2 HBR.out HLF2.out HLEN.out HUBI.out);have HS2:=aA (HSN.out i);generalize bt x i=c at*;have hlI:(l.length:Int)<=10:=by have:=HLEN.out;omega
   generalize l.length=nl at*;go_wp2_with fail;refine HS.out.mono ?_;rintro e w3 ⟨v3,rfl,hb3,hl3⟩;have HB3:=aA (dO HBR.out hb3);have HL3:=aA hl3;clear hb3 hl3;go_wp2;go_roundw
   case rel=>exact⟨i+1,_,by omega,by go_num,by rw[HS2.out,HEL.out];exact HL3.out,HB3.out⟩
   case measure=>simp[intOf];omega
  ·have HE:Hid (jQ N l0 (seg x 0 n)=l):=by
    by_cases e:i<n
    ·have:l= []:=List.length_eq_zero_iff.1 (by omega);rw[this];exact HNI.out this
    ·have:i=n:=by omega
     rw[←this];exact HEL.out
   have HC:=aA (HEND.out wr P _ l HBR.out HLF2.out HLEN.out HUBI.out);have hn0:((n:Int)==0)=false:=by rw[beq_eq_false_iff_ne];omega
   by_cases hlt:i<n
   ·have hl0:l.length=0:=by omega
    have d1:decide ((i:Int)<(n:Int))=true:=by simp;omega
    rw[hl0]at HC ⊢;clear hgo hl0;go_wp2_with fail;refine HC.out.mono ?_;rintro e w3 ⟨rfl,hb3⟩;have HB3:=aA (dO HBR.out hb3);clear hb3;go_wp2;go_ret;exact⟨by rw[HE.out];rfl,HB3.out⟩
   ·have d1:decide ((i:Int)<(n:Int))=false:=by simp;omega
    have hlI:(l.length:Int)<=10:=by have:=HLEN.out;omega
    clear hgo;generalize l.length=nl at*;go_wp2_with fail;refine HC.out.mono ?_;rintro e w3 ⟨rfl,hb3⟩;have HB3:=aA (dO HBR.out hb3);clear hb3;go_wp2;go_ret;exact⟨by rw[HE.out];rfl,HB3.out⟩
end Go.Proofs.YtgjgjgihceijnaaGreat
