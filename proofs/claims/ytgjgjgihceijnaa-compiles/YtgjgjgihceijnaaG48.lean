/- Texts put together: CmComp, CmKnown. -/
import Derived.Test.YtgjgjgihceijnaaG43
import Derived.Test.YtgjgjgihceijnaaG47
import Derived.Test.YtgjgjgihceijnaaG32
import Derived.Test.YtgjgjgihceijnaaG19
namespace Go.Proofs.Ytgjgjgihceijnaa
open Go.RowKit Go.Stn
theorem Try.infoTableR:(Try.prog.info? 128).map (fun i=>(i.zero,i.size,i.bytes))=some (some (.agg #[.slice none 0 0,.slice none 0 0]),2,48):=by kernel_rfl
theorem own_IL {w:World}{B n:Nat}{v:Value}{lw:List Nat}(h:w.ownsRow B 3 1 v n (intsV lw))(hn:lw.length=n)(h0:0<n):IL w v lw:=by
 subst hn
 rcases h.2 with⟨e1,e2⟩ | ⟨g,cap,cur,rfl,_,_,hnc,_⟩
 ·obtain⟨a,c,e⟩:=rowSlice h
  rw[e1]at e
  injection e with _ e _
  omega
 ·refine⟨_,cap,rfl,hnc,.inr ⟨g,0,rfl,(h.lt g rfl).2,fun i m hm=> ?_⟩⟩
  have:=h.cells (g:=g) rfl i _ (intsV_get hm)
  rw[add_at]at this
  exact this
theorem TbV.grown {w w':World}{v1 v2:Value}{n:Nat}{of:Nat→Int}{tr:Nat→Nat→Int}(h:TbV w v1 v2 n of tr)(hn:0<n){k m q:Nat}{a:Option Addr}(hk:w.cell? ⟨k,0,none⟩=some (.slice a m q))(hm:m≤100)(hz:w.heap.size≤w'.heap.size)(hB:∀j,j<w.heap.size→j≠k→w'.heap[j]? =w.heap[j]?):TbV w' v1 v2 n of tr:=by
 obtain⟨g1,c1,g2,c2,rw,e1,e2,⟨h1,h2,h3⟩,h4,h5,h6⟩:=h
 have n1:g1≠k:=fun e=>by rw[←e,h4 0 hn]at hk;cases hk
 have n2:g2≠k:=fun e=>by
  rw[←e,h5 0 hn]at hk
  injection hk with hk
  injection hk with _ hk _
  omega
 have n3:∀s,s<n→rw s≠k:=fun s hs e=>by rw[←e,h6 s 0 hs (by omega)]at hk;cases hk
 exact⟨g1,c1,g2,c2,rw,e1,e2,⟨by omega,by omega,fun s hs=>by have:=h3 s hs;omega⟩,fun s hs=>(World.cell?_of_block (w:=w) (a:=⟨g1,s,none⟩) (hB g1 h1 n1)).trans (h4 s hs),fun s hs=>(World.cell?_of_block (w:=w) (a:=⟨g2,s,none⟩) (hB g2 h2 n2)).trans (h5 s hs),fun s b hs hb=>(World.cell?_of_block (w:=w) (a:=⟨rw s,b,none⟩) (hB (rw s) (h3 s hs) (n3 s hs))).trans (h6 s b hs hb)⟩
structure TL (W w:World)(v:Value)(c:Nat)(cs:List Value)(ns:Nat→Nat)(of:Nat→Nat→Int)(tr:Nat→Nat→Nat→Int):Prop where
 ow:w.ownsRow W.heap.size 128 2 v c cs
 z:c=0→v= .slice none 0 0
 t:∀i,i<c→0<ns i∧ns i≤100∧∃v1 v2,cs[i*2]? =some v1∧cs[i*2+1]? =some v2∧TbV w v1 v2 (ns i) (of i) (tr i)
 bl:Below W.heap.size W w
 len:cs.length=c*2
theorem TL.start (W:World):TL W W (.slice none 0 0) 0 [] (fun _=>0) (fun _ _=>0) (fun _ _ _=>0):=⟨World.ownsRow_nil _ _ _ 2,fun _=>rfl,fun i hi=>by omega,Below.refl _ _,rfl⟩
theorem TL.below {W w w':World}{v:Value}{c:Nat}{cs:List Value}{ns:Nat→Nat}{of:Nat→Nat→Int}{tr:Nat→Nat→Nat→Int}(h:TL W w v c cs ns of tr)(hB:Below w.heap.size w w'):TL W w' v c cs ns of tr:=
 ⟨row_top h.ow (fun k hk=>hB.block k (h.ow.lt k hk).2),h.z,fun i hi=>by
  obtain⟨a,b,v1,v2,k1,k2,k3⟩:=h.t i hi
  exact⟨a,b,v1,v2,k1,k2,k3.below hB (Nat.le_refl _)⟩,bel_join h.bl hB,h.len⟩
def updN {α:Type}(f:Nat→α)(c:Nat)(x:α):Nat→α:=fun i=>if i=c then x else f i
theorem updN_here {α:Type}(f:Nat→α)(c:Nat)(x:α):updN f c x c=x:=if_pos rfl
theorem updN_else {α:Type}{f:Nat→α}{c:Nat}{x:α}{i:Nat}(h:i≠c):updN f c x i=f i:=if_neg h
theorem TL.push {W w w4:World}{v:Value}{c:Nat}{cs:List Value}{ns:Nat→Nat}{of:Nat→Nat→Int}{tr:Nat→Nat→Nat→Int}(h:TL W w v c cs ns of tr){o:Obj}{g cap n:Nat}{v1 v2:Value}{f:Nat→Int}{t:Nat→Nat→Int}(hn:0<n)(hm:n≤100)(ht:TbV w v1 v2 n f t)
  (hown:w4.ownsRow W.heap.size 128 2 (.slice (some ⟨g,0,none⟩) (c+1) cap) (c+1) (cs++ [v1,v2])) (hgr:(w.alloc o).grownBy w4 v.ownBlock):TL W w4 (.slice (some ⟨g,0,none⟩) (c+1) cap) (c+1) (cs++ [v1,v2]) (updN ns c n) (updN of c f) (updN tr c t):=by
 have hsz:=hgr.size
 have ez:(w.alloc o).heap.size=w.heap.size+1:=by simp
 have hk:∀k,k<w.heap.size→v.ownBlock≠some k→w4.heap[k]? =w.heap[k]? :=fun k hk hne=>(hgr.block k (by omega) (fun e=>hne e.symm)).trans (Below.heap_alloc w o k hk)
 have hlen:=h.len
 have keep:∀{v1 v2:Value} {n:Nat} {f:Nat→Int} {t:Nat→Nat→Int},0<n→TbV w v1 v2 n f t→TbV w4 v1 v2 n f t:=fun {v1 v2 n f t} hn ht=>by
  cases e:v.ownBlock with
  | none=>exact ht.below (B:=w.heap.size) ⟨hgr.os,hgr.tape,hgr.output,by omega,fun k hk2=>hk k hk2 (by rw[e];exact fun h=>by cases h)⟩ (Nat.le_refl _)
  | some k=>
   have hc:0<c:=by
    apply Classical.byContradiction
    intro h0
    rw[h.z (by omega)]at e
    cases e
   obtain⟨_,hm0,u1,u2,k1,_,k3⟩:=h.t 0 hc
   rw[Nat.zero_mul]at k1
   have hcell:=h.ow.cells e 0 _ k1
   obtain⟨g1,c1,_,_,_,e1,_⟩:=k3
   rw[e1,add_at]at hcell
   exact ht.grown hn (k:=k) hcell hm0 (by omega) (fun j hj hne=>hk j hj (fun h=>hne (by rw[e]at h;injection h with h;exact h.symm)))
 refine⟨hown,fun h=>by omega,fun i hi=> ?_,below_app h.bl h.ow hgr,by rw[List.length_append,hlen];show c*2+2=_;omega⟩
 by_cases hic:i=c
 ·subst hic
  rw[updN_here,updN_here,updN_here]
  refine⟨hn,hm,v1,v2, ?_, ?_,keep hn ht⟩
  ·rw[List.getElem?_append_right (by omega),hlen,Nat.sub_self];rfl
  ·rw[List.getElem?_append_right (by omega),hlen,Nat.add_sub_cancel_left];rfl
 ·rw[updN_else hic,updN_else hic,updN_else hic]
  obtain⟨a,b,u1,u2,k1,k2,k3⟩:=h.t i (by omega)
  exact⟨a,b,u1,u2,by rw[List.getElem?_append_left (by omega)];exact k1,by rw[List.getElem?_append_left (by omega)];exact k2,keep a k3⟩
theorem TL.view {W w:World}{v:Value}{c:Nat}{cs:List Value}{ns:Nat→Nat}{of:Nat→Nat→Int}{tr:Nat→Nat→Nat→Int}(h:TL W w v c cs ns of tr)(hc:0<c):∃g cap,v= .slice (some ⟨g,0,none⟩) c cap∧TsV w g c ns of tr:=by
 rcases ownsRow_shape h.ow with e | ⟨g,cap,e⟩
 ·exfalso
  obtain⟨a,q,e2⟩:=rowSlice h.ow
  rw[e]at e2
  injection e2 with _ e3 _
  omega
 ·refine⟨g,cap,e,fun i hi=> ?_,(h.ow.lt g (by rw[e];rfl)).2⟩
  obtain⟨_,_,v1,v2,k1,k2,k3⟩:=h.t i hi
  have a1:=h.ow.cells (g:=g) (by rw[e];rfl) _ _ k1
  have a2:=h.ow.cells (g:=g) (by rw[e];rfl) _ _ k2
  rw[add_at,Nat.zero_add]at a1 a2
  exact⟨v1,v2,a1,a2,k3⟩
attribute [local go_sem ↓] Go.wp_at_zero Go.wp_at_succ
set_option maxRecDepth 100000 in
set_option maxHeartbeats 4000000 in
theorem rcomp_any (t:ByteArray)(w:World):Calls Try.prog 38 #[.string t] w fun e w'=>e= .returned (.tuple #[.string ⟨(compP t).1.toArray⟩,.int .i64 (compP t).2])∧Below w.heap.size w w':=by
 obtain⟨hr1,hr2⟩:=read_parse t
 have HRA:=hidZ (fun w=>rread_any t w)
 cases hR:readR t with
 | mk o c=>
 cases o with
 | none=>
  obtain⟨hc0,hpc⟩:=hr1 c hR
  have HE:Hid (compP t=([],(c:Int))):=by
   rcases comp_cases t with⟨_,h2⟩ | ⟨h1,_⟩
   ·rw[←hpc];exact h2
   ·exfalso;rw[hpc]at h1;omega
  have HR:=hidZ hR
  have d1:((c:Int) !=0)=true:=by rw[bne_iff_ne];omega
  clear hR hr1 hr2 hpc hc0
  go_enter Try.func38,Try.ntmps38
  go_wp2_with fail
  refine(HRA.out _).mono ?_
  intro e w1 h1
  unfold ReadAt at h1
  rw[HR.out]at h1
  obtain⟨hb,rfl⟩:=h1
  have HB:=hidZ hb
  clear hb
  go_wp2
  go_ret2
  exact⟨by rw[HE.out];rfl,HB.out⟩
 | some ls=>
  obtain⟨hp0,hfx,hn10,hsz,hln⟩:=hr2 ls c hR
  obtain⟨o1,o2,o3⟩:=fileX_ok hfx
  rw[List.length_map]at o2 o3
  have hcn:=cnS_n hln hfx hn10
  obtain⟨m1,m4,_,_⟩:=nConds_ok (ls.map toX) o1 (by rw[npS_sum];exact hn10)
  have HMANY:Hid (∀(c n:Nat) (mk:Nat→Nat) (tr:Nat→Nat→Int),c<nConds (ls.map toX)→RTab (ls.map toX) c n mk tr→100<n→compP t=([],4)):=fun c n mk tr hc h hn=>ref_many hp0 hfx hc h hn
  have HIMG:Hid (∀(ns:Nat→Nat) (mk:Nat→Nat→Nat) (tr:Nat→Nat→Nat→Int),(∀c,c<nConds (ls.map toX)→RTab (ls.map toX) c (ns c) (mk c) (tr c))→(∀c,c<nConds (ls.map toX)→ns c≤100)→compP t=(wrL (ruX (ls.map toX)) (nConds (ls.map toX)) 256 (fun b=>b) ns mk tr,0)):=fun ns mk tr hT h100=>ref_img hp0 hfx hT h100
  have HLK:=hidZ (lines_ok hln)
  have HR:=hidZ hR
  have HO1:=hidZ o1
  rw[←hcn]at m1 m4 HMANY HIMG
  clear hR hr1 hr2 hp0 hfx hsz hln o1 hcn
  go_enter Try.func38,Try.ntmps38
  go_wp2_with fail
  refine(HRA.out _).mono ?_
  intro e w1 h1
  unfold ReadAt at h1
  rw[HR.out]at h1
  obtain⟨hb,fb,O,L,vN,vR,R,rfl,hfb,hfn,hok,hrm,h3⟩:=h1
  have hRl:=hrm.1
  have hLp:0<L.length:=by
   have h1:0<R.length:=by omega
   obtain⟨_,_,_,k⟩:=hrm.2 0 _ _ (List.getElem?_eq_getElem h1) (List.getElem?_eq_getElem (by omega))
   have:=k.1
   rw[nvN_len]at this
   omega
  obtain⟨gN,cN,_,hFR⟩:=hfn.read hLp
  obtain⟨gR,cR,hFU⟩:=hfn.rules hrm (by omega)
  have hfp:=file_p hrm hok hfn.cl o3 hn10 h3
  have c3:=hfn.c3
  have hfz:=hfn.wt.2
  have HFP:=hidZ hfp
  have HFR:=hidZ hFR
  have HFU:=hidZ hFU
  have HRM:=hidZ hrm
  have HB1:=hidZ hb
  have hzb:=hb.size
  have HRL:=hidZ hRl
  generalize cnS ls=M at*
  clear hb hfn hok hrm hFR hFU hfp hLp hRl HR HRA
  go_wp2_with fail
  refine(rlowest_any (by omega) HFR.out).mono ?_
  rintro e w2 ⟨vl,lw,rfl,hb2,hol,hlw,hlo⟩
  have hz2:=hb2.size
  obtain⟨al,cl,evl⟩:=rowSlice hol
  subst evl
  have HIL:=hidZ (own_IL hol hlw (by omega))
  have HLW:=hidZ hlw
  have HLO:=hidZ hlo
  have HFR2:=hidZ (HFR.out.below hb2 (Nat.le_refl _))
  have HFU2:=hidZ (HFU.out.below hb2 (Nat.le_refl _))
  have c32:=(hb2.cell (p:=⟨fb,3,none⟩) hfz).trans c3
  have hfz2:fb<w2.heap.size:=by omega
  have HB2:=hidZ (HB1.out.trans (hb2.mono HB1.out.size))
  clear hb2 hol hlw hlo HFR HFU c3 HB1 hfz
  go_wp2_with fail
  go_loopg [7,8] M (fun gk lv cv wr=>∃(c:Nat) (cs:List Value) (ns:Nat→Nat) (of:Nat→Nat→Int) (tr:Nat→Nat→Nat→Int),cv= .int .i64 (c:Int)∧c+gk=M∧TL w2 wr lv c cs ns of tr∧∀i,i<c→RTab (ls.map toX) i (ns i) (mkF (of i)) (tr i)∧(∀s,s<ns i→ -1≤of i s∧of i s<8))
  case atStart=>exact⟨0,[],_,_,_,rfl,by omega,TL.start w2,fun i hi=>by omega⟩
  case round=>
   obtain⟨c,cs,ns,of,tr,rfl,hcg,htl,hrt⟩:=hrel
   have HTL:=hidZ htl
   have HRT:=hidZ hrt
   have hzr:=htl.bl.size
   have c3r:=(htl.bl.cell (p:=⟨fb,3,none⟩) hfz2).trans c32
   obtain⟨av,cv,ev⟩:=rowSlice htl.ow
   subst ev
   clear htl hrt
   by_cases hlt:c<M
   ·obtain⟨d,rfl⟩:∃d,gk=d+1:=⟨gk - 1,by omega⟩
    have hd1:decide ((c:Int)<(M:Int))=true:=by simp;omega
    have HTA:=hidZ (rtable_any (cond:=c) HFP.out (by omega) (HFR2.out.below HTL.out.bl (Nat.le_refl _)) (HFU2.out.below HTL.out.bl (Nat.le_refl _)) (HIL.out.below HTL.out.bl (Nat.le_refl _)) HLW.out HLO.out)
    go_wp2_with fail
    refine HTA.out.mono ?_
    rintro e w3 ⟨v1,v2,n,f,tt,rfl,hb3,htb,hn1025,hti⟩
    have hrtab:=hti.rtab HRM.out
    have hof:=hti.2.1
    have hn0:=hti.1.au.pos
    have hz3:=hb3.size
    have HTB:=hidZ htb
    obtain⟨g1,c1,g2,c2,rw,e1,e2,_⟩:=htb
    subst e1 e2
    have HTL3:=hidZ (HTL.out.below hb3)
    have HRB:=hidZ hrtab
    have HOF:=hidZ hof
    have HBA:Hid (Below w3.heap.size w3 (w3.alloc (.cells #[.slice (some ⟨g1,0,none⟩) n c1,.slice (some ⟨g2,0,none⟩) n c2] 128))):=(Below.refl _ _).alloc (Nat.le_refl _) _
    have hq0:(w3.alloc (.cells #[.slice (some ⟨g1,0,none⟩) n c1,.slice (some ⟨g2,0,none⟩) n c2] 128)).cell? ⟨w3.heap.size,0,none⟩=some (.slice (some ⟨g1,0,none⟩) n c1):=(World.cell?_alloc_at _ _ _ 0 rfl).trans rfl
    have hq1:(w3.alloc (.cells #[.slice (some ⟨g1,0,none⟩) n c1,.slice (some ⟨g2,0,none⟩) n c2] 128)).cell? ⟨w3.heap.size,1,none⟩=some (.slice (some ⟨g2,0,none⟩) n c2):=(World.cell?_alloc_at _ _ _ 1 rfl).trans rfl
    clear hrtab hof hti hb3 HTA HTL c3r
    go_upto_region 10 with fail
    generalize w3.alloc (.cells #[.slice (some ⟨g1,0,none⟩) n c1,.slice (some ⟨g2,0,none⟩) n c2] 128)=W4 at*
    have HTL4:=hidZ (HTL3.out.below HBA.out)
    have HTB4:=hidZ (HTB.out.below HBA.out (Nat.le_refl _))
    have hz4:=HTL4.out.bl.size
    clear HTL3 HTB
    by_cases hbig:100<n
    ·have HE:=hidZ (HMANY.out c n _ _ hlt HRB.out hbig)
     have hd2:decide ((100:Int)<(n:Int))=true:=by simp;omega
     clear hbig
     go_wp2
     go_ret2
     exact⟨by rw[HE.out];rfl,HB2.out.trans (HTL4.out.bl.mono HB2.out.size)⟩
    ·have hd2:decide ((100:Int)<(n:Int))=false:=by simp;omega
     have HRG:Hid (W4.rangeAt w3.heap.size 0 [.slice (some ⟨g1,0,none⟩) n c1,.slice (some ⟨g2,0,none⟩) n c2]):=fun i v hv=>by
      rcases i with _ | _ | i
      ·simp at hv;subst hv;exact hq0
      ·simp at hv;subst hv;exact hq1
      ·simp at hv
     have hn100:n≤100:=by omega
     clear hbig
     go_wp2_with (first
      | (refine wpList_load_mid rfl 128 (.tmp 9) rfl w3.heap.size 0 rfl [.slice (some ⟨g1,0,none⟩) n c1,.slice (some ⟨g2,0,none⟩) n c2] _ HRG.out Try.underlying128 rfl Try.tableSize ?_)
      | (at_builtin;refine wpList_app1 W4 rfl (.tmp 37) (.tmp 39) 122 rfl w2.heap.size 128 (.agg #[.slice none 0 0,.slice none 0 0]) 2 48 Try.underlying122 Try.infoTableR rfl (by decide) (by decide) (.slice av c cv) c cs [.slice (some ⟨g1,0,none⟩) n c1,.slice (some ⟨g2,0,none⟩) n c2] _ rfl HTL4.out.ow _ rfl rfl rfl (by simp[Value.oneCell']) (by omega) (by omega) ?_;intro g5 cap5 w5 hown5 hgrow5 hat5 hlt5;have HT5:=hidZ (HTL4.out.push hn0 hn100 HTB4.out hown5 hgrow5);clear hown5 hgrow5 hat5))
     go_roundg d
     case measure=>omega
     case rel=>exact⟨c+1,_,_,_,_,by go_num,by omega,HT5.out,fun i hi=>by
      by_cases e:i=c
      ·subst e;rw[updN_here,updN_here,updN_here];exact⟨HRB.out,HOF.out⟩
      ·rw[updN_else e,updN_else e,updN_else e];exact HRT.out i (by omega)⟩
   ·have e:gk=0:=by omega
    subst e
    have e:c=M:=by omega
    subst e
    have hd1:decide ((c:Int)<(c:Int))=false:=by simp
    obtain⟨g,cap,ev,hts⟩:=HTL.out.view (by omega)
    injection ev with e1 _ e3
    subst e1 e3
    have HE:=hidZ (HIMG.out ns _ tr (fun i hi=>(HRT.out i hi).1) (fun i hi=>(HTL.out.t i hi).2.1))
    have HWR:=hidZ (rwritten_any (cap:=cv) (ru:=ruX (ls.map toX)) (HFU2.out.below HTL.out.bl (Nat.le_refl _)) c3r hts m4 (fun i hi=>(HTL.out.t i hi).2.1) (by have:=HRL.out;omega) (fun x hx=>by
      obtain⟨j,hj,ej⟩:=List.getElem_of_mem hx
      have hj2:j<ls.length:=by rw[←HRL.out];exact hj
      obtain⟨_,_,k3,_⟩:=HRM.out.2 j x _ (by rw[List.getElem?_eq_getElem hj,ej]) (List.getElem?_eq_getElem hj2)
      rw[k3]
      exact(HLK.out _ (List.getElem_mem hj2)).th) (by rw[ruX_len,List.length_map,HRL.out]) (fun k x hx=>by
      have hj2:k<ls.length:=by rw[←HRL.out];exact(List.getElem?_eq_some_iff.1 hx).1
      have hy:=List.getElem?_eq_getElem hj2
      obtain⟨_,_,k3,_⟩:=HRM.out.2 k x _ hx hy
      have e1:=ruX_be (l:=ls.map toX) HO1.out (i:=k) (x:=toX (ls[k]'hj2)) (by rw[List.getElem?_map,hy];rfl)
      have e2:=(thenR_N (HLK.out _ (List.getElem_mem hj2))).1
      rw[k3]
      have e1:(behF (ruX (ls.map toX)) k:Int)=thenN (ls[k]'hj2).2.2.1:=e1
      omega) (fun i s hi hs=>(HRT.out i hi).2 s hs) (fun i s b hi hs hb=>(HRT.out i hi).1.cn.au.rng s b hs hb))
    have HBT:=hidZ HTL.out.bl
    clear HTL HRT hts
    go_wp2_with fail
    refine HWR.out.mono ?_
    rintro e w5 ⟨rfl,hb5⟩
    have HB5:=hidZ (bel_join HBT.out hb5)
    clear hb5
    go_wp2
    go_ret2
    exact⟨by rw[HE.out];rfl,HB2.out.trans (HB5.out.mono HB2.out.size)⟩
end Go.Proofs.Ytgjgjgihceijnaa

namespace Go.Proofs.Ytgjgjgihceijnaa
open Go.RowKit Go.Stn
set_option maxRecDepth 100000 in
theorem compiled_any (t:ByteArray)(w:World):
  Calls Try.prog 12 #[.string t] w fun e w'=>e= .returned (.bool true)∧Below w.heap.size w w':=by
 have HP:=hidZ (fun w=>comp_any t w)
 have HR:=hidZ (fun w=>rcomp_any t w)
 generalize (compP t).2=n at*
 generalize (⟨(compP t).1.toArray⟩:ByteArray)=s at*
 have d2:(n==n)=true:=by simp
 go_enter Try.func12,Try.ntmps12
 go_wp2_with fail
 refine(HP.out _).mono ?_
 rintro e w1 ⟨rfl,hb1⟩
 have HB1:=hidZ hb1
 clear hb1
 go_wp2_with fail
 refine(HR.out _).mono ?_
 rintro e w2 ⟨rfl,hb2⟩
 have HB2:=hidZ (HB1.out.trans (hb2.mono HB1.out.size))
 clear hb2
 go_wp2_with fail
 refine(num_any _ _).mono ?_
 rintro e w3 ⟨rfl,hw3⟩
 rw[hw3]
 go_wp2
 go_ret
 exact⟨by simp,HB2.out⟩
theorem known_any (w:World):Calls Try.prog 11 #[] w fun e w'=>e= .returned (.bool true)∧Below w.heap.size w w':=by
 have HC:=hidZ (fun w=>compiled_any ⟨#[65,32,97,32,46]⟩ w)
 go_enter Try.func11,Try.ntmps11
 go_wp2_with fail
 refine(HC.out _).mono ?_
 rintro e w1 ⟨rfl,hb1⟩
 go_wp2
 go_ret
 exact⟨rfl,hb1⟩
end Go.Proofs.Ytgjgjgihceijnaa

