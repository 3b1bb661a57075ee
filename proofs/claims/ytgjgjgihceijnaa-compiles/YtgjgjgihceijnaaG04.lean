/- Texts put together: StGather, StPure2, StMerge, RfSteps, RfPure2. -/
import Derived.Test.YtgjgjgihceijnaaG03
import Derived.Test.YtgjgjgihceijnaaG02
import Derived.Test.YtgjgjgihceijnaaG01
namespace Go.Proofs.Ytgjgjgihceijnaa
open Go.RowKit Go.Stn
def StatesOut (w:World)(K:Nat)(l:List (Nat×List Int))(e:Ending)(w':World):Prop:=
 ∃(B:Nat) (zs:List ((Nat×List Int)×Nat)),w.heap.size≤B∧e= .returned (.slice (some ⟨B,0,none⟩) zs.length zs.length)∧zs.map (·.1)=l∧
   w'.ownsRow B 153 2 (.slice (some ⟨B,0,none⟩) zs.length zs.length) zs.length (stC K zs)∧StRows w' (B+1) zs∧Below w.heap.size w w'
set_option maxRecDepth 100000 in
set_option maxHeartbeats 1000000 in
theorem sgather_any (fin firsts:List Nat)(g n cap K pg pcap fg fcap:Nat)(zb tk:Nat→Nat)(nx:Nat→Nat→Int)(w:World)(hK:K≤300)(hf:firsts.length≤100)(hfn:∀x∈firsts,x<n)
  (hr:∀i k,i<n→k<K→nx i k= -1∨(0≤nx i k∧nx i k<n)) (hS:SIn w w.heap.size g n K zb tk nx) (hP:NIn w pg n (listF fin)) (hpg:pg<w.heap.size) (hF:NIn w fg firsts.length (listF firsts)) (hfg:fg<w.heap.size):
  Calls Try.prog 96 #[.slice (some ⟨g,0,none⟩) n cap,.slice (some ⟨pg,0,none⟩) n pcap,.slice (some ⟨fg,0,none⟩) firsts.length fcap] w fun e w'=>StatesOut w K (gatherP tk nx K fin firsts) e w':=by
 obtain⟨i0,hi0,hz0,hz1,hz2⟩:=info_parts Try.infoInt
 have HI:Hid (Try.prog.info? 3=some i0∧i0.zero=some (.int .i64 0)∧i0.size=1∧i0.bytes=8):=⟨hi0,hz0,hz1,hz2⟩
 clear hi0 hz0 hz1 hz2
 obtain⟨i1,hi0,hz0,hz1,hz2⟩:=info_parts Try.infoState
 have HI1:Hid (Try.prog.info? 153=some i1∧i1.zero=some (.agg #[.int .i64 0,.slice none 0 0])∧i1.size=2∧i1.bytes=32):=⟨hi0,hz0,hz1,hz2⟩
 clear hi0 hz0 hz1 hz2
 have HS:=hidZ hS
 have HP:=hidZ hP
 have HR:=hidZ hr
 have HF:=hidZ hF
 have HFN:=hidZ hfn
 clear hS hP hr hF hfn
 obtain⟨m,hm⟩:∃m,firsts.length=m:=⟨_,rfl⟩
 rw[hm]at hf ⊢
 replace hm:=hidZ hm
 go_enter Try.func96,Try.ntmps96
 go_wp2_with (first | (at_make;refine wpList_make_own w rfl _ _ 143 rfl w.heap.size 153 i1 _ 2 Try.underlying143 HI1.out.1 HI1.out.2.1 HI1.out.2.2.1 .i64 .i64 _ m rfl rfl rfl (by rw[HI1.out.2.2.2];omega) (by unfold maxLen;omega) (Nat.le_refl _) ?_;intro w2 hown hg))
 have HB2:Hid (Below w.heap.size w w2):=⟨hg.os,hg.tape,hg.output,hg.size,fun k hk=>hg.block k hk (by simp)⟩
 have HO2:=hidZ hown
 clear hown hg
 obtain⟨B,hBw⟩:∃B,w.heap.size=B:=⟨_,rfl⟩
 rw[hBw]at HB2 HO2 hpg hfg HS ⊢
 go_loopg [7,19] m (fun gk x iv wr=>∃(zs:List ((Nat×List Int)×Nat)) (k:Nat),x= .slice (some ⟨B,0,none⟩) k m∧iv= .int .i64 (k:Int)∧zs.length=k∧k+gk=m∧zs.map (·.1)=gatherP tk nx K fin (firsts.take k)∧
  wr.ownsRow B 153 2 (.slice (some ⟨B,0,none⟩) k m) k (stC K zs)∧StRows wr (B+1) zs∧Below B w wr)
 case atStart=>exact⟨[],0,rfl,rfl,rfl,by omega,by simp[gatherP],HO2.out,StRows.nil _ _,HB2.out⟩
 case round=>
  obtain⟨zs,k,rfl,rfl,hzl,hkm,heq,hown,hrow,hb⟩:=hrel
  have HQ:=hidZ heq
  have HO:=hidZ hown
  have HW:=hidZ hrow
  have HB:=hidZ hb
  have HX:=hidZ hzl
  have hsz:B<wr.heap.size:=(hown.lt B rfl).2
  clear heq hown hb hzl hrow HO2 HB2
  by_cases hlt:k<m
  ·obtain⟨g',rfl⟩:∃g',gk=g'+1:=⟨gk - 1,by omega⟩
   have hkf:k<firsts.length:=by rw[hm.out];exact hlt
   have c1:=(HF.out.below HB.out hfg) k hkf
   have hsn:=getD_lt HFN.out hkf
   have HTK:Hid (gatherP tk nx K fin (firsts.take (k+1))=gatherP tk nx K fin (firsts.take k)++ [(tk (firsts.getD k 0),(List.range K).map fun g=>prtP (listF fin) (nx (firsts.getD k 0) g))]):=by
    unfold Hid gatherP
    rw[List.take_add_one,List.getElem?_eq_getElem hkf,List.map_append,List.getD_eq_getElem?_getD,List.getElem?_eq_getElem hkf];rfl
   have HL:Hid (listF firsts k=((firsts.getD k 0:Nat):Int)):=rfl
   rw[HL.out]at c1
   generalize firsts.getD k 0=s at*
   have HSr:=hidZ (HS.out.below HB.out (by omega))
   have HPr:=hidZ (HP.out.below HB.out hpg)
   have c2:=HSr.out.nxc s hsn
   have hd1:decide ((k:Int)<(m:Int))=true:=by simp;omega
   have hkI:(0:Int)≤(k:Int)∧(k:Int)<(m:Int):=by omega
   have hsI:(0:Int)≤(s:Int)∧(s:Int)<(n:Int):=by omega
   have hgw:g<wr.heap.size:=by have:=HSr.out.bg;omega
   clear hkf
   go_wp2_with (first | (at_make;refine wpList_make_own wr rfl _ _ 30 rfl wr.heap.size 3 i0 (.int .i64 0) 1 Try.underlying30 HI.out.1 HI.out.2.1 HI.out.2.2.1 .i64 .i64 _ K rfl rfl rfl (by rw[HI.out.2.2.2];omega) (by unfold maxLen;omega) (Nat.le_refl _) ?_;intro w4 hown4 hg4;have HB4:Hid (Below wr.heap.size wr w4):=(⟨hg4.os,hg4.tape,hg4.output,hg4.size,fun k hk=>hg4.block k hk (by simp)⟩:Below wr.heap.size wr w4);have c3:=(HB4.out.cell (p:=⟨g,s*2+1,none⟩) hgw).trans c2;clear c1 c2))
   have HO4:=hidZ hown4
   have HS4:=hidZ (HSr.out.below HB4.out (by omega))
   have HP4:=hidZ (HPr.out.below HB4.out (by omega))
   clear hown4 hg4
   obtain⟨C,hC⟩:∃C,wr.heap.size=C:=⟨_,rfl⟩
   rw[hC]at HB4 HO4 hsz ⊢
   clear c3
   go_loopg [10,36] K (fun gj x iv wj=>∃(xs:List Int) (j:Nat),x= .slice (some ⟨C,0,none⟩) j K∧iv= .int .i64 (j:Int)∧j+gj=K∧xs=(List.range j).map (fun g=>prtP (listF fin) (nx s g))∧
    wj.ownsRow C 3 1 (.slice (some ⟨C,0,none⟩) j K) j (intC xs)∧Below C wr wj)
   case atStart=>exact⟨[],0,rfl,rfl,by omega,rfl,HO4.out,HB4.out⟩
   case round=>
    obtain⟨xs,j,rfl,rfl,hjk,hxs,hown,hb⟩:=hrel
    have HXS:=hidZ hxs
    have HOJ:=hidZ hown
    have HBJ:=hidZ hb
    have HXS:=hidZ hxs
    have HOJ:=hidZ hown
    have HBJ:=hidZ hb
    have hszj:C<wr.heap.size:=(hown.lt C rfl).2
    have HSj:=hidZ (HSr.out.below hb (by omega))
    have HPj:=hidZ (HPr.out.below hb (by omega))
    clear hxs hown hb HO4 HB4
    by_cases hltj:j<K
    ·obtain⟨j',rfl⟩:∃j',gk=j'+1:=⟨gk - 1,by omega⟩
     have c5:=HSj.out.ldc s j hsn hltj
     have hc:=spartOf_any (listF fin) pg n pcap (nx s j) wr (HR.out s j hsn hltj) HPj.out
     have HXN:Hid ((List.range (j+1)).map (fun g=>prtP (listF fin) (nx s g))=xs++ [prtP (listF fin) (nx s j)]):=by unfold Hid;rw[List.range_succ,List.map_append,HXS.out];rfl
     generalize nx s j=x1 at*
     generalize prtP (listF fin) x1=y at*
     have hdj:decide ((j:Int)<(K:Int))=true:=by simp;omega
     have hjI:(0:Int)≤(j:Int)∧(j:Int)<(K:Int):=by omega
     go_wp2_with fail
     refine hc.mono ?_
     rintro e w5 ⟨rfl,rfl⟩
     go_wp2_with (first | (at_builtin;refine wpList_fits1 w5 rfl _ _ 30 rfl C 3 (.int .i64 0) 1 8 Try.underlying30 Try.infoInt C j K (intC xs) [.int .i64 y] _ rfl HOJ.out _ rfl rfl rfl (by simp[Value.oneCell']) (by omega) ?_;intro w6 hown6 hgrow6))
     go_roundg j'
     case measure=>omega
     case rel=>
      exact⟨xs++ [y],j+1,rfl,by go_num,by omega,HXN.out.symm,by rw[intC_snoc];exact hown6,(HBJ.out.alloc (Nat.le_of_lt hszj) _).grown hgrow6 (Nat.le_trans (Nat.le_of_lt hszj) (by simp)) (fun q hq=>by injection hq;omega)⟩
    ·have e:j=K:=by omega
     subst e
     have e2:gk=0:=by omega
     subst e2
     have hdj:decide ((j:Int)<(j:Int))=false:=by simp
     have c5:=HSj.out.tkc s hsn
     have HOB:Hid (wr.ownsRow B 153 2 (.slice (some ⟨B,0,none⟩) k m) k (stC j zs)):=hidZ (row_top HO.out (fun q hq=>HBJ.out.block q (by simp[Value.ownBlock]at hq;omega)))
     have HWB:Hid (StRows wr (B+1) zs):=HW.out.below HBJ.out (by omega)
     have HBB:Hid (Below B w wr):=HB.out.trans (HBJ.out.mono (by omega))
     have HRW:=hidZ (row_range HOJ.out)
     generalize tk s=tks at*
     go_wp2_with (first | (at_builtin;refine wpList_fits1 wr rfl _ _ 143 rfl B 153 (.agg #[.int .i64 0,.slice none 0 0]) 2 32 Try.underlying143 Try.infoState B k m (stC j zs) [.int .i64 (tks:Int),.slice (some ⟨C,0,none⟩) j j] _ rfl HOB.out _ rfl rfl rfl (by simp[Value.oneCell']) (by omega) ?_;intro w6 hown6 hgrow6))
     go_roundg g'
     case measure=>omega
     case rel=>
      have hsz7:=hgrow6.size
      simp at hsz7
      refine⟨zs++ [((tks,xs),C)],k+1,rfl,by go_num,by simp[HX.out],by omega, ?_,by rw[stC_snoc];exact hown6, ?_, ?_⟩
      ·rw[List.map_append,HTK.out,HQ.out,←HXS.out];rfl
      ·refine((HWB.out.grown (grown_alloc2 (World.grownBy.refl _ (some B)) _) (by omega)).snoc ⟨by omega,by simp;omega, ?_⟩).grown hgrow6 (by omega)
       exact rangeAt_block HRW.out (Below.heap_alloc wr _ C hszj)
      ·exact(HBB.out.alloc (by omega) _).grown hgrow6 (Nat.le_trans (Nat.le_of_lt (show B<wr.heap.size by omega)) (by simp)) (fun q hq=>by injection hq;omega)
  ·have e:k=m:=by omega
   subst e
   have hd1:decide ((k:Int)<(k:Int))=false:=by simp
   go_wp2
   go_ret
   have hx:=HX.out
   subst hx
   refine⟨B,zs,by rw[hBw];exact Nat.le_refl _,rfl, ?_,HO.out,HW.out,by rw[hBw];exact HB.out⟩
   rw[HQ.out,←hm.out,List.take_length]
end Go.Proofs.Ytgjgjgihceijnaa

namespace Go.Stn
theorem pigeon:∀(k m:Nat) (f:Nat→Nat),(∀i,i<m→f i<k)→(∀i j,i<m→j<m→f i=f j→i=j)→m≤k:=by
 intro k
 induction k with
 | zero=>
  intro m f h _;cases m with
  | zero=>exact Nat.le_refl _
  | succ n=>have:=h 0 (by omega);omega
 | succ k ih=>
  intro m f h hi
  cases m with
  | zero=>omega
  | succ n=>
   have:=ih n (fun j=>if f j=k then f n else f j) (fun i hin=>by
    by_cases e:f i=k
    ·simp only[if_pos e]
     have h1:=h n (by omega)
     have h2:f n≠k:=fun h3=>by have:=hi i n (by omega) (by omega) (by omega);omega
     omega
    ·simp only[if_neg e]
     have:=h i (by omega);omega) (fun i j hin hjn he=>by
    by_cases e1:f i=k<;> by_cases e2:f j=k
    ·exact hi i j (by omega) (by omega) (by omega)
    ·simp only[if_pos e1,if_neg e2]at he
     have:=hi n j (by omega) (by omega) he;omega
    ·simp only[if_neg e1,if_pos e2]at he
     have:=hi i n (by omega) (by omega) he;omega
    ·simp only[if_neg e1,if_neg e2]at he
     exact hi i j (by omega) (by omega) he)
   omega
theorem getD_app_lt {l:List Nat}{i x:Nat}(h:i<l.length):(l++ [x]).getD i 0=l.getD i 0:=by
 rw[List.getD_eq_getElem?_getD,List.getD_eq_getElem?_getD,List.getElem?_append_left h]
theorem getD_app_end {l:List Nat}{x:Nat}:(l++ [x]).getD l.length 0=x:=by
 rw[List.getD_eq_getElem?_getD,List.getElem?_append_right (Nat.le_refl _)];simp
theorem firstP_q {q:Nat→Nat→Bool}{l:List Nat}{s:Nat}:∀d,d≤l.length→firstP q l s d<l.length→q (l.getD (firstP q l s d) 0) s=true:=by
 intro d
 induction d with
 | zero=>intro _ h;rw[firstP]at h;omega
 | succ k ih=>
  intro hd h
  rw[firstP]at h ⊢
  split
  ·assumption
  ·rename_i hn
   rw[if_neg hn]at h
   exact ih (by omega) h
structure PI (q:Nat→Nat→Bool)(s:Nat)(fin firsts:List Nat):Prop where
 len:fin.length=s
 cl:∀x,x<s→fin.getD x 0<firsts.length∧(firsts.getD (fin.getD x 0) 0=x∨q (firsts.getD (fin.getD x 0) 0) x=true)
 rep:∀f,f<firsts.length→firsts.getD f 0<s∧fin.getD (firsts.getD f 0) 0=f
theorem partL_inv {q:Nat→Nat→Bool}:∀d s fin firsts,PI q s fin firsts→(partL q d s fin firsts).2.length≤100→PI q (s+d) (partL q d s fin firsts).1 (partL q d s fin firsts).2:=by
 intro d
 induction d with
 | zero=>intro s fin firsts h _;exact h
 | succ k ih=>
  intro s fin firsts h hl
  rw[partL]at hl ⊢
  by_cases hf:firstP q firsts s firsts.length=firsts.length
  ·rw[if_pos hf]at hl ⊢
   by_cases h100:100<firsts.length+1
   ·rw[if_pos h100]at hl;simp at hl;omega
   ·rw[if_neg h100]at hl ⊢
    rw[show s+(k+1)=s+1+k by omega]
    refine ih (s+1) _ _ ⟨by simp[h.len],fun x hx=> ?_,fun f hff=> ?_⟩ hl
    ·by_cases e:x=s
     ·subst e
      rw[show(fin++ [firsts.length]).getD x 0=firsts.length by have:= @getD_app_end fin firsts.length;rw[h.len]at this;exact this]
      refine⟨by simp,.inl getD_app_end⟩
     ·have hx':x<s:=by omega
      obtain⟨h1,h2⟩:=h.cl x hx'
      rw[getD_app_lt (by rw[h.len];exact hx'),getD_app_lt h1]
      exact⟨Nat.lt_of_lt_of_le h1 (by simp),h2⟩
    ·simp at hff
     by_cases e:f=firsts.length
     ·subst e
      rw[getD_app_end]
      refine⟨by omega, ?_⟩
      have:= @getD_app_end fin firsts.length;rw[h.len]at this;exact this
     ·have hf':f<firsts.length:=by omega
      obtain⟨h1,h2⟩:=h.rep f hf'
      rw[getD_app_lt hf',getD_app_lt (by rw[h.len];exact h1)]
      exact⟨by omega,h2⟩
  ·rw[if_neg hf]at hl ⊢
   have hlt:firstP q firsts s firsts.length<firsts.length:=by have:=firstP_le q firsts s firsts.length;omega
   have hq:=firstP_q _ (Nat.le_refl _) hlt
   rw[show s+(k+1)=s+1+k by omega]
   refine ih (s+1) _ _ ⟨by simp[h.len],fun x hx=> ?_,fun f hff=> ?_⟩ hl
   ·by_cases e:x=s
    ·subst e
     rw[show(fin++ [firstP q firsts x firsts.length]).getD x 0=firstP q firsts x firsts.length by have:= @getD_app_end fin (firstP q firsts x firsts.length);rw[h.len]at this;exact this]
     exact⟨hlt,.inr hq⟩
    ·have hx':x<s:=by omega
     obtain⟨h1,h2⟩:=h.cl x hx'
     rw[getD_app_lt (by rw[h.len];exact hx')]
     exact⟨h1,h2⟩
   ·obtain⟨h1,h2⟩:=h.rep f hff
    rw[getD_app_lt (by rw[h.len];exact h1)]
    exact⟨by omega,h2⟩
theorem partP_inv {n:Nat}{q:Nat→Nat→Bool}(h:(partP n q).2.length≤100):PI q n (partP n q).1 (partP n q).2:=by
 have:=partL_inv (q:=q) n 0 [] [] ⟨rfl,fun x hx=>by omega,fun f hf=>by simp at hf⟩ h
 rw[Nat.zero_add]at this;exact this
def okParts (n:Nat)(parts:List Nat)(count:Nat):Prop:=parts.length=n∧∀f,f<count→∃s,s<n∧parts.getD s 0=f
theorem okParts_next {n:Nat}{q:Nat→Nat→Bool}(h:(partP n q).2.length≤100):okParts n (partP n q).1 (partP n q).2.length:=by
 have hp:=partP_inv h
 exact⟨hp.len,fun f hf=>⟨_,(hp.rep f hf).1,(hp.rep f hf).2⟩⟩
theorem parts_grow {n:Nat}{parts:List Nat}{count:Nat}{q:Nat→Nat→Bool}(h0:okParts n parts count)(hq:∀s t,q s t=true→parts.getD s 0=parts.getD t 0)(h:(partP n q).2.length≤100):count≤(partP n q).2.length:=by
 have hp:=partP_inv h
 refine pigeon _ _ (fun f=>if hf:f<count then(partP n q).1.getD (Classical.choose (h0.2 f hf)) 0 else 0) (fun i hi=> ?_) (fun i j hi hj he=> ?_)
 ·simp only[dif_pos hi]
  exact(hp.cl _ (Classical.choose_spec (h0.2 i hi)).1).1
 ·simp only[dif_pos hi,dif_pos hj]at he
  have si:=Classical.choose_spec (h0.2 i hi)
  have sj:=Classical.choose_spec (h0.2 j hj)
  generalize Classical.choose (h0.2 i hi)=a at*
  generalize Classical.choose (h0.2 j hj)=b at*
  have ha:=(hp.cl a si.1).2
  have hb:=(hp.cl b sj.1).2
  rw[←he]at hb
  have e1:parts.getD ((partP n q).2.getD ((partP n q).1.getD a 0) 0) 0=parts.getD a 0:=by
   rcases ha with h1 | h1
   ·rw[h1]
   ·exact hq _ _ h1
  have e2:parts.getD ((partP n q).2.getD ((partP n q).1.getD a 0) 0) 0=parts.getD b 0:=by
   rcases hb with h1 | h1
   ·rw[h1]
   ·exact hq _ _ h1
  rw[←si.2,←sj.2,←e1,←e2]
theorem alikeB_part {parts:List Nat}{tk:Nat→Nat}{nx:Nat→Nat→Int}{K s t:Nat}(h:alikeB (listF parts) tk nx K s t=true):parts.getD s 0=parts.getD t 0:=by
 unfold alikeB at h
 simp only[Bool.and_eq_true,decide_eq_true_eq]at h
 have:=h.1
 unfold listF at this
 omega
def mergeP (n:Nat)(tk:Nat→Nat)(nx:Nat→Nat→Int)(K:Nat):Option (List (Nat×List Int)):=
 (mergeL n tk nx K 102 (List.replicate n 0) 0).map fun x=>gatherP tk nx K x.1 x.2
end Go.Stn

namespace Go.Proofs.Ytgjgjgihceijnaa
open Go.RowKit Go.Stn
theorem madeInt_n (n:Nat):(madeCells (Value.int .i64 0).cells (n*1)).toList=(List.replicate n (0:Nat)).map (fun(_:Nat)=>Value.int .i64 0):=by
 have h:∀i:Nat,(Value.int .i64 0).cells[i % (Value.int .i64 0).cells.size]! =Value.int .i64 0:=by
  intro i
  have e:i % (Value.int .i64 0).cells.size=0:=by simp[Value.cells,Nat.mod_one]
  rw[e];simp[Value.cells]
 unfold madeCells
 rw[Nat.mul_one]
 simp only[h,Array.toList_map,Array.toList_range]
 rw[List.map_replicate,List.eq_replicate_iff]
 exact⟨by simp,by intro b hb;simp at hb;exact hb.2.symm⟩
theorem sin_top {w:World}{top top' g n K:Nat}{zb tk:Nat→Nat}{nx:Nat→Nat→Int}(h:SIn w top g n K zb tk nx)(ht:top≤top'):SIn w top' g n K zb tk nx:=
 ⟨h.tkc,h.nxc,h.ldc,Nat.lt_of_lt_of_le h.bg ht,fun s hs=>Nat.lt_of_lt_of_le (h.bz s hs) ht⟩
def MergeOut (w:World)(K:Nat):Option (List (Nat×List Int))→Ending→World→Prop
 | none,e,w'=>e= .returned (.tuple #[.slice none 0 0,.bool false])∧Below w.heap.size w w'
 | some l,e,w'=>∃v,StatesOut w K l (.returned v) w'∧e= .returned (.tuple #[v,.bool true])
set_option maxRecDepth 100000 in
set_option maxHeartbeats 1000000 in
theorem smerge_any (g n cap K:Nat)(zb tk:Nat→Nat)(nx:Nat→Nat→Int)(w:World)(hn:n≤2000)(hK:K≤300)
  (hr:∀i k,i<n→k<K→nx i k= -1∨(0≤nx i k∧nx i k<n)) (hS:SIn w w.heap.size g n K zb tk nx):
  Calls Try.prog 65 #[.slice (some ⟨g,0,none⟩) n cap] w fun e w'=>MergeOut w K (mergeP n tk nx K) e w':=by
 obtain⟨i0,hi0,hz0,hz1,hz2⟩:=info_parts Try.infoInt
 have HI:Hid (Try.prog.info? 3=some i0∧i0.zero=some (.int .i64 0)∧i0.size=1∧i0.bytes=8):=⟨hi0,hz0,hz1,hz2⟩
 clear hi0 hz0 hz1 hz2
 have HS:=hidZ hS
 have HR:=hidZ hr
 clear hS hr
 go_enter Try.func65,Try.ntmps65
 go_wp2_with (first | (at_make;refine wpList_make_full w rfl _ _ 30 rfl w.heap.size 3 i0 (.int .i64 0) 1 Try.underlying30 HI.out.1 HI.out.2.1 HI.out.2.2.1 .i64 .i64 _ _ n rfl rfl rfl rfl (by rw[HI.out.2.2.2];omega) (by unfold maxLen;omega) (Nat.le_refl _) ?_;intro w1 hown hg))
 have HN1:Hid (NIn w1 w.heap.size n (listF (List.replicate n 0))):=fun i hi=>by
  have h1:=hown.cells rfl i (.int .i64 0) (by
   rw[madeInt_n,List.getElem?_map,List.getElem?_replicate,if_pos hi];rfl)
  have e:listF (List.replicate n 0) i=0:=by unfold listF;rw[List.getD_eq_getElem?_getD,List.getElem?_replicate,if_pos hi];rfl
  rw[e]
  by_cases hj:i=0
  ·subst hj;simpa[Addr.add]using h1
  ·simpa[Addr.add,hj]using h1
 have HB1:Hid (Below w.heap.size w w1):=⟨hg.os,hg.tape,hg.output,hg.size,fun k hk=>hg.block k hk (by simp)⟩
 have hz1:w.heap.size<w1.heap.size:=(hown.lt w.heap.size rfl).2
 clear hown hg
 obtain⟨MP,EMP⟩:∃m,mergeL n tk nx K 102 (List.replicate n 0) 0=m:=⟨_,rfl⟩
 have HMP:Hid (mergeP n tk nx K=MP.map fun x=>gatherP tk nx K x.1 x.2):=by unfold Hid mergeP;rw[EMP]
 replace EMP:=hidZ EMP
 go_loopg [4,5] 102 (fun gk pv cv wr=>∃(parts:List Nat) (count pg pcap:Nat),pv= .slice (some ⟨pg,0,none⟩) n pcap∧cv= .int .i64 (count:Int)∧count≤100∧102≤count+gk∧okParts n parts count∧MP=mergeL n tk nx K gk parts count∧
  NIn wr pg n (listF parts)∧pg<wr.heap.size∧Below w.heap.size w wr)
 case atStart=>exact⟨List.replicate n 0,0,w.heap.size,n,rfl,rfl,by omega,by omega,⟨by simp,fun f hf=>by omega⟩,EMP.out.symm,HN1.out,hz1,HB1.out⟩
 case round=>
  obtain⟨parts,count,pg,pcap,rfl,rfl,hc,hcg,hok,heq,hnp,hpg,hb⟩:=hrel
  have HQ:=hidZ heq
  have HN:=hidZ hnp
  have HB:=hidZ hb
  have HOK:=hidZ hok
  clear heq hnp hb hok HN1 HB1
  obtain⟨f,rfl⟩:∃f,gk=f+1:=⟨gk - 1,by omega⟩
  have HSr:=hidZ (HS.out.below HB.out (Nat.le_refl _))
  have hpc:=spart_any (listF parts) g n cap K pg pcap zb tk nx wr hn hK HR.out (sin_top HSr.out HB.out.size) HN.out hpg
  have hpl:=partL_len (alikeB (listF parts) tk nx K) n 0 [] []
  have hgrow:=fun h=>parts_grow (q:=alikeB (listF parts) tk nx K) HOK.out (fun s t=>alikeB_part) h
  have hnext:=fun h=> @okParts_next n (alikeB (listF parts) tk nx K) h
  have hinv:=fun h=> @partP_inv n (alikeB (listF parts) tk nx K) h
  have hml:mergeL n tk nx K (f+1) parts count=if 100<(partP n (alikeB (listF parts) tk nx K)).2.length then none
   else if(partP n (alikeB (listF parts) tk nx K)).2.length=count then some (partP n (alikeB (listF parts) tk nx K))
   else mergeL n tk nx K f (partP n (alikeB (listF parts) tk nx K)).1 (partP n (alikeB (listF parts) tk nx K)).2.length:=rfl
  have HPL:Hid (partL (alikeB (listF parts) tk nx K) n 0 [] []=partP n (alikeB (listF parts) tk nx K)):=rfl
  rw[HPL.out]at hpl
  generalize partP n (alikeB (listF parts) tk nx K)=PP at*
  obtain⟨fin,firsts⟩:=PP
  simp only at*
  have hfl:firsts.length≤2000:=by have:=hpl.1;simp at this;omega
  go_wp2_with fail
  refine hpc.mono ?_
  rintro e w3 ⟨g1,c1,g2,c2,rfl,hn1,hn2,hz3,hz4,hz5,hz6,hb3⟩
  have HN1:=hidZ hn1
  have HN2:=hidZ hn2
  have HB3:=hidZ (HB.out.trans (hb3.mono HB.out.size))
  have HS3:=hidZ (sin_top (HSr.out.below hb3 HB.out.size) (Nat.le_trans HB.out.size hb3.size))
  clear hn1 hn2 hb3 hpc hpl
  by_cases h1:100<firsts.length
  ·have HE:Hid (MP=none):=by unfold Hid;rw[HQ.out,hml,if_pos h1]
   have hd1:decide ((100:Int)<(firsts.length:Int))=true:=by simp;omega
   clear hml hgrow hnext hinv
   go_wp2
   go_ret2
   rw[HMP.out,HE.out]
   exact⟨rfl,HB3.out⟩
  ·have hd1:decide ((100:Int)<(firsts.length:Int))=false:=by simp;omega
   rw[if_neg h1]at hml
   have hinv:=hinv (by omega)
   have hlen:=hinv.len
   by_cases h2:firsts.length=count
   ·rw[if_pos h2]at hml
    have HE:Hid (MP=some (fin,firsts)):=by unfold Hid;rw[HQ.out,hml]
    have hd2:((firsts.length:Int)==(count:Int))=true:=by rw[h2];simp
    have hfn:∀x∈firsts,x<n:=fun x hx=>by
     obtain⟨i,hi,rfl⟩:=List.mem_iff_getElem.1 hx
     have:=(hinv.rep i hi).1
     rw[List.getD_eq_getElem?_getD,List.getElem?_eq_getElem hi]at this;exact this
    have hnf:NIn w3 g1 n (listF fin):=by have:=HN1.out;rw[hlen]at this;exact this
    have hgc:=sgather_any fin firsts g n cap K g1 c1 g2 c2 zb tk nx w3 hK (by omega) hfn HR.out HS3.out hnf hz3 HN2.out hz4
    rw[hlen]
    clear hml hgrow hnext hinv h2 hfn hnf hlen
    go_wp2_with fail
    refine hgc.mono ?_
    rintro e w4 ⟨B,zs,q1,rfl,q3,q4,q5,q6⟩
    have HQ3:=hidZ q3
    have HQ4:=hidZ q4
    have HQ5:=hidZ q5
    have HQ6:=hidZ (HB3.out.trans (q6.mono HB3.out.size))
    have hq1:w.heap.size≤B:=Nat.le_trans HB3.out.size q1
    clear q1 q3 q4 q5 q6 hgc
    go_wp2
    go_ret2
    rw[HMP.out,HE.out]
    exact⟨.slice (some ⟨B,0,none⟩) zs.length zs.length,⟨B,zs,hq1,rfl,HQ3.out,HQ4.out,HQ5.out,HQ6.out⟩,rfl⟩
   ·rw[if_neg h2]at hml
    have HE:Hid (MP=mergeL n tk nx K f fin firsts.length):=HQ.out.trans hml
    have hd2:((firsts.length:Int)==(count:Int))=false:=by rw[beq_eq_false_iff_ne];omega
    have hg2:=hgrow (by omega)
    have HOK2:=hidZ (hnext (by omega))
    have HNF:Hid (NIn w3 g1 n (listF fin)):=by have:=HN1.out;rw[hlen]at this;exact this
    rw[hlen]
    clear hml hgrow hnext hinv hlen
    go_wp2
    go_roundg f
    case measure=>omega
    case rel=>exact⟨fin,firsts.length,g1,c1,rfl,rfl,by omega,by omega,HOK2.out,HE.out,HNF.out,hz3,HB3.out⟩
end Go.Proofs.Ytgjgjgihceijnaa

namespace Go.Stn
def skipP (t:ByteArray)(b:Int)(st:PSt):PSt:=if nextB t b st=true then adv st else st
theorem skipP_yes {t:ByteArray}{b:Int}{st:PSt}(h:nextB t b st=true):skipP t b st=adv st:=by unfold skipP;rw[if_pos h]
theorem skipP_no {t:ByteArray}{b:Int}{st:PSt}(h:nextB t b st=false):skipP t b st=st:=by unfold skipP;rw[if_neg (by rw[h];decide)]
end Go.Stn
namespace Go.Proofs.Ytgjgjgihceijnaa
open Go.RowKit Go.Stn
def RdTo (w:World)(rb base:Nat)(t:ByteArray)(vr vn vp:Value)(st:PSt)(w':World):Prop:=w.grownBy w' (some rb)∧Rd w' rb base w'.heap.size t st vr vn vp
set_option maxRecDepth 100000 in
theorem skip_any (t:ByteArray)(st:PSt)(b:Int)(rb base:Nat)(vr vn vp:Value)(w:World)(ht:t.size≤120)(hat:st.at_≤t.size)(h:Rd w rb base w.heap.size t st vr vn vp):
  Calls Try.prog 89 #[.pointer (some ⟨rb,0,none⟩),.int .i64 b] w fun e w'=>e= .returned (.bool (nextB t b st))∧RdTo w rb base t vr vn vp (skipP t b st) w':=by
 cases hb:nextB t b st with
 | true=>
  rw[skipP_yes hb]
  have hbq:(peekP t st.at_ !=b)=false:=by unfold nextB at hb;rw[decide_eq_true_eq]at hb;rw[hb];simp
  go_enter Try.func89,Try.ntmps89
  go_wp2_with fail
  refine(peek_any t st rb base w.heap.size vr vn vp _ h).mono ?_
  rintro e w1 ⟨rfl,q,rfl⟩
  have HR:=hidK (h.drewN q).raise
  have HB:Hid (w.grownBy (w.drewN q) (some rb)):=grown_drewN (World.grownBy.refl _ _) q
  generalize w.drewN q=w1 at*
  clear h
  have c1:=HR.out.c1
  have f1:=HR.out.fz 1
  go_wp2
  go_ret
  exact⟨rfl,grown_set HB.out _ _,HR.out.adv.raise⟩
 | false=>
  rw[skipP_no hb]
  have hbq:(peekP t st.at_ !=b)=true:=by unfold nextB at hb;rw[decide_eq_false_iff_not]at hb;rw[bne_iff_ne];exact hb
  go_enter Try.func89,Try.ntmps89
  go_wp2_with fail
  refine(peek_any t st rb base w.heap.size vr vn vp _ h).mono ?_
  rintro e w1 ⟨rfl,q,rfl⟩
  go_wp2
  go_ret
  exact⟨rfl,grown_drewN (World.grownBy.refl _ _) q,(h.drewN q).raise⟩
theorem adv_ok {t:ByteArray}{st:PSt}(h:st.at_<t.size):(adv st).at_≤t.size:=h
set_option maxRecDepth 100000 in
theorem esc_any (t:ByteArray)(st:PSt)(rb base:Nat)(vr vn vp:Value)(w:World)(ht:t.size≤120)(hat:st.at_≤t.size)(h:Rd w rb base w.heap.size t st vr vn vp):
  Calls Try.prog 155 #[.pointer (some ⟨rb,0,none⟩)] w fun e w'=>e= .returned (.tuple #[.int .i64 (escP t st).1,.bool (escP t st).2.1])∧RdTo w rb base t vr vn vp (escP t st).2.2 w':=by
 cases h1:nextB t 110 st with
 | true=>
  have HE:Hid (escP t st=(10,true,adv st)):=by unfold Hid escP;rw[if_pos h1]
  go_enter Try.func155,Try.ntmps155
  go_wp2_with fail
  refine(skip_any t st 110 rb base vr vn vp _ ht hat h).mono ?_
  rintro e w1 ⟨rfl,hr⟩
  rw[skipP_yes h1]at hr
  rw[h1]
  go_wp2
  go_ret2
  rw[HE.out]
  exact⟨rfl,hr⟩
 | false=>
  have n1:¬(nextB t 110 st=true):=by rw[h1];decide
  have HS1:=hidK h1
  go_enter Try.func155,Try.ntmps155
  go_wp2_with fail
  refine(skip_any t st 110 rb base vr vn vp _ ht hat h).mono ?_
  rintro e w1 ⟨rfl,hb1,hr1⟩
  rw[skipP_no h1]at hr1
  rw[h1]
  have HB1:=hidK hb1
  clear h hb1
  go_wp2_with fail
  refine(skip_any t st 115 rb base vr vn vp _ ht hat hr1).mono ?_
  rintro e w2 ⟨rfl,hb2,hr2⟩
  cases h2:nextB t 115 st with
  | true=>
   have HE:Hid (escP t st=(32,true,adv st)):=by unfold Hid escP;rw[if_neg n1,if_pos h2]
   rw[skipP_yes h2]at hr2
   have HR2:=hidK hr2
   have HB2:=hidK (grown_trans HB1.out hb2)
   clear hr2 hb2 hr1 HB1
   go_wp2
   go_ret2
   rw[HE.out]
   exact⟨rfl,HB2.out,HR2.out⟩
  | false=>
   have n2:¬(nextB t 115 st=true):=by rw[h2];decide
   rw[skipP_no h2]at hr2
   have HB2:=hidK (grown_trans HB1.out hb2)
   clear hb2 hr1 HB1
   go_wp2_with fail
   refine(peek_any t st rb base _ vr vn vp _ hr2).mono ?_
   rintro e w3 ⟨rfl,q,rfl⟩
   have HR3:=hidK (hr2.drewN q).raise
   have HB3:=hidK (grown_drewN HB2.out q)
   clear HB2 hr2
   generalize w2.drewN q=w3 at*
   have c1:=HR3.out.c1
   have f1:=HR3.out.fz 1
   cases hv:visB (peekP t st.at_)with
   | false=>
    have HE:Hid (escP t st=(0,false,st)):=by unfold Hid escP;rw[if_neg n1,if_neg n2,if_neg (by rw[hv];simp)]
    clear n1 n2
    go_wp2_with (go_at_call 147;refine(visible_any _ _).mono ?_;rintro e w3 ⟨rfl,rfl⟩)
    go_ret2
    rw[HE.out]
    exact⟨rfl,HB3.out,HR3.out⟩
   | true=>
    cases hl:lodB (peekP t st.at_)with
    | true=>
     have HE:Hid (escP t st=(0,false,st)):=by unfold Hid escP;rw[if_neg n1,if_neg n2,if_neg (by rw[hl];simp)]
     clear n1 n2
     go_wp2_with (first | (go_at_call 147;refine(visible_any _ _).mono ?_;rintro e w3 ⟨rfl,rfl⟩) | (go_at_call 156;refine(lod_any _ _).mono ?_;rintro e w3 ⟨rfl,rfl⟩))
     go_ret2
     rw[HE.out]
     exact⟨rfl,HB3.out,HR3.out⟩
    | false=>
     have HE:Hid (escP t st=(peekP t st.at_,true,adv st)):=by unfold Hid escP;rw[if_neg n1,if_neg n2,if_pos ⟨hv,hl⟩]
     clear n1 n2
     go_wp2_with (first | (go_at_call 147;refine(visible_any _ _).mono ?_;rintro e w3 ⟨rfl,rfl⟩) | (go_at_call 156;refine(lod_any _ _).mono ?_;rintro e w3 ⟨rfl,rfl⟩))
     go_ret2
     rw[HE.out]
     exact⟨rfl,grown_set HB3.out _ _,HR3.out.adv.raise⟩
end Go.Proofs.Ytgjgjgihceijnaa

namespace Go.Stn
theorem vis_lt {t:ByteArray}{a:Nat}(h:visB (peekP t a)=true):a<t.size:=by
 unfold visB at h;rw[decide_eq_true_eq]at h
 rcases Nat.lt_or_ge a t.size with h1 | h1
 ·exact h1
 ·rw[peekP_end h1]at h;omega
theorem plain_lt {t sp:ByteArray}{a:Nat}(h:plainB (peekP t a) sp=true):a<t.size:=by
 unfold plainB at h;rw[Bool.and_eq_true]at h;exact vis_lt h.1
theorem adv_at (st:PSt):(adv st).at_=st.at_+1:=rfl
theorem escP_at {t:ByteArray}{st:PSt}(h:st.at_≤t.size):st.at_≤(escP t st).2.2.at_∧(escP t st).2.2.at_≤t.size:=by
 unfold escP
 by_cases h1:nextB t 110 st=true
 ·rw[if_pos h1];have:=nextB_lt (by omega) h1;simp only[adv_at];omega
 ·rw[if_neg h1]
  by_cases h2:nextB t 115 st=true
  ·rw[if_pos h2];have:=nextB_lt (by omega) h2;simp only[adv_at];omega
  ·rw[if_neg h2]
   by_cases h3:visB (peekP t st.at_)=true∧lodB (peekP t st.at_)=false
   ·rw[if_pos h3];have:=vis_lt h3.1;simp only[adv_at];omega
   ·rw[if_neg h3];exact⟨Nat.le_refl _,h⟩
theorem singleP_at {t sp:ByteArray}{st:PSt}(h:st.at_≤t.size):st.at_≤(singleP t sp st).2.2.at_∧(singleP t sp st).2.2.at_≤t.size:=by
 unfold singleP
 by_cases h1:nextB t 92 st=true
 ·rw[if_pos h1];have:=nextB_lt (by omega) h1;have:=escP_at (t:=t) (st:=adv st) (by rw[adv_at];omega);rw[adv_at]at this;omega
 ·rw[if_neg h1]
  by_cases h2:plainB (peekP t st.at_) sp=true
  ·rw[if_pos h2];have:=plain_lt h2;simp only[adv_at];omega
  ·rw[if_neg h2];exact⟨Nat.le_refl _,h⟩
theorem escP_adv {t:ByteArray}{st:PSt}(h:(escP t st).2.1=true):st.at_<(escP t st).2.2.at_:=by
 unfold escP at h ⊢
 by_cases h1:nextB t 110 st=true
 ·rw[if_pos h1];simp only[adv_at];omega
 ·rw[if_neg h1]at h ⊢
  by_cases h2:nextB t 115 st=true
  ·rw[if_pos h2];simp only[adv_at];omega
  ·rw[if_neg h2]at h ⊢
   by_cases h3:visB (peekP t st.at_)=true∧lodB (peekP t st.at_)=false
   ·rw[if_pos h3];simp only[adv_at];omega
   ·rw[if_neg h3]at h;simp at h
theorem singleP_adv {t sp:ByteArray}{st:PSt}(h:(singleP t sp st).2.1=true):st.at_<(singleP t sp st).2.2.at_:=by
 unfold singleP at h ⊢
 by_cases h1:nextB t 92 st=true
 ·rw[if_pos h1]at h ⊢;have:=escP_adv h;rw[adv_at]at this;omega
 ·rw[if_neg h1]at h ⊢
  by_cases h2:plainB (peekP t st.at_) sp=true
  ·rw[if_pos h2];simp only[adv_at];omega
  ·rw[if_neg h2]at h;simp at h
theorem memberP_at {t:ByteArray}{f:Nat→Bool}{st:PSt}(h:st.at_≤t.size):st.at_≤(memberP t f st).2.2.at_∧(memberP t f st).2.2.at_≤t.size:=by
 have h1:=singleP_at (sp:=spIn) h
 obtain⟨b1,ok1,s1,hS1⟩:∃b ok s,singleP t spIn st=(b,ok,s):=⟨_,_,_,rfl⟩
 rw[hS1]at h1
 cases ok1 with
 | false=>rw[memberP_no1 hS1];exact h1
 | true=>
  cases hn:nextB t 45 s1 with
  | false=>rw[memberP_one hS1 hn];exact h1
  | true=>
   have hlt:=nextB_lt (by omega) hn
   have h2:=singleP_at (sp:=spIn) (st:=adv s1) (t:=t) (by rw[adv_at];omega)
   obtain⟨b2,ok2,s2,hS2⟩:∃b ok s,singleP t spIn (adv s1)=(b,ok,s):=⟨_,_,_,rfl⟩
   rw[hS2,adv_at]at h2
   simp only at h1 h2
   by_cases hb:ok2=false∨b2<b1
   ·rw[memberP_no2 hS1 hn hS2 hb];simp only;omega
   ·have ho:ok2=true:=by cases ok2<;> simp_all
    subst ho
    rw[memberP_two hS1 hn hS2 (by simp at hb;omega)];simp only;omega
theorem memberP_adv {t:ByteArray}{f:Nat→Bool}{st:PSt}(h:(memberP t f st).2.1=true):st.at_<(memberP t f st).2.2.at_:=by
 have h1:= @singleP_adv t spIn st
 obtain⟨b1,ok1,s1,hS1⟩:∃b ok s,singleP t spIn st=(b,ok,s):=⟨_,_,_,rfl⟩
 rw[hS1]at h1
 cases ok1 with
 | false=>rw[memberP_no1 hS1]at h;simp at h
 | true=>
  have h1:=h1 rfl
  cases hn:nextB t 45 s1 with
  | false=>rw[memberP_one hS1 hn];exact h1
  | true=>
   have hlt:=nextB_lt (by omega) hn
   have h2:=singleP_at (sp:=spIn) (st:=adv s1) (t:=t) (by rw[adv_at];omega)
   obtain⟨b2,ok2,s2,hS2⟩:∃b ok s,singleP t spIn (adv s1)=(b,ok,s):=⟨_,_,_,rfl⟩
   rw[hS2,adv_at]at h2
   simp only at h1 h2
   by_cases hb:ok2=false∨b2<b1
   ·rw[memberP_no2 hS1 hn hS2 hb]at h;simp at h
   ·have ho:ok2=true:=by cases ok2<;> simp_all
    subst ho
    rw[memberP_two hS1 hn hS2 (by simp at hb;omega)];simp only;omega
theorem letterP_at {t:ByteArray}{st:PSt}(h:st.at_≤t.size):st.at_≤(letterP t st).2.2.at_∧(letterP t st).2.2.at_≤t.size:=by
 unfold letterP
 by_cases h1:65≤peekP t st.at_∧peekP t st.at_<69
 ·rw[if_pos h1]
  have:st.at_<t.size:=by
   rcases Nat.lt_or_ge st.at_ t.size with h2 | h2
   ·exact h2
   ·rw[peekP_end h2]at h1;omega
  simp only[adv_at];omega
 ·rw[if_neg h1];exact⟨Nat.le_refl _,h⟩
theorem behindP_at {t:ByteArray}{st:PSt}(h:st.at_≤t.size):st.at_≤(behindP t st).2.2.at_∧(behindP t st).2.2.at_≤t.size:=by
 unfold behindP
 by_cases h1:nextB t 46 st=true
 ·rw[if_pos h1];have:=nextB_lt (by omega) h1;simp only[adv_at];omega
 ·rw[if_neg h1]
  by_cases h2:nextB t 45 st=true
  ·rw[if_pos h2];have:=nextB_lt (by omega) h2;simp only[adv_at];omega
  ·rw[if_neg h2]
   have:=letterP_at h
   split<;> exact this
end Go.Stn

