import Derived.Test.YtgjgjgihceijnaaGreatG04
import Derived.Test.YtgjgjgihceijnaaGreatG01
import Derived.Test.YtgjgjgihceijnaaGreatG02
import Derived.Test.YtgjgjgihceijnaaGreatG03
import Derived.Deep.AppendLies
import Derived.Deep.QuietTactic
import Derived.BigQuiet
import Derived.Test.YtgjgjgihceijnaaGreatChecked
import Derived.WalkKit
import Derived.WalkSpells
import Derived.WalkLawsBesides
open List renaming replicate->aL,mem_singleton->aT,mem_append->bK,getElem?_eq_getElem->cF,getElem?_cons_succ->cL,set_append_right->cN,set_cons_succ->cP
open Nat renaming lt_of_lt_of_le->aO,zero_add->bC,le_refl->bS,zero_le->cR,add_comm->eL
open Go.RowKit.Below renaming heap_setCell->aR,refl->cT
open Go.World renaming setCell->bD,grownBy_alloc->bM,rangeAt_setCells_same->bN,cell?_setCell_other->bO,there_setCells->cO
open Go.Value renaming slice->bT
set_option maxRecDepth 100000
set_option maxHeartbeats 8000000
namespace Go.Stn
open Go.RowKit
def jU (vb:Value)(cs:List Nat)(vc:Value):List Value:=vb::(jD cs++ [vc])
theorem gM (l:List Nat):(jD l).length=l.length:=by simp[jD]
theorem yD (l:List Nat)(k:Nat)(h:k<l.length):(jD l)[k]? =some (.int .i64 (l[k]:Int)):=by simp[jD,h]
theorem lX (vb:Value)(cs:List Nat)(vc:Value)(h:cs.length=256):(jU vb cs vc).length=258:=by simp[jU,gM,h]
theorem Gz (vb:Value)(cs:List Nat)(vc:Value):(jU vb cs vc)[0]? =some vb:=rfl
theorem Od (vb:Value)(cs:List Nat)(vc:Value)(k:Nat)(h:k<cs.length):(jU vb cs vc)[1+k]? =some (.int .i64 (cs[k]:Int)):=by
 unfold jU;rw[eL,cL,List.getElem?_append_left (by rw[gM];exact h),yD _ _ h]
theorem rK (vb:Value)(cs:List Nat)(vc:Value)(h:cs.length=256):(jU vb cs vc)[257]? =some vc:=by
 unfold jU;rw[cL,List.getElem?_append_right (by rw[gM,h];omega),gM,h];rfl
theorem Kh (vb:Value)(cs:List Nat)(vc u:Value):(jU vb cs vc).set 0 u=jU u cs vc:=rfl
theorem Ln (vb:Value)(cs:List Nat)(vc:Value)(k x:Nat)(h:k<cs.length):(jU vb cs vc).set (1+k) (.int .i64 (x:Int))=jU vb (cs.set k x) vc:=by
 unfold jU;rw[eL,cP,List.set_append_left _ _ (by rw[gM];exact h)];simp[jD,List.map_set]
theorem Dc (vb:Value)(cs:List Nat)(vc u:Value)(h:cs.length=256):(jU vb cs vc).set 257 u=jU vb cs u:=by
 unfold jU;rw[cP,cN _ _ (by rw[gM,h];omega),gM,h];rfl
theorem Cy (xs:List Nat)(m x:Nat):(xs++aL (m+1) 0).set xs.length x=(xs++ [x])++aL m 0:=by
 rw[cN _ _ (bS _),Nat.sub_self,List.replicate_succ,List.set_cons_zero];simp
theorem rY {w:World}{b:Nat}{l:List Value}(h:w.rangeAt b 0 l)(k:Nat)(hk:k<l.length)(v:Value):(w.setCell ⟨b,k,none⟩ v).rangeAt b 0 (l.set k v):=by
 intro j u hu;rw[bC];by_cases e:j=k
 ·subst e;rw[List.getElem?_set_self hk]at hu;injection hu with hu;rw[←hu];have:=h j (l[j]) (cF hk);rw[bC]at this;exact World.cell?_setCell_same _ _ _ this
 ·rw[List.getElem?_set_ne (fun h=>e h.symm)]at hu;rw[bO (h:=by intro e';injection e';omega)];have:=h j u hu;rw[bC]at this;exact this
theorem uZ {w:World}{b b' o:Nat}{l:List Value}(h:w.rangeAt b 0 l)(hb:b≠b')(v:Value):(w.setCell ⟨b',o,none⟩ v).rangeAt b 0 l:=by
 intro j u hu;rw[bO (h:=by intro e';injection e';omega)];exact h j u hu
theorem Ez (l:List Nat)(m k:Nat)(h:k<l.length):oM (l.take (k+1)) m=(oM (l.take k) m || decide (m<l[k])):=by
 have e:l.take (k+1)=l.take k++ [l[k]]:=by rw[List.take_add_one,cF h];rfl
 unfold oM;rw[e,Bool.eq_iff_iff];simp only[bK,aT,Bool.or_eq_true,decide_eq_true_eq];constructor
 ·rintro⟨x,h1 | h1,h2⟩
  ·exact .inl ⟨x,h1,h2⟩
  ·subst h1;exact .inr h2
 ·rintro(⟨x,h1,h2⟩ | h2)
  ·exact⟨x,.inl h1,h2⟩
  ·exact⟨_,.inr rfl,h2⟩
abbrev jG:=Nat×List ((Nat×List Int)×Nat)
structure iT (w:World)(cl:Nat)(y:jG):Prop where
 lt:y.1<w.heap.size
 rg:w.rangeAt y.1 0 (stC cl y.2)
 rows:∀z∈y.2,z.2<w.heap.size/\w.rangeAt z.2 0 (jP z.1.2)
def yT (y:jG)(k:Nat):Prop:=k=y.1\/∃z∈y.2,k=z.2
theorem iT.block {w w':World}{cl:Nat}{y:jG}(h:iT w cl y)(hz:w.heap.size<=w'.heap.size)(hb:∀k,k<w.heap.size->yT y k->w'.heap[k]? =w.heap[k]?):iT w' cl y:=
 ⟨aO h.lt hz,aC h.rg (hb _ h.lt (.inl rfl)),fun z hz'=>⟨aO (h.rows z hz').1 hz,aC (h.rows z hz').2 (hb _ (h.rows z hz').1 (.inr ⟨z,hz',rfl⟩))⟩⟩
theorem iT.own {w:World}{cl:Nat}{y:jG}(h:iT w cl y){k:Nat}(hk:yT y k):k<w.heap.size:=by
 rcases hk with rfl | ⟨z,hz,rfl⟩
 ·exact h.lt
 ·exact(h.rows z hz).1
theorem iT.below {w w':World}{cl B:Nat}{y:jG}(h:iT w cl y)(hB:Below B w w')(hl:w.heap.size<=B):iT w' cl y:=h.block hB.size (fun k hk _=>hB.block k (by omega))
def qJ (ys:List jG):List Value:=ys.map fun(y:jG)=>bT (some ⟨y.1,0,none⟩) y.2.length y.2.length
theorem G7 (ys:List jG)(y:jG):qJ (ys++ [y])=qJ ys++ [bT (some ⟨y.1,0,none⟩) y.2.length y.2.length]:=by simp[qJ]
end Go.Stn
namespace Go.Proofs.YtgjgjgihceijnaaGreat
open Go.RowKit Go.Stn
theorem Tryz.imgZeroA:Tryz.zeroCells72=(jU (.slice none 0 0) (aL 256 0) (.slice none 0 0)).toArray:=by kernel_rfl
theorem Tryz.imgZeroL:Tryz.zeroCells72.toList=jU (.slice none 0 0) (aL 256 0) (.slice none 0 0):=by rw[Tryz.imgZeroA]
theorem Tryz.imgZero:Tryz.zeroCells72.size=258:=by kernel_rfl
theorem Tryz.imgSize:(Tryz.prog.info? 72).map (·.size)=some 258:=by kernel_rfl
theorem Tryz.imgZeroOne:Tryz.zeroCells72.all (·.oneCell')=true:=by kernel_rfl
theorem Tryz.infoConds:(Tryz.prog.info? 110).map (fun i=>(i.zero,i.size,i.bytes))=some (some (.slice none 0 0),1,24):=by kernel_rfl
structure IW (w0 w:World)(rb:Nat)(s:ByteArray)(r:LSt)(vb:Value)(cs:List Nat)(vc:Value):Prop where
 g:w0.grownBy w (some rb)
 rd:LRd w rb s r
 im:w.rangeAt (w0.heap.size+1) 0 (jU vb cs vc)
 t1:w.there (w0.heap.size+1) 0 258
 t0:w.there w0.heap.size 0 258
 hz:w0.heap.size+2<=w.heap.size
 hb:rb<w0.heap.size
 hl:cs.length=256
variable {w0 w w':World} {rb:Nat} {s:ByteArray} {r r':LSt} {vb vc:Value} {cs:List Nat}
theorem IW.step (h:IW w0 w rb s r vb cs vc)(hg:w.grownBy w' (some rb))(hl:LRd w' rb s r'):IW w0 w' rb s r' vb cs vc:=by
 have hb:=h.hb;have hz:=h.hz;have e1:w'.heap[w0.heap.size+1]? =w.heap[w0.heap.size+1]? :=hg.block _ (by omega) (by intro e;injection e;omega);have e0:w'.heap[w0.heap.size]? =w.heap[w0.heap.size]? :=hg.block _ (by omega) (by intro e;injection e;omega);exact⟨aH h.g hg,hl,aC h.im e1,aQ h.t1 e1,aQ h.t0 e0,by have:=hg.size;omega,hb,h.hl⟩
theorem IW.cell (h:IW w0 w rb s r vb cs vc){k:Nat}{v:Value}(hk:(jU vb cs vc)[k]? =some v):w.cell? ⟨w0.heap.size+1,k,none⟩=some v:=by
 have:=h.im k v hk;rw[bC]at this;exact this
theorem IW.fz (h:IW w0 w rb s r vb cs vc){k:Nat}(hk:k<258):w.frozen? ⟨w0.heap.size+1,k,none⟩=false:=by
 have:=(h.t1 k hk).2;rw[bC]at this;exact this
theorem IW.set (h:IW w0 w rb s r vb cs vc){k:Nat}{u:Value}{vb' vc':Value}{cs':List Nat}(hk:k<258)(he:(jU vb cs vc).set k u=jU vb' cs' vc')(hl:cs'.length=256):
  IW w0 (w.setCell ⟨w0.heap.size+1,k,none⟩ u) rb s r vb' cs' vc':=by
 have hb:=h.hb;have hz:=h.hz;refine⟨⟨h.g.os,h.g.tape,h.g.output,by simp[bD];omega,fun i hi hr=> ?_⟩, ?_, ?_,jM h.t1 _ _,jM h.t0 _ _,by simp[bD];omega,hb,hl⟩
 ·rw[aR _ _ _ _ (by simp only;omega)];exact h.g.block i hi hr
 ·exact h.rd.block (aR _ _ _ _ (by simp only;omega)) (by simp[bD])
 ·rw[←he];exact rY h.im k (by rw[lX _ _ _ h.hl];exact hk) u
theorem IW.other {v:Option Nat}(h:IW w0 w rb s r vb cs vc)(hg:w.grownBy w' v)(hv:∀k,v=some k->w0.heap.size+2<=k):IW w0 w' rb s r vb cs vc:=by
 have hb:=h.hb;have hz:=h.hz;have ne:∀k,k<w0.heap.size+2->some k≠v:=fun k hk e=>by have:=hv k e.symm;omega
 have e1:w'.heap[w0.heap.size+1]? =w.heap[w0.heap.size+1]? :=hg.block _ (by omega) (ne _ (by omega));have e0:w'.heap[w0.heap.size]? =w.heap[w0.heap.size]? :=hg.block _ (by omega) (ne _ (by omega));refine⟨⟨hg.os.trans h.g.os,hg.tape.trans h.g.tape,hg.output.trans h.g.output,Nat.le_trans h.g.size hg.size,fun i hi hr=>(hg.block i (aO hi h.g.size) (ne i (by omega))).trans (h.g.block i hi hr)⟩,
  h.rd.grown hg (ne rb (by omega)),aC h.im e1,aQ h.t1 e1,aQ h.t0 e0,by have:=hg.size;omega,hb,h.hl⟩
theorem wR (hb:vb.oneCell'=true)(hc:vc.oneCell'=true):∀v∈jU vb cs vc,v.oneCell'=true:=by
 intro v hv;unfold jU at hv;rcases List.mem_cons.1 hv with rfl | h1
 ·exact hb
 ·rcases bK.1 h1 with h2 | h2
  ·unfold jD at h2;rw[List.mem_map]at h2;obtain⟨x,_,rfl⟩:=h2
   rfl
  ·rw[aT]at h2;rw[h2];exact hc
theorem IW.start (h:LRd w rb s r):
  IW w (((w.alloc (.cells Tryz.zeroCells72 72)).alloc (.cells Tryz.zeroCells72 72)).setCells (w.heap.size+1) 0 Tryz.zeroCells72.toList) rb s r (.slice none 0 0) (aL 256 0) (.slice none 0 0):=by
 have hb:=h.hb;have t1:=bI (w.alloc (.cells Tryz.zeroCells72 72)) Tryz.zeroCells72 72 (w.heap.size+1) 258 Tryz.imgZero (by simp);have t0:=bI w Tryz.zeroCells72 72 w.heap.size 258 Tryz.imgZero rfl;have g0:w.grownBy ((w.alloc (.cells Tryz.zeroCells72 72)).alloc (.cells Tryz.zeroCells72 72)) (some rb):=dG (dG (World.grownBy.refl _ _) _) _;have b1:Below w.heap.size w ((w.alloc (.cells Tryz.zeroCells72 72)).alloc (.cells Tryz.zeroCells72 72)):=((cT _ _).alloc (bS _) _).alloc (by simp) _;have b2:=aD Tryz.zeroCells72.toList 0 _ (w.heap.size+1) b1 (by omega);have z2:=(aD Tryz.zeroCells72.toList 0 ((w.alloc (.cells Tryz.zeroCells72 72)).alloc (.cells Tryz.zeroCells72 72)) (w.heap.size+1) (cT 0 _) (cR _)).size;simp at z2;refine⟨iU g0 _ _ _ (by omega),h.below b2 hb, ?_,cO t1 _ _ _,cO (World.there_alloc t0 _) _ _ _,by omega,hb,List.length_replicate⟩;rw[←Tryz.imgZeroL];exact bN _ _ _ _ (by rw[Array.length_toList,Tryz.imgZero];exact t1)
end Go.Proofs.YtgjgjgihceijnaaGreat
namespace Go.Proofs.YtgjgjgihceijnaaGreat
open Go.RowKit Go.Stn
def kE (w:World)(lo bb:Nat)(l:List Nat):Prop:=lo<=bb/\bb<w.heap.size/\w.rangeAt bb 0 (jD l)
theorem kE.grown {w w':World}{lo bb g:Nat}{l:List Nat}(h:kE w lo bb l)(hg:w.grownBy w' (some g))(hl:g<lo):kE w' lo bb l:=
 ⟨h.1,aO h.2.1 hg.size,aC h.2.2 (hg.block bb h.2.1 (by intro e;injection e;have:=h.1;omega))⟩
theorem kE.block {w w':World}{lo bb:Nat}{l:List Nat}(h:kE w lo bb l)(hz:w.heap.size<=w'.heap.size)(hb:w'.heap[bb]? =w.heap[bb]?):kE w' lo bb l:=
 ⟨h.1,aO h.2.1 hz,aC h.2.2 hb⟩
theorem kE.set {w:World}{lo bb g k:Nat}{l:List Nat}(h:kE w lo bb l)(hl:g<lo)(v:Value):kE (w.setCell ⟨g,k,none⟩ v) lo bb l:=
 h.block (by simp[bD]) (aR _ _ _ _ (by simp only;have:=h.1;omega))
def lC (w:World)(cl bb:Nat)(vc:Value)(ys:List jG):Prop:=∀y∈ys,iT w cl y/\∀k,yT y k->bb<k/\vc.ownBlock≠some k
theorem lC.move {w w':World}{cl bb:Nat}{vc vc':Value}{ys:List jG}{v:Option Nat}(h:lC w cl bb vc ys)(hg:w.grownBy w' v)(hv:∀k,v=some k->k<=bb\/vc.ownBlock=some k)(hc:∀k,k<w.heap.size->vc'.ownBlock=some k->vc.ownBlock=some k):lC w' cl bb vc' ys:=fun y hy=>by
 obtain⟨h1,h2⟩:=h y hy;refine⟨h1.block hg.size (fun k hk ho=>hg.block k hk (fun e=> ?_)),fun k ho=>⟨(h2 k ho).1,fun e=>(h2 k ho).2 (hc k (h1.own ho) e)⟩⟩;obtain⟨h3,h4⟩:=h2 k ho;rcases hv k e.symm with h5 | h5
 ·omega
 ·exact h4 h5
theorem lC.snoc {w:World}{cl bb:Nat}{vc:Value}{ys:List jG}{y:jG}(h:lC w cl bb vc ys)(h1:iT w cl y/\∀k,yT y k->bb<k/\vc.ownBlock≠some k):lC w cl bb vc (ys++ [y]):=fun z hz=>by
 rcases bK.1 hz with h2 | h2
 ·exact h z h2
 ·rw[aT]at h2;rw[h2];exact h1
theorem lC.set {w:World}{cl bb g k:Nat}{vc:Value}{ys:List jG}(h:lC w cl bb vc ys)(hg:g<=bb)(v:Value):lC (w.setCell ⟨g,k,none⟩ v) cl bb vc ys:=fun y hy=>by
 obtain⟨h1,h2⟩:=h y hy;exact⟨h1.block (by simp[bD]) (fun j _ ho=>aR _ _ _ _ (by simp only;have:=(h2 j ho).1;omega)),h2⟩
theorem fJ:∀(w:World) (b o:Nat) (vs:List Value) (k:Nat),k≠b->(w.setCells b o vs).heap[k]? =w.heap[k]? :=by
 intro w b o vs
 induction vs generalizing w o with
 | nil=>intro k _;rfl
 | cons v r ih=>intro k hk;exact(ih (w.setCell ⟨b,o,none⟩ v) (o+1) k hk).trans (aR _ _ _ _ hk)
theorem eG {w:World}{base:Nat}{e:TypeId}{size:Nat}{v:Value}{n:Nat}{xs:List Value}(h:w.ownsRow base e size v n xs){b:Nat}(hb:b<base)(vs:List Value)(o:Nat):(w.setCells b o vs).ownsRow base e size v n xs:=by
 induction vs generalizing w o with
 | nil=>exact h
 | cons u r ih=>exact ih (ownsRow_setCell_below (a:=⟨b,o,none⟩) h hb u) (o+1)
def Uf (w:World)(rb:Nat)(s:ByteArray)(e:Ending)(w':World):Prop:=
 ∃(bb:Nat) (vc:Value) (ys:List jG),e= .returned (.agg (jU (.slice (some ⟨bb,0,none⟩) (eK s) (eK s)) (bL s) vc).toArray)/\
   kE w' (w.heap.size+2) bb (iJ s)/\w'.ownsRow (bb+1) 110 1 vc ys.length (qJ ys)/\ys.map (fun y=>y.2.map (·.1))=vF s/\(∀y∈ys,iT w' (gC s) y/\∀k,yT y k->bb<k)/\
   w.grownBy w' (some rb)/\LRd w' rb s (lh9 s)
theorem Eu (s:ByteArray)(rb:Nat)(w:World)(hs:s.size<=120000)(h:LRd w rb s (0,false)):
  Calls Tryz.prog 51 #[.pointer (some ⟨rb,0,none⟩)] w fun e w'=>Uf w rb s e w':=by
 have HI:=aA (IW.start h);have HT:=aA (bI (w.alloc (.cells Tryz.zeroCells72 72)) Tryz.zeroCells72 72 (w.heap.size+1) 258 Tryz.imgZero (by simp));have hrb:=h.hb;clear h;go_enter Tryz.func51,Tryz.ntmps51;go_wp2_with (first | (refine wpList_store_mid rfl 72 (.tmp 3) (.tmp 11) rfl (w.heap.size+1) 0 Tryz.zeroCells72 rfl rfl ?_ ?_ Tryz.imgZeroOne ?_;(rw[Tryz.imgZero];exact HT.out);(rw[Tryz.imgZero];exact Tryz.imgSize)));generalize ((w.alloc (.cells Tryz.zeroCells72 72)).alloc (.cells Tryz.zeroCells72 72)).setCells (w.heap.size+1) 0 Tryz.zeroCells72.toList=W0 at*;clear HT;have a0:((0,false):LSt).1<=s.size:=cR _;refine(fP s (0,false) 83 83 rb _ hs HI.out.rd a0).mono ?_;rintro e w1 ⟨rfl,hg1,hl1⟩;have HI1:=aA (HI.out.step hg1 hl1);have a1:=fG (lo:=83) (hi:=83) a0;clear HI hg1 hl1;go_wp2_with fail;refine(fP s _ 84 84 rb _ hs HI1.out.rd a1).mono ?_;rintro e w2 ⟨rfl,hg2,hl2⟩;have HI2:=aA (HI1.out.step hg2 hl2);have a2:=fG (lo:=84) (hi:=84) a1;clear HI1 hg2 hl2;go_wp2_with fail;refine(fP s _ 1 1 rb _ hs HI2.out.rd a2).mono ?_;rintro e w3 ⟨rfl,hg3,hl3⟩;have HI3:Hid (IW w w3 rb s (lh3 s) _ _ _):=aA (HI2.out.step hg3 hl3);have a3:(lh3 s).1<=s.size:=fG (lo:=1) (hi:=1) a2;clear HI2 hg3 hl3 a0 a1 a2;go_wp2_with fail;refine(fP s _ 1 8 rb _ hs HI3.out.rd a3).mono ?_;rintro e w4 ⟨rfl,hg4,hl4⟩;have HI4:Hid (IW w w4 rb s (lh4 s) _ _ _):=aA (HI3.out.step hg4 hl4);have a4:(lh4 s).1<=s.size:=fG (lo:=1) (hi:=8) a3;have hru:1<=eK s/\eK s<=8:=wQ (by omega);have ER:Hid ((bX s 1 8 (lh3 s)).1=eK s):=rfl;rw[ER.out];clear HI3 hg4 hl4 a3 ER;obtain⟨ru,ERU⟩:∃ru,eK s=ru:=⟨_,rfl⟩
 rw[ERU]at hru ⊢;replace ERU:=aA ERU;go_wp2_with fail;refine(Z0 s _ ru 5 rb _ hs (by omega) HI4.out.rd a4).mono ?_;rintro e w5 ⟨rfl,ho5,hg5,hl5⟩;have e5:iO s 5 ru [] (lh4 s)=(iJ s,lh5 s):=by rw[←ERU.out];rfl
 rw[e5]at ho5 hl5;simp only at ho5 hl5;have HI5:=aA (HI4.out.step hg5 hl5);have a5:(lh5 s).1<=s.size:=by have:=G3 (hi:=5) ru [] (lh4 s) a4;rw[e5]at this;exact this
 have hbl:(iJ s).length=ru:=by have:=jJ (s:=s) (hi:=5) ru [] (lh4 s);rw[e5]at this;simpa using this
 have HN5:Hid (kE w5 (w.heap.size+2) w4.heap.size (iJ s)):=aA ⟨HI4.out.hz,by have:=(ho5.lt w4.heap.size rfl).2;omega,lQ ho5⟩;have hbb:w.heap.size+2<=w4.heap.size:=HI4.out.hz;clear ho5 hg5 hl5 HI4 a4 e5;generalize w4.heap.size=bb at*;have hble:∀x∈iJ s,x<=5:=Ns _ _ _ (fun x hx=>by cases hx);obtain⟨L,EL⟩:∃L,iJ s=L:=⟨_,rfl⟩
 rw[EL]at hbl hble HN5;replace EL:=aA EL;replace hble:=aA hble;have c0:=HI5.out.cell (Gz _ _ _);have f0:=HI5.out.fz (k:=0) (by omega);have HI6:=aA (HI5.out.set (k:=0) (u:= .slice (some ⟨bb,0,none⟩) ru ru) (by omega) (Kh _ _ _ _) HI5.out.hl);have HN6:=aA (HN5.out.set (g:=w.heap.size+1) (k:=0) (by omega) (.slice (some ⟨bb,0,none⟩) ru ru));go_wp2_with fail;generalize w5.setCell ⟨w.heap.size+1,0,none⟩ (.slice (some ⟨bb,0,none⟩) ru ru)=W6 at*;clear HI5 HN5 c0 f0;refine(fP s _ 1 4 rb _ hs HI6.out.rd a5).mono ?_;rintro e w7 ⟨rfl,hg7,hl7⟩;have HI7:=aA (HI6.out.step hg7 hl7);have HN7:=aA (HN6.out.grown hg7 (by omega));have hmn:1<=qI s/\qI s<=4:=wQ (by omega);have a7:(bX s 1 4 (lh5 s)).2.1<=s.size:=fG (lo:=1) (hi:=4) a5;have ER:Hid ((bX s 1 4 (lh5 s)).1=qI s):=rfl;have E6:Hid (lh6 s=((bX s 1 4 (lh5 s)).2.1,(bX s 1 4 (lh5 s)).2.2 || oM (iJ s) (1+qI s))):=rfl;rw[ER.out];rw[EL.out]at E6;clear HI6 HN6 hg7 hl7 a5 ER;generalize bX s 1 4 (lh5 s)=N at*;obtain⟨mm,r7⟩:=N;simp only at a7 E6 HI7;obtain⟨mn,EMN⟩:∃ru,qI s=ru:=⟨_,rfl⟩
 rw[EMN]at hmn E6 ⊢;replace EMN:=aA EMN;have c0:=HI7.out.cell (Gz _ _ _);go_wp2_with fail;clear c0
 go_loopw [29] (fun x wr=>∃k:Nat,x= .int .i64 (k:Int)/\k<=ru/\IW w wr rb s (r7.1,r7.2 || oM (L.take k) (1+mn)) (.slice (some ⟨bb,0,none⟩) ru ru) (aL 256 0) (.slice none 0 0)/\kE wr (w.heap.size+2) bb L) (fun x _=>ru - (intOf x).toNat)
 case atStart=>
  refine⟨0,rfl,cR _, ?_,HN7.out⟩;have e:(r7.1,r7.2 || oM (L.take 0) (1+mn))=r7:=by simp[oM]
  rw[e];exact HI7.out
 case round=>
  obtain⟨k,rfl,hk,hiw,hnw⟩:=hrel;have HI8:=aA hiw;have HN8:=aA hnw;clear hiw hnw HI7 HN7;by_cases hlt:k<ru
  ·have hkl:k<L.length:=by omega
   have HOV:=aA (Ez L (1+mn) k hkl);have hx:wr.cell? ⟨bb,k,none⟩=some (.int .i64 (L[k]:Int)):=by have:=HN8.out.2.2 k _ (yD L k hkl);rw[bC]at this;exact this
   have hxl:L[k]<=5:=hble.out _ (List.getElem_mem hkl);generalize L[k]=x at*;have hd:decide ((k:Int)<(ru:Int))=true:=by simp;omega
   have f2:=HI8.out.rd.fz 2;have c2:=HI8.out.rd.c2;by_cases hov:1+mn<x
   ·have hd2:decide ((1:Int)+(mn:Int)<(x:Int))=true:=by simp;omega
    have HE:Hid (oM (L.take (k+1)) (1+mn)=true):=by unfold Hid;rw[HOV.out];simp[hov]
    have HI9:=aA (HI8.out.step (fX (World.grownBy.refl _ _) 2 (.bool true)) HI8.out.rd.setBad);have HN9:=aA (HN8.out.set (g:=rb) (k:=2) (by omega) (.bool true));clear HOV hov;go_wp2;go_roundw
    case rel=>
     refine⟨k+1,by go_num,by omega, ?_,HN9.out⟩;rw[HE.out,Bool.or_true];exact HI9.out
    case measure=>simp[intOf];omega
   ·have hd2:decide ((1:Int)+(mn:Int)<(x:Int))=false:=by simp;omega
    have HE:Hid (oM (L.take (k+1)) (1+mn)=oM (L.take k) (1+mn)):=by unfold Hid;rw[HOV.out];simp[hov]
    clear HOV hov;go_wp2;go_roundw
    case rel=>
     refine⟨k+1,by go_num,by omega, ?_,HN8.out⟩;rw[HE.out];exact HI8.out
    case measure=>simp[intOf];omega
  ·have e:k=ru:=by omega
   subst e;have HI9:Hid (IW w wr rb s (lh6 s) (.slice (some ⟨bb,0,none⟩) k k) (aL 256 0) (.slice none 0 0)):=by
    unfold Hid;have:=HI8.out;rw[List.take_of_length_le (by omega),←E6.out]at this;exact this
   have a6:(lh6 s).1<=s.size:=by rw[E6.out];exact a7
   have hd:decide ((k:Int)<(k:Int))=false:=by simp
   clear HI8;go_wp2_with fail;refine(fP s _ 0 255 rb _ hs HI9.out.rd a6).mono ?_;rintro e w8 ⟨rfl,hg8,hl8⟩;have HIA:Hid (IW w w8 rb s (lh7 s) _ _ _):=aA (HI9.out.step hg8 hl8);have HNA:=aA (HN8.out.grown hg8 (by omega));have hx6:=wQ (s:=s) (lo:=0) (hi:=255) (r:=lh6 s) (by omega);have a8:(lh7 s).1<=s.size:=fG (lo:=0) (hi:=255) a6;have EC:Hid (gC s=1+(bX s 0 255 (lh6 s)).1):=rfl;clear HI9 HN8 hg8 hl8 a6;generalize (bX s 0 255 (lh6 s)).1=x6 at*;obtain⟨cl,ECL⟩:∃cl,gC s=cl:=⟨_,rfl⟩
   rw[ECL]at EC;have hcl:cl=1+x6:=EC.out;have h8:(cl:Int) - 1=(x6:Int):=by omega
   have hcI:(1:Int)+(x6:Int)=(cl:Int):=by omega
   have EX:Hid (x6=cl - 1):=by unfold Hid;omega
   replace ECL:=aA ECL;replace hcl:=aA hcl;have hcb:cl<=256:=by have:=hcl.out;omega
   clear EC;go_wp2_with fail
   go_loopg [44] 256 (fun gk x wr=>∃(xs:List Nat) (m:Nat) (r':LSt),x= .int .i64 (m:Int)/\xs.length=m/\m+gk=256/\r'.1<=s.size/\iO s x6 256 [] (lh7 s)=iO s x6 gk xs r'/\
    IW w wr rb s r' (.slice (some ⟨bb,0,none⟩) k k) (xs++aL gk 0) (.slice none 0 0)/\kE wr (w.heap.size+2) bb L)
   case atStart=>exact⟨[],0,lh7 s,rfl,rfl,rfl,a8,rfl,HIA.out,HNA.out⟩
   case round=>
    obtain⟨xs,m,r',rfl,hxl,hmg,hr',heq,hiw,hnw⟩:=hrel;have HQ:=aA heq;have HIB:=aA hiw;have HNB:=aA hnw;have HX:=aA hxl;clear heq hiw hnw hxl HIA HNA;by_cases hlt2:m<256
    ·obtain⟨g',rfl⟩:∃g',gk=g'+1:=⟨gk - 1,by omega⟩
     have HQ2:Hid (iO s x6 256 [] (lh7 s)=iO s x6 g' (xs++ [(bX s 0 x6 r').1]) (bX s 0 x6 r').2):=HQ.out;have hc:=fP s r' 0 x6 rb wr hs HIB.out.rd hr';have ha:=fG (lo:=0) (hi:=x6) hr';generalize bX s 0 x6 r'=N at*;obtain⟨x,r2⟩:=N;simp only at*;have hd2:decide ((m:Int)<256)=true:=by simp;omega
     go_wp2_with fail;refine hc.mono ?_;rintro e w9 ⟨rfl,hg9,hl9⟩;have HIC:=aA (HIB.out.step hg9 hl9);have HNC:=aA (HNB.out.grown hg9 (by omega));clear hg9 hl9 HIB HNB hc HQ;have hml:m<(xs++aL (g'+1) 0).length:=by rw[HIC.out.hl];exact hlt2
     have HE:Hid ((xs++aL (g'+1) 0).set m x=(xs++ [x])++aL g' 0):=by unfold Hid;rw[←HX.out];exact Cy xs g' x
     have HIS:=aA (HIC.out.set (k:=1+m) (u:= .int .i64 (x:Int)) (by omega) (Ln _ _ _ m x hml) (by rw[List.length_set];exact HIC.out.hl));have HNS:=aA (HNC.out.set (g:=w.heap.size+1) (k:=1+m) (by omega) (.int .i64 (x:Int)));have cm:=HIC.out.cell (Od _ _ _ m hml);have fm:=HIC.out.fz (k:=1+m) (by omega);rw[HE.out]at HIS;generalize (xs++aL (g'+1) 0)[m]=old at*;clear HIC HNC hml HE;have hmI:(0:Int)<=(m:Int)/\(m:Int)<256:=by omega
     go_wp2;go_roundg g'
     case measure=>omega
     case rel=>exact⟨xs++ [x],m+1,r2,by go_num,by simp[HX.out],by omega,ha,HQ2.out,HIS.out,HNS.out⟩
    ·have e:gk=0:=by omega
     subst e;have HE:Hid (bL s=xs/\lh8 s=r'):=by
      have e1:iO s x6 256 [] (lh7 s)=(xs,r'):=HQ.out;have e2:gC s - 1=x6:=by rw[ECL.out,EX.out]
      unfold Hid bL lh8;rw[e2,e1];exact⟨rfl,rfl⟩
     have HID:=HIB;rw[List.replicate_zero,List.append_nil]at HID;have hd2:decide ((m:Int)<256)=false:=by simp;omega
     clear HIB HQ hmg;go_wp2_with fail
     go_loopg [10] mn (fun gk _ wr=>∃(ys:List jG) (vc:Value) (j:Nat) (r2:LSt),ys.length=j/\j+gk=mn/\r2.1<=s.size/\
      jY s k cl mn [] r'=jY s k cl gk (ys.map (fun y=>y.2.map (·.1))) r2/\IW w wr rb s r2 (.slice (some ⟨bb,0,none⟩) k k) xs vc/\kE wr (w.heap.size+2) bb L/\
      wr.ownsRow (bb+1) 110 1 vc j (qJ ys)/\lC wr cl bb vc ys)
     case atStart=>exact⟨[],.slice none 0 0,0,r',rfl,by omega,hr',rfl,HID.out,HNB.out,World.ownsRow_nil _ _ _ _,fun y hy=>absurd hy (List.not_mem_nil)⟩
     case round=>
      obtain⟨ys,vc,j,r2,hyl,hjg,hr2,heq,hiw,hnw,how,hcw⟩:=hrel;have HQ:=aA heq;have HIW:=aA hiw;have HNW:=aA hnw;have HOW:=aA how;have HCW:=aA hcw;have HY:=aA hyl;clear heq hiw hnw how hcw hyl HID HNB;obtain⟨va,vcap,hvc⟩:=aK HOW.out;subst hvc;by_cases hlt3:j<mn
      ·obtain⟨g',rfl⟩:∃g',gk=g'+1:=⟨gk - 1,by omega⟩
       have HQ2:Hid (jY s k cl mn [] r'=jY s k cl g' (ys.map (fun y=>y.2.map (·.1))++ [(lB s k cl r2).1]) (lB s k cl r2).2):=HQ.out;have hc:=Nb s r2 k cl rb wr hs hcb HIW.out.rd hr2;have ha:=Db (ru:=k) (cl:=cl) hr2;generalize lB s k cl r2=N at*;obtain⟨zl,r3⟩:=N;simp only at*;have hd3:decide ((j:Int)<(mn:Int))=true:=by simp;omega
       have c257:=HIW.out.cell (rK _ _ _ HIW.out.hl);go_wp2_with fail;refine hc.mono ?_;rintro e w9 ⟨B,zs,hB,rfl,hzm,how9,hst9,hg9,hl9⟩;have HI9:=aA (HIW.out.step hg9 hl9);have HN9:=aA (HNW.out.grown hg9 (by omega));have HO9:Hid (w9.ownsRow (bb+1) 110 1 (.slice va j vcap) j (qJ ys)):=aA (HOW.out.kept hg9 (by
        cases hv:(bT va j vcap).ownBlock with
        | none=>exact .inl rfl
        | some q=>right;have:=(HOW.out.lt q hv).1;intro e;injection e;omega))
       have hbw:bb<wr.heap.size:=HNW.out.2.1;have HC9:Hid (lC w9 cl bb (.slice va j vcap) (ys++ [(B,zs)])):=aA ((HCW.out.move hg9 (fun q hq=>by injection hq;left;omega) (fun q _ hq=>hq)).snoc ⟨⟨(how9.lt B rfl).2,by
         intro i u hu;have:=how9.cells rfl i u hu;by_cases hi:i=0
         ·subst hi;simpa[Addr.add]using this
         ·simpa[Addr.add,hi]using this,fun z hz=>⟨(hst9 z hz).2.1,(hst9 z hz).2.2⟩⟩,fun q hq=>by
         have hq':B<=q:=by
          rcases hq with rfl | ⟨z,hz,rfl⟩
          ·exact bS _
          ·have:=(hst9 z hz).1;omega
         refine⟨by omega,fun e=> ?_⟩;have:=(HOW.out.lt q e).2;omega⟩)
       have HZ:=aA hzm;clear hg9 hl9 how9 hst9 hzm HIW HNW HOW HCW hc HQ c257;have c257:=HI9.out.cell (rK _ _ _ HI9.out.hl);have hz9:wr.heap.size<=w9.heap.size:=by have:=HC9.out (B,zs) (bK.2 (.inr (aT.2 rfl)));have:=this.1.lt;simp only at this;omega
       go_wp2_with (first | (at_builtin;refine aF w9 rfl (.tmp 65) (.tmp 67) 52 rfl (bb+1) 110 (.slice none 0 0) 1 24 Tryz.underlying52 Tryz.infoConds rfl (by decide) (by decide) _ j (qJ ys) [.slice (some ⟨B,0,none⟩) zs.length zs.length] _ rfl HO9.out _ rfl rfl rfl (by simp[Value.oneCell']) (by omega) (by omega) ?_;intro ga capa wa howa hga hata hlta;have HIA:=aA ((HI9.out.other (bM w9 _ none) (fun q hq=>by cases hq)).other hga (fun q hq=>by have:=(HO9.out.lt q hq).1;omega));have d257:=HIA.out.cell (rK _ _ _ HIA.out.hl);have f257:=HIA.out.fz (k:=257) (by omega);clear c257));have hnc:∀q,q<(w9.alloc (.cells #[.slice (some ⟨B,0,none⟩) zs.length zs.length] 110)).heap.size->(bT (some ⟨ga,0,none⟩) (j+1) capa).ownBlock=some q->(bT va j vcap).ownBlock=some q:=fun q hq e=>by
        have e':ga=q:=by simpa[Value.ownBlock]using e
        subst e';rcases hata with h1 | h1
        ·exact h1
        ·simp at hq;omega
       go_roundg g'
       case measure=>omega
       case rel=>
        refine⟨ys++ [(B,zs)],.slice (some ⟨ga,0,none⟩) (j+1) capa,j+1,r3,by simp[HY.out],by omega,ha, ?_, ?_, ?_, ?_, ?_⟩
        ·rw[List.map_append,List.map_singleton];simp only;rw[HZ.out];exact HQ2.out
        ·exact HIA.out.set (k:=257) (by omega) (Dc _ _ _ _ HIA.out.hl) HIA.out.hl
        ·refine kE.set ((HN9.out.grown (g:=w.heap.size) (bM w9 _ _) (by omega)).block hga.size (hga.block bb (by simp;have:=HN9.out.2.1;omega) (fun e=> ?_))) (by omega) _;have:=(HO9.out.lt bb e.symm).1;omega
        ·rw[G7];exact ownsRow_setCell_below howa (by show w.heap.size+1<bb+1;omega) _
        ·exact lC.set ((HC9.out.move (bM w9 _ none) (fun q hq=>by cases hq) (fun q _ hq=>hq)).move hga (fun q hq=> .inr hq) hnc) (by omega) _
      ·have e:gk=0:=by omega
       subst e;have HE9:Hid (vF s=ys.map (fun y=>y.2.map (·.1))/\lh9 s=r2):=by
        have e1:jY s k cl mn [] r'=(ys.map (fun y=>y.2.map (·.1)),r2):=HQ.out;unfold Hid vF lh9;rw[ERU.out,ECL.out,EMN.out,HE.out.2,e1];exact⟨rfl,rfl⟩
       have c257:=HIW.out.cell (rK _ _ _ HIW.out.hl);have hd3:decide ((j:Int)<(mn:Int))=false:=by simp;omega
       have HONE:=aA (wR (vb:= .slice (some ⟨bb,0,none⟩) k k) (vc:= .slice va j vcap) (cs:=xs) rfl rfl);have HLEN:=aA (lX (.slice (some ⟨bb,0,none⟩) k k) xs (.slice va j vcap) HIW.out.hl);obtain⟨IL,EIL⟩:∃l,jU (.slice (some ⟨bb,0,none⟩) k k) xs (.slice va j vcap)=l:=⟨_,rfl⟩
       have HIM:Hid (wr.rangeAt (w.heap.size+1) 0 IL):=by rw[←EIL];exact HIW.out.im
       rw[EIL]at HONE HLEN;replace EIL:=aA EIL;have HSZ:Hid (IL.toArray.size=258):=by unfold Hid;simpa using HLEN.out
       go_wp2_with (first | (refine wpList_load_mid rfl 72 (.tmp 3) rfl (w.heap.size+1) 0 rfl IL _ HIM.out Tryz.underlying72 rfl ?_ ?_;(rw[HLEN.out];exact Tryz.imgSize)) | (refine wpList_store_mid rfl 72 (.tmp 2) (.tmp 70) rfl w.heap.size 0 IL.toArray rfl rfl ?_ ?_ (all_oneCell_toArray HONE.out) ?_;(rw[HSZ.out];exact HIW.out.t0);(rw[HSZ.out];exact Tryz.imgSize)));have HT0:Hid (wr.there w.heap.size 0 IL.length):=by unfold Hid;rw[HLEN.out];exact HIW.out.t0
       refine eP Tryz.results51 w.heap.size 0 IL _ rfl ?_ Tryz.underlying72 rfl (by rw[HLEN.out];exact Tryz.imgSize) rfl ?_
       ·exact bN _ _ _ _ HT0.out
       ·have hbs:=aD IL 0 wr w.heap.size (cT w.heap.size _) (bS _);have hyl:=HY.out;refine⟨bb,.slice va j vcap,ys, ?_, ?_, ?_,HE9.out.1.symm,fun y hy=> ?_, ?_, ?_⟩
        ·rw[ERU.out,HE.out.1,EIL.out]
        ·rw[EL.out];exact HNW.out.block hbs.size (fJ wr w.heap.size 0 IL bb (by omega))
        ·rw[hyl];exact eG HOW.out (by omega) IL 0
        ·rw[ECL.out];obtain⟨h1,h2⟩:=HCW.out y hy;exact⟨h1.block hbs.size (fun q _ ho=>fJ wr w.heap.size 0 IL q (by have:=(h2 q ho).1;omega)),fun q ho=>(h2 q ho).1⟩
        ·exact iU HIW.out.g _ _ _ (bS _)
        ·rw[HE9.out.2];exact HIW.out.rd.below hbs hrb
end Go.Proofs.YtgjgjgihceijnaaGreat
namespace Go.Proofs.YtgjgjgihceijnaaGreat
open Go.RowKit Go.Stn
end Go.Proofs.YtgjgjgihceijnaaGreat
namespace Go.Proofs.YtgjgjgihceijnaaGreat
open Go.RowKit Go.Stn
def chk (s:ByteArray):Int:=if 120000<s.size then 1 else if fV s=true then 0 else 5
end Go.Proofs.YtgjgjgihceijnaaGreat
