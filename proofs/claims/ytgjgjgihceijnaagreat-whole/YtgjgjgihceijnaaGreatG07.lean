import Derived.Test.YtgjgjgihceijnaaGreatG06
import Derived.Deep.CutBlock
open Go.World renaming cell?_setCell_other->aL,cell?_setCell_same->aO,frozen?_setCell->aT,setCell->bS
open Nat renaming le_refl->aR,mul_comm->bD,zero_add->bM,div_eq_of_lt->bN,mul_add_div->bO,zero_le->bT
open List renaming getElem?_eq_getElem->bC
open Go.RowKit.Below renaming refl->bK
open Go.Value renaming int->cF
set_option maxRecDepth 100000
set_option maxHeartbeats 8000000
namespace Go.Proofs.YtgjgjgihceijnaaGreat
open Go.RowKit Go.Stn
structure CW (w:World)(cb top:Nat)(s inp:ByteArray)(bb vg vcap:Nat)(yb:Nat->Nat)(zb:Nat->Nat->Nat)(vt:Value)(hg hcap:Nat)(hbk:Nat->Nat)(HT:Nat->Nat->Bool)(c p n:Nat)(T:List (Int×Int×Int)):Prop where
 mem:IM w s bb vg yb zb cb
 im:w.rangeAt cb 0 (jU (.slice (some ⟨bb,0,none⟩) (iR s) (iR s)) (bL s) (.slice (some ⟨vg,0,none⟩) (iM s) vcap))
 k1:w.cell? ⟨cb,258,none⟩=some (.string inp)
 k2:w.cell? ⟨cb,259,none⟩=some (.int .i64 c)
 k3:w.cell? ⟨cb,260,none⟩=some (.int .i64 p)
 k4:w.cell? ⟨cb,261,none⟩=some (.int .i64 n)
 k5:w.cell? ⟨cb,262,none⟩=some vt
 k6:w.cell? ⟨cb,263,none⟩=some (.slice (some ⟨hg,0,none⟩) (iM s) hcap)
 fz:∀i,w.frozen? ⟨cb,i,none⟩=false
 rt:w.ownsRow (cb+1) 79 3 vt T.length (dZ T)
 hl:∀j,j<iM s->w.cell? ⟨hg,j,none⟩=some (.slice (some ⟨hbk j,0,none⟩) (nSt s j*inp.size) (nSt s j*inp.size))
 tb:∀j k,j<iM s->k<nSt s j*inp.size->w.cell? ⟨hbk j,k,none⟩=some (.bool (HT j k))/\w.frozen? ⟨hbk j,k,none⟩=false
 b0:cb<top
 b1:cb<hg/\hg<top
 b2:∀j,j<iM s->cb<hbk j/\hbk j<top/\hbk j≠hg
 bi:∀i j,i<iM s->j<iM s->hbk i=hbk j->i=j
 bv:∀k,vt.ownBlock=some k->k<top/\k≠hg/\∀j,j<iM s->k≠hbk j
 hz:top<=w.heap.size
variable {w w':World} {cb top:Nat} {s inp:ByteArray} {bb vg vcap:Nat} {yb:Nat->Nat} {zb:Nat->Nat->Nat} {vt:Value} {hg hcap:Nat} {hbk:Nat->Nat} {HT:Nat->Nat->Bool} {c p n:Nat} {T:List (Int×Int×Int)}
theorem cV {base:Nat}{e:TypeId}{size:Nat}{v:Value}{m:Nat}{xs:List Value}(hr:w.ownsRow base e size v m xs)(hB:∀k,v.ownBlock=some k->w'.heap[k]? =w.heap[k]?):w'.ownsRow base e size v m xs:=by
 refine⟨hr.1, ?_⟩;rcases hr.2 with hn | ⟨g,cap,cur,rfl,hbg,hg,rest⟩
 ·exact .inl hn
 ·exact .inr ⟨g,cap,cur,rfl,hbg,(hB g rfl).trans hg,rest⟩
theorem CW.below (h:CW w cb top s inp bb vg vcap yb zb vt hg hcap hbk HT c p n T)(hB:Below top w w'):CW w' cb top s inp bb vg vcap yb zb vt hg hcap hbk HT c p n T:=by
 have b0:=h.b0;have cl:∀i,w'.cell? ⟨cb,i,none⟩=w.cell? ⟨cb,i,none⟩:=fun i=>hB.cell (p:=⟨cb,i,none⟩) b0
 exact⟨h.mem.below hB (by omega),fun j v hv=>(cl (0+j)).trans (h.im j v hv),(cl _).trans h.k1,(cl _).trans h.k2,(cl _).trans h.k3,(cl _).trans h.k4,(cl _).trans h.k5,(cl _).trans h.k6,
  fun i=>(hB.frozen (p:=⟨cb,i,none⟩) b0).trans (h.fz i),cV h.rt (fun k hk=>hB.block k (h.bv k hk).1),fun j hj=>(hB.cell (p:=⟨hg,j,none⟩) h.b1.2).trans (h.hl j hj),
  fun j k hj hk=>⟨(hB.cell (p:=⟨hbk j,k,none⟩) (h.b2 j hj).2.1).trans (h.tb j k hj hk).1,(hB.frozen (p:=⟨hbk j,k,none⟩) (h.b2 j hj).2.1).trans (h.tb j k hj hk).2⟩,
  h.b0,h.b1,h.b2,h.bi,h.bv,Nat.le_trans h.hz hB.size⟩
theorem CW.drewN (h:CW w cb top s inp bb vg vcap yb zb vt hg hcap hbk HT c p n T)(q:Nat):CW (w.drewN q) cb top s inp bb vg vcap yb zb vt hg hcap hbk HT c p n T:=
 ⟨h.mem.drewN q,h.im,h.k1,h.k2,h.k3,h.k4,h.k5,h.k6,h.fz,h.rt,h.hl,h.tb,h.b0,h.b1,h.b2,h.bi,h.bv,h.hz⟩
theorem CW.raise (h:CW w cb top s inp bb vg vcap yb zb vt hg hcap hbk HT c p n T):CW w cb w.heap.size s inp bb vg vcap yb zb vt hg hcap hbk HT c p n T:=by
 have hz:=h.hz;have b0:=h.b0;have b1:=h.b1;exact⟨h.mem,h.im,h.k1,h.k2,h.k3,h.k4,h.k5,h.k6,h.fz,h.rt,h.hl,h.tb,by omega,by omega,fun j hj=>by have:=h.b2 j hj;exact⟨this.1,by omega,this.2.2⟩,h.bi,fun k hk=>by have:=h.bv k hk;exact⟨by omega,this.2⟩,aR _⟩
theorem mL {B b i:Nat}{v:Value}(h:B<=b):Below B w (w.setCell ⟨b,i,none⟩ v):=(bK _ _).setCell (p:=⟨b,i,none⟩) h v
theorem CW.setOwn (h:CW w cb top s inp bb vg vcap yb zb vt hg hcap hbk HT c p n T)(i:Nat)(v:Value)(hi:258<=i):
  (∀j u,j≠i->w.cell? ⟨cb,j,none⟩=some u->(w.setCell ⟨cb,i,none⟩ v).cell? ⟨cb,j,none⟩=some u)/\
  IM (w.setCell ⟨cb,i,none⟩ v) s bb vg yb zb cb/\(w.setCell ⟨cb,i,none⟩ v).rangeAt cb 0 (jU (.slice (some ⟨bb,0,none⟩) (iR s) (iR s)) (bL s) (.slice (some ⟨vg,0,none⟩) (iM s) vcap))/\
  (∀i',(w.setCell ⟨cb,i,none⟩ v).frozen? ⟨cb,i',none⟩=false)/\(w.setCell ⟨cb,i,none⟩ v).ownsRow (cb+1) 79 3 vt T.length (dZ T)/\
  (∀j,j<iM s->(w.setCell ⟨cb,i,none⟩ v).cell? ⟨hg,j,none⟩=some (.slice (some ⟨hbk j,0,none⟩) (nSt s j*inp.size) (nSt s j*inp.size)))/\
  (∀j k,j<iM s->k<nSt s j*inp.size->(w.setCell ⟨cb,i,none⟩ v).cell? ⟨hbk j,k,none⟩=some (.bool (HT j k))/\(w.setCell ⟨cb,i,none⟩ v).frozen? ⟨hbk j,k,none⟩=false)/\
  top<=(w.setCell ⟨cb,i,none⟩ v).heap.size:=by
 have o:∀j u,j≠i->w.cell? ⟨cb,j,none⟩=some u->(w.setCell ⟨cb,i,none⟩ v).cell? ⟨cb,j,none⟩=some u:=fun j u hj hu=>by
  rw[aL (h:=by intro e;injection e;omega)];exact hu
 have hlen:∀j u,(jU (.slice (some ⟨bb,0,none⟩) (iR s) (iR s)) (bL s) (.slice (some ⟨vg,0,none⟩) (iM s) vcap))[j]? =some u->j<258:=fun j u hu=>by
  have:=(List.getElem?_eq_some_iff.1 hu).1;rw[lX _ _ _ (by unfold bL;rw[jJ];rfl)]at this;exact this
 refine⟨o,h.mem.below (mL (aR _)) (aR _),fun j u hu=>o _ _ (by have:=hlen j u hu;omega) (h.im j u hu),fun i'=>by rw[aT];exact h.fz i',
  ownsRow_setCell_below h.rt (Nat.lt_succ_self _) _,fun j hj=> ?_,fun j k hj hk=>⟨?_,by rw[aT];exact(h.tb j k hj hk).2⟩,by have:=h.hz;simp[bS];omega⟩
 ·rw[aL (h:=by intro e;injection e;have:=h.b1;omega)];exact h.hl j hj
 ·rw[aL (h:=by intro e;injection e;have:=h.b2 j hj;omega)];exact(h.tb j k hj hk).1
theorem CW.stepN (h:CW w cb top s inp bb vg vcap yb zb vt hg hcap hbk HT c p n T):CW (w.setCell ⟨cb,261,none⟩ (.int .i64 ((n:Int)+1))) cb top s inp bb vg vcap yb zb vt hg hcap hbk HT c p (n+1) T:=by
 obtain⟨o,a1,a2,a3,a4,a5,a6,a7⟩:=h.setOwn 261 (.int .i64 ((n:Int)+1)) (by omega);exact⟨a1,a2,o _ _ (by omega) h.k1,o _ _ (by omega) h.k2,o _ _ (by omega) h.k3,aO _ _ _ h.k4,o _ _ (by omega) h.k5,o _ _ (by omega) h.k6,a3,a4,a5,a6,h.b0,h.b1,h.b2,h.bi,h.bv,a7⟩
theorem CW.setC (h:CW w cb top s inp bb vg vcap yb zb vt hg hcap hbk HT c p n T)(c':Nat):CW (w.setCell ⟨cb,259,none⟩ (.int .i64 (c':Int))) cb top s inp bb vg vcap yb zb vt hg hcap hbk HT c' p n T:=by
 obtain⟨o,a1,a2,a3,a4,a5,a6,a7⟩:=h.setOwn 259 (.int .i64 (c':Int)) (by omega);exact⟨a1,a2,o _ _ (by omega) h.k1,aO _ _ _ h.k2,o _ _ (by omega) h.k3,o _ _ (by omega) h.k4,o _ _ (by omega) h.k5,o _ _ (by omega) h.k6,a3,a4,a5,a6,h.b0,h.b1,h.b2,h.bi,h.bv,a7⟩
theorem CW.setP (h:CW w cb top s inp bb vg vcap yb zb vt hg hcap hbk HT c p n T)(p':Nat):CW (w.setCell ⟨cb,260,none⟩ (.int .i64 (p':Int))) cb top s inp bb vg vcap yb zb vt hg hcap hbk HT c p' n T:=by
 obtain⟨o,a1,a2,a3,a4,a5,a6,a7⟩:=h.setOwn 260 (.int .i64 (p':Int)) (by omega);exact⟨a1,a2,o _ _ (by omega) h.k1,o _ _ (by omega) h.k2,aO _ _ _ h.k3,o _ _ (by omega) h.k4,o _ _ (by omega) h.k5,o _ _ (by omega) h.k6,a3,a4,a5,a6,h.b0,h.b1,h.b2,h.bi,h.bv,a7⟩
theorem CW.mark (h:CW w cb top s inp bb vg vcap yb zb vt hg hcap hbk HT c p n T){i k:Nat}(hi:i<iM s)(hk:k<nSt s i*inp.size):
  CW (w.setCell ⟨hbk i,k,none⟩ (.bool true)) cb top s inp bb vg vcap yb zb vt hg hcap hbk (fun j m=>if j=i/\m=k then true else HT j m) c p n T:=by
 have b2:=h.b2 i hi;have o:∀b j u,b≠hbk i->w.cell? ⟨b,j,none⟩=some u->(w.setCell ⟨hbk i,k,none⟩ (.bool true)).cell? ⟨b,j,none⟩=some u:=fun b j u hj hu=>by
  rw[aL (h:=by intro e;injection e;omega)];exact hu
 refine⟨h.mem.below (mL (by omega)) (aR _),fun j u hu=>o _ _ _ (by omega) (h.im j u hu),o _ _ _ (by omega) h.k1,o _ _ _ (by omega) h.k2,o _ _ _ (by omega) h.k3,o _ _ _ (by omega) h.k4,o _ _ _ (by omega) h.k5,o _ _ _ (by omega) h.k6,
  fun i'=>by rw[aT];exact h.fz i',cV h.rt (fun q hq=>Below.heap_setCell _ _ _ _ (by have:=(h.bv q hq).2.2 i hi;exact this)),fun j hj=>o _ _ _ (by omega) (h.hl j hj),fun j m hj hm=>⟨?_,by rw[aT];exact(h.tb j m hj hm).2⟩,
  h.b0,h.b1,h.b2,h.bi,h.bv,by have:=h.hz;simp[bS];omega⟩
 by_cases e:j=i
 ·subst e;by_cases e2:m=k
  ·subst e2;rw[if_pos ⟨rfl,rfl⟩];exact aO _ _ _ (h.tb j m hj hm).1
  ·rw[if_neg (fun q=>e2 q.2),aL (h:=by intro e';injection e';omega)];exact(h.tb j m hj hm).1
 ·rw[if_neg (fun q=>e q.1)];exact o _ _ _ (fun q=>e (h.bi j i hj hi q)) (h.tb j m hj hm).1
end Go.Proofs.YtgjgjgihceijnaaGreat
namespace Go.Stn
open Go.RowKit
def F3 (L:Nat)(S:List (Int×Int×Int)):List Value:=S.map fun(x:Int×Int×Int)=>cF .i64 (x.2.1*(L:Int)+x.2.2)
theorem Kl (L:Nat)(S:List (Int×Int×Int))(c st i:Nat):F3 L (S++ [std c st i])=F3 L S++ [cF .i64 ((st:Int)*(L:Int)+(i:Int))]:=by simp[F3,std]
def vZ (s inp:ByteArray)(H:List (Int×Int×Int))(HT:Nat->Nat->Bool):Prop:=∀c st i,c<iM s->st<nSt s c->i<inp.size->HT c (st*inp.size+i)=oR H (std c st i)
def okS (s inp:ByteArray)(c:Nat)(S:List (Int×Int×Int)):Prop:=∀x∈S,∃st i,x=std c st i/\st<nSt s c/\i<inp.size
theorem Pg {s inp:ByteArray}{c st i:Nat}{S:List (Int×Int×Int)}(h:okS s inp c S)(h1:st<nSt s c)(h2:i<inp.size):okS s inp c (S++ [std c st i]):=fun x hx=>by
 rcases List.mem_append.1 hx with h3 | h3
 ·exact h x h3
 ·rw[List.mem_singleton]at h3;exact⟨st,i,h3,h1,h2⟩
theorem Iy (s inp:ByteArray)(c:Nat):okS s inp c []:=fun _ hx=>absurd hx (List.not_mem_nil)
theorem Qn (H:List (Int×Int×Int))(x y:Int×Int×Int):oR (H++ [x]) y=(oR H y || decide (y=x)):=by
 unfold oR;rw[Bool.eq_iff_iff];simp
theorem sQ {n L st i:Nat}(h1:st<n)(h2:i<L):st*L+i<n*L:=by
 have:=Nat.mul_le_mul_right L (show st+1<=n from h1);rw[Nat.add_mul]at this;omega
theorem Lc {L st i st' i':Nat}(h1:i<L)(h2:i'<L)(h:st*L+i=st'*L+i'):st=st'/\i=i':=by
 have hL:0<L:=by omega
 have e1:(st*L+i) / L=st:=by rw[bD,bO hL,bN h1];omega
 have e2:(st'*L+i') / L=st':=by rw[bD,bO hL,bN h2];omega
 have e:st=st':=by rw[←e1,←e2,h]
 subst e;exact⟨rfl,by omega⟩
theorem Np {s inp:ByteArray}{H:List (Int×Int×Int)}{HT:Nat->Nat->Bool}(h:vZ s inp H HT){c st i:Nat}(h2:i<inp.size):
  vZ s inp (H++ [std c st i]) (fun j m=>if j=c/\m=st*inp.size+i then true else HT j m):=by
 intro c' st' i' hc hs hi;rw[Qn];by_cases e:c'=c/\st'*inp.size+i'=st*inp.size+i
 ·simp only;rw[if_pos e];obtain⟨e1,e2⟩:=Lc hi h2 e.2;rw[e.1,e1,e2];simp
 ·simp only;rw[if_neg e,h c' st' i' hc hs hi];have:decide (std c' st' i'=std c st i)=false:=by
   rw[decide_eq_false_iff_not];intro q;obtain⟨q1,q2,q3⟩:=W9 q;exact e ⟨q1,by rw[q2,q3]⟩
  rw[this,Bool.or_false]
def Ea:Option (Nat×Nat)->Nat
 | none=>0
 | some x=>x.1+1
def toN (p:Nat):Option (Nat×Nat)->Nat
 | none=>p
 | some x=>x.2
theorem Dr {s inp:ByteArray}{c d st i:Nat}{H:List (Int×Int×Int)}{b:Option (Nat×Nat)}(h:oR H (std c st i)=true):iF s inp c H (d+1) st i b=b:=by rw[iF,if_pos h]
theorem N4 {s inp:ByteArray}{c d st i:Nat}{H:List (Int×Int×Int)}{b:Option (Nat×Nat)}(h:oR H (std c st i)=false)(hl:bE s c st (bt inp i)=255):iF s inp c H (d+1) st i b=b:=by
 rw[iF,if_neg (by rw[h];decide),if_pos hl]
theorem Bx {s inp:ByteArray}{c d st i:Nat}{H:List (Int×Int×Int)}{b:Option (Nat×Nat)}(h:oR H (std c st i)=false)(hl:bE s c st (bt inp i)≠255)(hm:0<eA s c (bE s c st (bt inp i))):
  iF s inp c H (d+1) st i b=iF s inp c H d (bE s c st (bt inp i)) (i+1) (some (eA s c (bE s c st (bt inp i)) - 1,i+1)):=by
 rw[iF,if_neg (by rw[h];decide),if_neg hl,if_pos hm]
theorem Ey {s inp:ByteArray}{c d st i:Nat}{H:List (Int×Int×Int)}{b:Option (Nat×Nat)}(h:oR H (std c st i)=false)(hl:bE s c st (bt inp i)≠255)(hm:eA s c (bE s c st (bt inp i))=0):
  iF s inp c H (d+1) st i b=iF s inp c H d (bE s c st (bt inp i)) (i+1) b:=by
 rw[iF,if_neg (by rw[h];decide),if_neg hl,if_neg (by omega)]
end Go.Stn
namespace Go.Proofs.YtgjgjgihceijnaaGreat
open Go.RowKit Go.Stn
def Iz (w:World)(cb:Nat)(s inp:ByteArray)(bb vg vcap:Nat)(yb:Nat->Nat)(zb:Nat->Nat->Nat)(vt:Value)(hg hcap:Nat)(hbk:Nat->Nat)(c p n:Nat)(H T:List (Int×Int×Int))(e:Ending)(w':World):Prop:=
 e= .returned (.tuple #[.int .i64 ((Ea (iF s inp c H (inp.size - p) 0 p none):Nat):Int),.int .i64 ((toN p (iF s inp c H (inp.size - p) 0 p none):Nat):Int)])/\
 Below cb w w'/\∃HT',CW w' cb w'.heap.size s inp bb vg vcap yb zb vt hg hcap hbk HT' c p (n+(eW s inp c H p).2) T/\vZ s inp (H++(eW s inp c H p).1) HT'
theorem Sh {w:World}{base e g n cap:Nat}{xs:List Value}(h:w.ownsRow base e 1 (.slice (some ⟨g,0,none⟩) n cap) n xs):w.ownsRow base e 1 (.slice (some ⟨g,0,none⟩) 0 cap) 0 []:=by
 refine⟨rfl, ?_⟩;rcases h.2 with⟨hn,_⟩ | ⟨g',cap',cur,he,hbg,hg,hnc,hcm,hcs,_⟩
 ·cases hn
 ·cases he
  exact .inr ⟨g,cap,cur,rfl,hbg,hg,bT _,hcm,hcs,by simp⟩
theorem vD (w:World)(e:TypeId):(w.alloc (.cells #[] e)).ownsRow w.heap.size e 1 (.slice (some ⟨w.heap.size,0,none⟩) 0 0) 0 []:=by
 refine⟨rfl,.inr ⟨w.heap.size,0, #[],rfl,aR _,heap_alloc_new w _,aR _, ?_⟩⟩;simp
theorem Kp (s inp:ByteArray)(cb bb vg vcap:Nat)(yb:Nat->Nat)(zb:Nat->Nat->Nat)(vt:Value)(hg hcap:Nat)(hbk:Nat->Nat)(HT:Nat->Nat->Bool)(c p n:Nat)(H T:List (Int×Int×Int))(w:World)
  (hi:fV s=true) (hin:inp.size<=300) (hp:p<=inp.size) (hc:c<iM s) (hn:n<=100000) (hH:vZ s inp H HT)
  (hcw:CW w cb w.heap.size s inp bb vg vcap yb zb vt hg hcap hbk HT c p n T):
  Calls Tryz.prog 52 #[.pointer (some ⟨cb,0,none⟩)] w fun e w'=>Iz w cb s inp bb vg vcap yb zb vt hg hcap hbk c p n H T e w':=by
 have HCW:=aA hcw;obtain⟨M,EM⟩:∃M,iM s=M:=⟨_,rfl⟩
 obtain⟨N,EN⟩:∃N,nSt s c=N:=⟨_,rfl⟩
 obtain⟨NL,ENL⟩:∃NL,N*inp.size=NL:=⟨_,rfl⟩
 have hM:=(nJ hi).2.2.2.1;have hcI:(0:Int)<=(c:Int)/\(c:Int)<(M:Int):=by omega
 have HLEN:=aA (show(bL s).length=256 by unfold bL;rw[jJ];rfl);have k257:w.cell? ⟨cb,257,none⟩=some (.slice (some ⟨vg,0,none⟩) M vcap):=by have:=hcw.im 257 _ (rK _ _ _ HLEN.out);rw[bM,EM]at this;exact this
 have k2:=hcw.k2;have k3:=hcw.k3;have k6:=hcw.k6;rw[EM]at k6;have m1:=hcw.mem.co c hc;rw[EN]at m1;have m2:=hcw.hl c hc;rw[EN,ENL]at m2;have HH:=aA hH;have HI:=aA hi;have hN:=X7 hi hc;rw[EN]at hN;have hNL:NL<=30000:=by rw[←ENL];have:=Nat.mul_le_mul hN.1 hin;omega
 have hc':c<M:=by omega
 replace hc:=aA hc;replace EM:=aA EM;replace EN:=aA EN;replace ENL:=aA ENL;clear hcw hH hM hi;go_enter Tryz.func52,Tryz.ntmps52;go_wp2;go_quiet (fail);have HCWa:=aA (HCW.out.drewN nq);have HBa:Hid (Below cb w (w.drewN nq)):=_root_.Go.below_drewN (bK _ _) nq;have hza:(w.drewN nq).heap.size=w.heap.size:=rfl;generalize w.drewN nq=wa at*;clear k257 k2 k3 k6 m1 m2 HCW;have k2:=HCWa.out.k2;have k6:=HCWa.out.k6;rw[EM.out]at k6;have m2:=HCWa.out.hl c hc.out;rw[EN.out,ENL.out]at m2;go_wp2;go_quiet (fail);have HCWb:=aA (HCWa.out.drewN nq);have HBb:Hid (Below cb w (wa.drewN nq)):=_root_.Go.below_drewN HBa.out nq;have hzb:(wa.drewN nq).heap.size=w.heap.size:=hza;generalize wa.drewN nq=wb at*;clear k2 k6 m2 HCWa HBa hza;have k3:=HCWb.out.k3;go_upto_region 7 with fail;have HCW0:=aA (HCWb.out.below ((bK _ _).alloc HCWb.out.hz (.cells #[] 3)));have HB0:Hid (Below cb w (wb.alloc (.cells #[] 3))):=HBb.out.alloc (by have:=HCWb.out.b0;omega) _;have HO0:Hid ((wb.alloc (.cells #[] 3)).ownsRow w.heap.size 3 1 (.slice (some ⟨w.heap.size,0,none⟩) 0 0) 0 []):=by
  rw[←hzb];exact vD wb 3
 have hz0:w.heap.size<(wb.alloc (.cells #[] 3)).heap.size:=by simp;omega
 clear k3;generalize wb.alloc (.cells #[] 3)=w0 at*;clear HCWb HBb;have k3:=HCW0.out.k3;go_upto_block 0 with fail;clear k3;obtain⟨BEST,EB⟩:∃b,iF s inp c H (inp.size - p) 0 p none=b:=⟨_,rfl⟩
 obtain⟨SF,ESF⟩:∃b,eW s inp c H p=b:=⟨_,rfl⟩
 replace EB:=aA EB;replace ESF:=aA ESF
 go_cut [6,7,9] from 14 (fun tk tto sd wc=>∃(g cap:Nat),tk= .int .i64 (Ea BEST:Nat)/\tto= .int .i64 (toN p BEST:Nat)/\sd= .slice (some ⟨g,0,none⟩) SF.1.length cap/\okS s inp c SF.1/\SF.1.length<=300/\
  wc.ownsRow w.heap.size 3 1 (.slice (some ⟨g,0,none⟩) SF.1.length cap) SF.1.length (F3 inp.size SF.1)/\CW wc cb w.heap.size s inp bb vg vcap yb zb vt hg hcap hbk HT c p (n+SF.2) T/\Below cb w wc)
 case rest=>
  obtain⟨g,cap,rfl,rfl,rfl,hok,hsl,hown,hcw,hb⟩:=hcut;have HOK:=aA hok;have HO1:=aA hown;have HC1:=aA hcw;have HB1:=aA hb;clear hok hown hcw hb HCW0 HB0 HO0;obtain⟨S,kk⟩:=SF;simp only at*;go_wp2_with fail
  go_loopw [115] (fun x wr=>∃(k:Nat) (HTk:Nat->Nat->Bool),x= .int .i64 (k:Int)/\k<=S.length/\CW wr cb w.heap.size s inp bb vg vcap yb zb vt hg hcap hbk HTk c p (n+kk) T/\vZ s inp (H++S.take k) HTk/\
   wr.ownsRow w.heap.size 3 1 (.slice (some ⟨g,0,none⟩) S.length cap) S.length (F3 inp.size S)/\Below cb w wr) (fun x _=>S.length - (intOf x).toNat)
  case atStart=>exact⟨0,HT,rfl,bT _,HC1.out,by rw[List.take_zero,List.append_nil];exact HH.out,HO1.out,HB1.out⟩
  case round=>
   obtain⟨k,HTk,rfl,hk,hcw,hho,hown,hb⟩:=hrel;have HC2:=aA hcw;have HH2:=aA hho;have HO2:=aA hown;have HB2:=aA hb;clear hcw hho hown hb HC1 HO1 HB1;by_cases hlt:k<S.length
   ·obtain⟨st,i,hx,hst,hil⟩:=HOK.out _ (List.getElem_mem hlt);have hm:=HC2.out.tb c (st*inp.size+i) hc.out (sQ hst hil);have hcell:wr.cell? ⟨g,k,none⟩=some (.int .i64 ((st*inp.size+i:Nat):Int)):=by
     have e:(F3 inp.size S)[k]? =some (.int .i64 ((st*inp.size+i:Nat):Int)):=by
      unfold F3;rw[List.getElem?_map,bC hlt,hx];simp[std]
     have:=lQ HO2.out k _ e;rw[bM]at this;exact this
    have HM:=aA (HC2.out.mark hc.out (sQ hst hil));have HK:=aA (Np HH2.out (c:=c) (st:=st) hil);have HTK:Hid (H++S.take k++ [std c st i]=H++S.take (k+1)):=by
     unfold Hid;rw[List.append_assoc,←hx,List.take_add_one,bC hlt];rfl
    have hy:st*inp.size+i<NL:=by have:=sQ hst hil;rw[EN.out,ENL.out]at this;exact this
    generalize st*inp.size+i=Y at*;generalize HTk c Y=old at*;clear hx hst hil;have hcell2:=hm.1;have hfz2:=hm.2;clear hm;have hyI:(0:Int)<=(Y:Int)/\(Y:Int)<(NL:Int):=by omega
    have hkI:(0:Int)<=(k:Int)/\(k:Int)<(S.length:Int):=by omega
    have HO3:=aA (ownsRow_setCell_below (a:=⟨hbk c,Y,none⟩) HO2.out (HC2.out.b2 c hc.out).2.1 (.bool true));have HB3:=aA (HB2.out.setCell (p:=⟨hbk c,Y,none⟩) (Nat.le_of_lt (HC2.out.b2 c hc.out).1) (.bool true));go_wp2;go_roundw
    case rel=>exact⟨k+1,_,by go_num,hlt,HM.out,by rw[←HTK.out];exact HK.out,HO3.out,HB3.out⟩
    case measure=>simp[intOf];omega
   ·have e:k=S.length:=by omega
    subst e;go_wp2;go_ret2;refine⟨by rw[EB.out];rfl,HB2.out,HTk, ?_, ?_⟩
    ·rw[ESF.out];exact HC2.out.raise
    ·rw[ESF.out];have:=HH2.out;rw[List.take_length]at this;exact this
 case first=>
  go_wp2_with fail
  go_loopg [6,7,8,9,10] (inp.size - p) (fun gk tk tto sv sd iv wr=>∃(best:Option (Nat×Nat)) (st i k:Nat) (S:List (Int×Int×Int)) (g cap:Nat),tk= .int .i64 (Ea best:Nat)/\tto= .int .i64 (toN p best:Nat)/\
   sv= .int .i64 (st:Int)/\sd= .slice (some ⟨g,0,none⟩) S.length cap/\iv= .int .i64 (i:Int)/\st<N/\p<=i/\i+gk=inp.size/\k<=i - p/\S.length<=i - p/\okS s inp c S/\
   SF=lU s inp c H gk st i S k/\BEST=iF s inp c H gk st i best/\
   wr.ownsRow w.heap.size 3 1 (.slice (some ⟨g,0,none⟩) S.length cap) S.length (F3 inp.size S)/\CW wr cb w.heap.size s inp bb vg vcap yb zb vt hg hcap hbk HT c p (n+k) T/\Below cb w wr)
  case atStart=>exact⟨none,0,p,0,[],w.heap.size,0,rfl,rfl,rfl,rfl,rfl,by omega,aR _,by omega,by omega,by simp,Iy _ _ _,ESF.out.symm,EB.out.symm,HO0.out,HCW0.out,HB0.out⟩
  case round=>
   obtain⟨best,st,i,k,S,g,cap,rfl,rfl,rfl,rfl,rfl,hst,hpi,hig,hk,hSl,hok,hlp,hlt',hown,hcw,hb⟩:=hrel;have HLP:=aA hlp;have HLT:=aA hlt';have HOK:=aA hok;have HO:=aA hown;have HC:=aA hcw;have HB:=aA hb;clear hlp hlt' hok hown hcw hb HCW0 HB0 HO0;have k1:=HC.out.k1;by_cases hlt:i<inp.size
   ·obtain⟨d,rfl⟩:∃d,gk=d+1:=⟨gk - 1,by omega⟩
    have hst':st<nSt s c:=by rw[EN.out];exact hst
    have hxy:st*inp.size+i<NL:=by have:=sQ hst' hlt;rw[EN.out,ENL.out]at this;exact this
    have HHB:=aA (HH.out c st i hc.out hst' hlt);have htb:=HC.out.tb c (st*inp.size+i) hc.out (sQ hst' hlt);obtain⟨X,hX⟩:∃X:Nat,X=st*inp.size:=⟨_,rfl⟩
    obtain⟨Y,hY⟩:∃Y:Nat,Y=X+i:=⟨_,rfl⟩
    have hXI:(st:Int)*(inp.size:Int)=(X:Int):=by rw[hX];simp
    have hYI:(X:Int)+(i:Int)=(Y:Int):=by rw[hY];simp
    rw[←hX,←hY]at hxy htb HHB;replace hX:=aA hX;have hXb:X<=30000:=by omega
    replace hY:=aA hY;have hyI:(0:Int)<=(Y:Int)/\(Y:Int)<(NL:Int):=by omega
    have hd:decide ((i:Int)<(inp.size:Int))=true:=by simp;omega
    have t1:=htb.1;clear htb hst'
    cases hkn:oR H (std c st i)with
    | true=>
     rw[hkn]at HHB;rw[HHB.out]at t1;have HE1:Hid (SF=(S,k)):=HLP.out.trans (C0 hkn);have HE2:Hid (BEST=best):=HLT.out.trans (Dr hkn);clear hkn;go_wp2;go_meet
     case rel=>
      refine⟨g,cap,by rw[HE2.out],by rw[HE2.out],by rw[HE1.out],by rw[HE1.out];exact HOK.out,by rw[HE1.out];simp only;omega,by rw[HE1.out];exact HO.out,by rw[HE1.out];exact HC.out,HB.out⟩
    | false=>
     rw[hkn]at HHB;rw[HHB.out]at t1;have HKN:=aA hkn;clear hkn;obtain⟨N1,hN1⟩:∃N1,n+k=N1:=⟨_,rfl⟩
     rw[hN1]at HC;have hN1b:N1<=101000:=by omega
     replace hN1:=aA hN1;have hzr:=HC.out.hz;go_wp2_with (first | (at_builtin;refine aF wr rfl (.tmp 66) (.tmp 68) 59 rfl w.heap.size 3 (.int .i64 0) 1 8 Tryz.underlying59 Tryz.infoInt rfl (by decide) (by decide) _ S.length (F3 inp.size S) [.int .i64 (Y:Int)] _ rfl HO.out _ rfl rfl rfl (by simp[Value.oneCell']) (by omega) hzr ?_;intro g4 cap4 w4 hown4 hgrow4 hat4 hlt4;have hb4:=iA (bK w.heap.size wr) hzr HO.out (aR _) hgrow4;have HC4:=aA (HC.out.below hb4);have r4:=HC4.out.k4;have f4:=HC4.out.fz 261;clear k1 t1));have HC5:=aA HC4.out.stepN;have HO5:Hid ((w4.setCell ⟨cb,261,none⟩ (.int .i64 ((N1:Int)+1))).ownsRow w.heap.size 3 1 (.slice (some ⟨g4,0,none⟩) (S.length+1) cap4) (S.length+1) (F3 inp.size (S++ [std c st i]))):=by
      rw[Kl];have e:(st:Int)*(inp.size:Int)+(i:Int)=(Y:Int):=by rw[hXI,hYI]
      rw[e];exact ownsRow_setCell_below hown4 (by have:=HC4.out.b0;exact this) _
     have HB5:=aA ((HB.out.trans (hb4.mono (by have:=HC4.out.b0;omega))).setCell (p:=⟨cb,261,none⟩) (aR _) (.int .i64 ((N1:Int)+1)));generalize w4.setCell ⟨cb,261,none⟩ (.int .i64 ((N1:Int)+1))=w5 at*;clear HC4 HC HO HB hown4 hgrow4 hat4 hlt4 hb4 r4 f4 hzr;have hst':st<nSt s c:=by rw[EN.out];exact hst
     have hbe:=jE inp i hlt;have hbl:=jS inp i;have q1:=HC5.out.k1;have q2:=HC5.out.mem.nx c st hc.out hst';rw[bD 2 st]at q2;have q3:=HC5.out.mem.ld c st (bt inp i) hc.out hst' hbl;have q4:w5.cell? ⟨cb,1+bt inp i,none⟩=some (.int .i64 (oO s (bt inp i):Int)):=by
      have e:(bL s)[bt inp i]'(by rw[HLEN.out];exact hbl)=oO s (bt inp i):=by simp only[(wZ HI.out).co];simp
      have:=HC5.out.im (1+bt inp i) _ (Od _ _ _ (bt inp i) (by rw[HLEN.out];exact hbl));rw[bM,e]at this;exact this
     have hcl:=sJ HI.out (bt inp i) hbl;have HLJ:Hid (Kf s c st (bt inp i)=fD (bE s c st (bt inp i))):=rfl;have hll:=Jv HI.out hc.out hst' hbl;have HP1:=aA (@uW s inp c d st i k H S HKN.out);have HP2:=aA (@zX s inp c d st i k H S HKN.out);have HP3:=aA (@F8 s inp c d st i k H S HKN.out);have HT1:=aA (@N4 s inp c d st i H best HKN.out);have HT2:=aA (@Bx s inp c d st i H best HKN.out);have HT3:=aA (@Ey s inp c d st i H best HKN.out);generalize Kf s c st (bt inp i)=lj at*;generalize bE s c st (bt inp i)=ln at*;generalize oO s (bt inp i)=q at*;generalize iK s=K at*;generalize bt inp i=v at*;rw[EN.out]at hll;have hstI:(0:Int)<=(st:Int)/\(st:Int)<(N:Int):=by omega
     have hqI:(0:Int)<=(q:Int)/\(q:Int)<(K:Int):=by omega
     have hvI:(0:Int)<=(v:Int)/\(v:Int)<256:=by omega
     have hiI:(0:Int)<=(i:Int)/\(i:Int)<(inp.size:Int):=by omega
     clear hst';go_quiet (fail);have HC6:=aA (HC5.out.drewN nq);have HO6:Hid ((w5.drewN nq).ownsRow w.heap.size 3 1 (.slice (some ⟨g4,0,none⟩) (S.length+1) cap4) (S.length+1) (F3 inp.size (S++ [std c st i]))):=HO5.out;have HB6:=aA (_root_.Go.below_drewN HB5.out nq);generalize w5.drewN nq=w6 at*;clear HC5 HO5 HB5 q1 q2 q3 q4;have HSN:Hid ((S++ [std c st i]).length=S.length+1):=by unfold Hid;simp
     have HNN:Hid (n+(k+1)=N1+1):=by unfold Hid;have:=hN1.out;omega
     have HOK6:Hid (okS s inp c (S++ [std c st i])):=Pg HOK.out (by rw[EN.out];exact hst) hlt;by_cases h255:ln=255
     ·have hlj:lj= -1:=by rw[HLJ.out,h255];rfl
      subst hlj;have HE1:Hid (SF=(S++ [std c st i],k+1)):=HLP.out.trans (HP1.out h255);have HE2:Hid (BEST=best):=HLT.out.trans (HT1.out h255);clear hll h255;go_wp2;go_meet
      case rel=>
       refine⟨g4,cap4,by rw[HE2.out],by rw[HE2.out],by rw[HE1.out];simp only;rw[HSN.out],by rw[HE1.out];exact HOK6.out,by rw[HE1.out];simp only;rw[HSN.out];omega,by rw[HE1.out];simp only;rw[HSN.out];exact HO6.out,by rw[HE1.out];simp only;rw[HNN.out];exact HC6.out,HB6.out⟩
     ·have hlj:lj=(ln:Int):=by rw[HLJ.out];unfold fD;rw[if_neg h255]
      subst hlj;have hlnN:ln<N:=by omega
      have hd3:((ln:Int)== -1)=false:=by rw[beq_eq_false_iff_ne];omega
      have q5:=HC6.out.mem.tk c ln hc.out (by rw[EN.out];exact hlnN);rw[bD 2 ln]at q5;have HP4:=aA (HP2.out h255);have HP5:=aA (HP3.out h255);have HT4:=aA (HT2.out h255);have HT5:=aA (HT3.out h255);generalize eA s c ln=m at*;have hlnI:(0:Int)<=(ln:Int)/\(ln:Int)<(N:Int):=by omega
      clear hll h255 HP1 HP2 HP3 HT1 HT2 HT3;by_cases hm:m=0
      ·have HE1:Hid (SF=lU s inp c H d ln (i+1) (S++ [std c st i]) (k+1)):=HLP.out.trans (HP5.out hm);have HE2:Hid (BEST=iF s inp c H d ln (i+1) best):=HLT.out.trans (HT5.out hm);have hd4:((m:Int) !=0)=false:=by rw[hm];rfl
       clear hm;go_wp2;go_roundg d
       case measure=>omega
       case rel=>
        refine⟨best,ln,i+1,k+1,S++ [std c st i],g4,cap4,rfl,rfl,rfl,by rw[HSN.out],by go_num,hlnN,by omega,by omega,by omega,by rw[HSN.out];omega,HOK6.out,HE1.out,HE2.out,by rw[HSN.out];exact HO6.out,by rw[HNN.out];exact HC6.out,HB6.out⟩
      ·have HE1:Hid (SF=lU s inp c H d ln (i+1) [] (k+1)):=HLP.out.trans (HP4.out (by omega));have HE2:Hid (BEST=iF s inp c H d ln (i+1) (some (m - 1,i+1))):=HLT.out.trans (HT4.out (by omega));have hd4:((m:Int) !=0)=true:=by rw[bne_iff_ne];omega
       have HMM:Hid (Ea (some (m - 1,i+1))=m):=by unfold Hid Ea;simp only;omega
       have HO7:=aA (Sh HO6.out);clear hm;go_wp2;go_roundg d
       case measure=>omega
       case rel=>
        refine⟨some (m - 1,i+1),ln,i+1,k+1,[],g4,cap4,by rw[HMM.out],by simp[toN],rfl,rfl,by go_num,hlnN,by omega,by omega,by omega,by simp,Iy _ _ _,HE1.out,HE2.out,HO7.out,by rw[HNN.out];exact HC6.out,HB6.out⟩
   ·have e:gk=0:=by omega
    subst e;have HE1:Hid (SF=(S,k)):=HLP.out;have HE2:Hid (BEST=best):=HLT.out;have hd:decide ((i:Int)<(inp.size:Int))=false:=by simp;omega
    go_wp2;go_meet
    case rel=>
     refine⟨g,cap,by rw[HE2.out],by rw[HE2.out],by rw[HE1.out],by rw[HE1.out];exact HOK.out,by rw[HE1.out];simp only;omega,by rw[HE1.out];exact HO.out,by rw[HE1.out];exact HC.out,HB.out⟩
end Go.Proofs.YtgjgjgihceijnaaGreat
