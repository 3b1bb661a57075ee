import Derived.WalkKit
import Derived.WalkSpells
import Derived.WalkLawsBesides
import Derived.Deep.MidRow
import Derived.Deep.WholeRow
import Derived.Laws.ResultCell
import Derived.Test.YtgjgjgihceijnaaGreatChecked
import Derived.Deep.AppendLies
import Derived.Deep.AppendSrc
open Nat renaming zero_add->aL,le_refl->bK,mul_le_mul->bT,lt_irrefl->cF,le_trans->cL
open Go.World renaming cell?_alloc_new->aO,cell?_of_block->aR,rangeAt_setCells_same->aT,frozen?_alloc_new->bC,frozen?_of_block->bD,rangeAt_alloc->bM,news_of_block->bN,there_alloc->bO
open Go.RowKit.Below renaming refl->bS
set_option maxRecDepth 100000
set_option maxHeartbeats 8000000
namespace Go.Stn
open Go.RowKit
def aV (f:Nat->Bool):List Value:=(List.range 256).map fun i=>Value.bool (f i)
theorem aS (f:Nat->Bool):(aV f).length=256:=by simp[aV]
theorem bH (f:Nat->Bool):(aV f).toArray.size=256:=by simp[aV]
theorem pO (f:Nat->Bool)(k:Nat)(h:k<256):(aV f)[k]? =some (.bool (f k)):=by
 unfold aV;rw[List.getElem?_map,List.getElem?_range h];rfl
theorem fH (f:Nat->Bool):∀v∈aV f,v.oneCell'=true:=by
 intro v hv;unfold aV at hv;rw[List.mem_map]at hv;obtain⟨i,_,rfl⟩:=hv
 rfl
theorem mV {f g:Nat->Bool}(h:∀i,i<256->f i=g i):aV f=aV g:=by
 unfold aV;exact List.map_congr_left (fun i hi=>by rw[h i (List.mem_range.1 hi)])
theorem zZ {w:World}{b:Nat}{f:Nat->Bool}(h:w.rangeAt b 0 (aV f)){k:Nat}(hk:k<256)(v:Bool):(w.setCell ⟨b,k,none⟩ (.bool v)).rangeAt b 0 (aV fun i=>if i=k then v else f i):=by
 intro j u hu;have hj:j<256:=by have:=(List.getElem?_eq_some_iff.1 hu).1;rw[aS]at this;exact this
 rw[pO _ _ hj]at hu;injection hu with hu;by_cases e:j=k
 ·subst e;rw[←hu,if_pos rfl,aL];have:=h j _ (pO f j hj);rw[aL]at this;exact World.cell?_setCell_same _ _ _ this
 ·rw[←hu,if_neg e,aL,World.cell?_setCell_other (h:=by intro e';injection e';omega)];have:=h j _ (pO f j hj);rw[aL]at this;exact this
theorem jM {w:World}{b o n:Nat}(h:w.there b o n)(a:Addr)(v:Value):(w.setCell a v).there b o n:=by
 intro j hj;obtain⟨h1,h2⟩:=h j hj;refine⟨?_,by rw[World.frozen?_setCell];exact h2⟩;obtain⟨u,hu⟩:=Option.isSome_iff_exists.1 h1;obtain⟨v',hv'⟩:=cell?_setCell_some (p:=a) (x:=v) hu;rw[hv'];rfl
theorem lP {w w':World}{B b o n:Nat}(h:w.there b o n)(hB:Below B w w')(hb:b<B):w'.there b o n:=by
 intro j hj;obtain⟨h1,h2⟩:=h j hj;exact⟨by rw[hB.cell (p:=⟨b,o+j,none⟩) hb];exact h1,by rw[hB.frozen (p:=⟨b,o+j,none⟩) hb];exact h2⟩
theorem jK {w w':World}{B b o:Nat}{cs:List Value}(h:w.rangeAt b o cs)(hB:Below B w w')(hb:b<B):w'.rangeAt b o cs:=by
 intro j v hv;rw[hB.cell (p:=⟨b,o+j,none⟩) hb];exact h j v hv
theorem Nj (w:World)(c:Array Value)(t:TypeId):(w.alloc (.cells c t)).there w.heap.size 0 c.size:=by
 intro j hj;rw[aL,aO,bC];exact⟨by simp[hj],rfl⟩
theorem jC (w:World)(cs:List Value)(t:TypeId)(n:Nat)(h:cs.length=n):(w.alloc (.cells cs.toArray t)).there w.heap.size 0 n:=by
 intro j hj;rw[aL,aO,bC];exact⟨by simp;omega,rfl⟩
theorem sG (w:World)(cs:List Value)(t:TypeId):(w.alloc (.cells cs.toArray t)).rangeAt w.heap.size 0 cs:=by
 intro j v hv;rw[aL,aO];simpa using hv
theorem bI (w:World)(c:Array Value)(t:TypeId)(B n:Nat)(h:c.size=n)(hB:w.heap.size=B):(w.alloc (.cells c t)).there B 0 n:=by
 subst hB;subst h;exact Nj w c t
theorem gI (w:World)(c:Array Value)(t:TypeId):(w.alloc (.cells c t)).rangeAt w.heap.size 0 c.toList:=by
 intro j v hv;rw[aL,aO];simpa using hv
theorem N7 {fn:Func}{p:Tmp}{ty:TypeId}(h:fn.results= #[.cell p ty])(tmps:Array Value)(P:Program)(w:World):
  (results fn tmps).run P w=((asAddr (tmps.getD p undef)).run P w).andThen fun a w₁=>(loadVar ty a).run P w₁:=by
 simp only[results,h];simp[Sem.run_bind,Result.andThen]
theorem eP {P:Program}{fn:Func}{R:Ending->World->Prop}{a:Act}{w:World}{p:Tmp}{ty:TypeId}(h:fn.results= #[.cell p ty])(b o:Nat)(cs:List Value)(d:TypeDesc)
  (hp:a.tmps.getD p undef= .pointer (some ⟨b,o,none⟩)) (hc:w.rangeAt b o cs) (hu:P.underlying ty=some d) (hd:d.isRow=true) (hi:(P.info? ty).map (·.size)=some cs.length)
  (hdf:a.defers= []) (hR:R (.returned (.agg cs.toArray)) w):bodyPost P fn R .ret a w:=by
 refine bodyPost_ret (v:= .agg cs.toArray) ?_ hdf hR;rw[N7 h,hp];simp[Result.andThen,asAddr,run_loadVar_mid w b o ty cs d hc hu hd hi]
theorem cJ {P:Program}{fn:Func}{R:Ending->World->Prop}{a:Act}{w:World}{p u:Tmp}{ty:TypeId}(h:fn.results= #[.cell p ty,.tmp u])(b o:Nat)(cs:List Value)(d:TypeDesc)(v:Value)
  (hp:a.tmps.getD p undef= .pointer (some ⟨b,o,none⟩)) (hv:a.tmps.getD u undef=v) (hc:w.rangeAt b o cs) (hu:P.underlying ty=some d) (hd:d.isRow=true) (hi:(P.info? ty).map (·.size)=some cs.length)
  (hdf:a.defers= []) (hR:R (.returned (.tuple #[.agg cs.toArray,v])) w):bodyPost P fn R .ret a w:=by
 refine bodyPost_ret (v:= .tuple #[.agg cs.toArray,v]) ?_ hdf hR;rw[results_cell_tmp h,hp,hv];simp[Result.andThen,asAddr,run_loadVar_mid w b o ty cs d hc hu hd hi]
theorem aH {a b c:World}{r:Option Nat}(h:a.grownBy b r)(k:b.grownBy c r):a.grownBy c r:=
 ⟨k.os.trans h.os,k.tape.trans h.tape,k.output.trans h.output,cL h.size k.size,fun i hi hr=>(k.block i (Nat.lt_of_lt_of_le hi h.size) hr).trans (h.block i hi hr)⟩
theorem dB {a w:World}{r:Option Nat}(h:a.grownBy w r)(n:Nat):a.grownBy (w.drewN n) r:=⟨h.os,h.tape,h.output,h.size,h.block⟩
theorem fX {a w:World}{b:Nat}(h:a.grownBy w (some b))(i:Nat)(v:Value):a.grownBy (w.setCell ⟨b,i,none⟩ v) (some b):=
 ⟨h.os,h.tape,h.output,by have:=h.size;simp[World.setCell];omega,fun k hk hr=>(Below.heap_setCell w ⟨b,i,none⟩ v k (by intro e;exact hr (by rw[e]))).trans (h.block k hk hr)⟩
theorem Ay {a w:World}{b:Nat}(h:a.grownBy w (some b))(hb:b<=a.heap.size):Below b a w:=
 ⟨h.os,h.tape,h.output,h.size,fun k hk=>h.block k (by omega) (by intro e;injection e;omega)⟩
theorem aC {w w':World}{b o:Nat}{cs:List Value}(h:w.rangeAt b o cs)(he:w'.heap[b]? =w.heap[b]?):w'.rangeAt b o cs:=fun j v hv=>by
 rw[aR (w:=w) he];exact h j v hv
theorem aQ {w w':World}{b o n:Nat}(h:w.there b o n)(he:w'.heap[b]? =w.heap[b]?):w'.there b o n:=fun j hj=>by
 rw[aR (w:=w) he,bD (w:=w) he];exact h j hj
theorem qP {P:Program}{ops:Array Oper}{rest:List Oper}{op:Oper}{a:Act}{w:World}{Q:Exit->Act->World->Prop}(hgd:op.guard=none)(ty:TypeId)(x y:Operand)(ho:op.op= .store ty x y)
  (b o:Nat) (f:Nat->Bool) (hx:a.eval x= .pointer (some ⟨b,o,none⟩)) (hy:a.eval y= .agg (aV f).toArray) (ht:w.there b o 256) (hi:(P.info? ty).map (·.size)=some 256)
  (h:wpList P ops Q rest (a.put op.dst undef) (w.setCells b o (aV f))):wpList P ops Q (op::rest) a w:=
 wpList_store_mid hgd ty x y ho b o (aV f).toArray hx hy (by rw[bH];exact ht) (by rw[bH];exact hi) (all_oneCell_toArray (fH f)) h
theorem yI {P:Program}{ops:Array Oper}{rest:List Oper}{op:Oper}{a:Act}{w:World}{Q:Exit->Act->World->Prop}(hgd:op.guard=none)(ty:TypeId)(x:Operand)(ho:op.op= .load ty x)
  (b o:Nat) (f:Nat->Bool) (d:TypeDesc) (hx:a.eval x= .pointer (some ⟨b,o,none⟩)) (hc:w.rangeAt b o (aV f)) (hu:P.underlying ty=some d) (hd:d.isRow=true) (hi:(P.info? ty).map (·.size)=some 256)
  (h:wpList P ops Q rest (a.put op.dst (.agg (aV f).toArray)) w):wpList P ops Q (op::rest) a w:=
 wpList_load_mid hgd ty x ho b o hx (aV f) d hc hu hd (by rw[aS];exact hi) h
def yK (X:World)(B:Nat):Nat->Bool:=fun i=>match X.cell? ⟨B,i,none⟩with
 | some (.bool b)=>b
 | _=>false
def In (X:World)(B:Nat):Prop:=X.rangeAt B 0 (aV (yK X B))
theorem Mp {X:World}{B:Nat}{f:Nat->Bool}(h:X.rangeAt B 0 (aV f)):aV (yK X B)=aV f/\In X B:=by
 have e:aV (yK X B)=aV f:=mV (fun i hi=>by
  have:=h i _ (pO f i hi);rw[aL]at this;unfold yK;rw[this])
 exact⟨e,by unfold In;rw[e];exact h⟩
theorem aK {w:World}{base:Nat}{e:TypeId}{size:Nat}{v:Value}{n:Nat}{xs:List Value}(h:w.ownsRow base e size v n xs):∃a cap,v= .slice a n cap:=by
 rcases h.2 with⟨rfl,rfl⟩ | ⟨g,cap,_,rfl,_⟩
 ·exact⟨none,0,rfl⟩
 ·exact⟨_,cap,rfl⟩
theorem bG {W w4:World}{o:Obj}{r:Option Nat}(hg:(W.alloc o).grownBy w4 r){k:Nat}(hk:k<W.heap.size)(hr:some k≠r):(∀i,w4.cell? ⟨k,i,none⟩=W.cell? ⟨k,i,none⟩)/\∀i,w4.frozen? ⟨k,i,none⟩=W.frozen? ⟨k,i,none⟩:=by
 have he:w4.heap[k]? =W.heap[k]? :=(hg.block k (by simp;omega) hr).trans (Below.heap_alloc W o k hk);exact⟨fun i=>aR (w:=W) (a:=⟨k,i,none⟩) he,fun i=>bD (w:=W) (a:=⟨k,i,none⟩) he⟩
theorem dG {a w:World}{r:Option Nat}(h:a.grownBy w r)(o:Obj):a.grownBy (w.alloc o) r:=aH h (World.grownBy_alloc w o r)
theorem bU {a w:World}{B:Nat}(h:Below B a w)(hB:a.heap.size<=B)(r:Option Nat):a.grownBy w r:=⟨h.os,h.tape,h.output,h.size,fun k hk _=>h.block k (by omega)⟩
theorem aD {B:Nat}{a:World}:∀(vs:List Value) (o:Nat) (w:World) (b:Nat),Below B a w->B<=b->Below B a (w.setCells b o vs):=by
 intro vs
 induction vs with
 | nil=>intro o w b h _;exact h
 | cons v r ih=>intro o w b h hb;exact ih (o+1) _ b (h.setCell (p:=⟨b,o,none⟩) hb v) hb
theorem iU {a w:World}{r:Option Nat}(h:a.grownBy w r)(b o:Nat)(vs:List Value)(hb:a.heap.size<=b):a.grownBy (w.setCells b o vs) r:=by
 have hB:Below a.heap.size w (w.setCells b o vs):=aD vs o w b (bS _ _) hb;exact⟨hB.os.trans h.os,hB.tape.trans h.tape,hB.output.trans h.output,cL h.size hB.size,fun k hk hr=>(hB.block k hk).trans (h.block k hk hr)⟩
end Go.Stn
namespace Go.Stn
def bt (s:ByteArray)(i:Nat):Nat:=(s.data.toList.getD i 0).toNat
theorem jS (s:ByteArray)(i:Nat):bt s i<256:=by
 unfold bt;exact UInt8.toNat_lt _
theorem jE (s:ByteArray)(i:Nat)(h:i<s.size):(s[i]).toNat=bt s i:=by
 unfold bt;have:i<s.data.toList.length:=by simpa using h
 rw[List.getD_eq_getElem?_getD,List.getElem?_eq_getElem this]
 rfl
def qV (s:ByteArray)(i n:Nat)(most:Int):Bool:=
 decide (i+n<=s.size) && decide (∀j,j<n->(bt s (i+j):Int)<=most)
theorem kB {s:ByteArray}{i n:Nat}{most:Int}(h:i+n<=s.size)(ha:∀j,j<n->(bt s (i+j):Int)<=most):qV s i n most=true:=by
 unfold qV;simp[h];exact ha
end Go.Stn
namespace Go.Stn
structure PSt where
 at_:Nat
 rules:List ((Nat->Bool)×Int×Int)
 nodes:List (Int×Int×Int)
 places:List (Nat->Bool)
def cK (f:Nat->Bool)(a b:Int):Nat->Bool:=fun i=>decide (a<=(i:Int)/\(i:Int)<=b) || f i
def aJ (t:ByteArray)(a:Nat):Int:=if t.size<=a then -1 else(bt t a:Int)
def adv (st:PSt):PSt:= {st with at_:=st.at_+1}
def aM (t:ByteArray)(b:Int)(st:PSt):Bool:=decide (aJ t st.at_=b)
def gY (b:Int):Bool:=decide (33<=b/\b<=126)
def P3 (b:Int):Bool:=decide ((97<=b/\b<=122)\/(65<=b/\b<=90)\/(48<=b/\b<=57))
def dY (b:Int)(sp:ByteArray):Bool:=gY b && decide (∀i,i<sp.size->(bt sp i:Int)≠b)
def dM:ByteArray:=⟨#[92,124,42,43,63,46,40,41,91,93]⟩
def dN:ByteArray:=⟨#[92,93,94,45]⟩
theorem dA {t:ByteArray}{a:Nat}(h:t.size<=a):aJ t a= -1:=by unfold aJ;rw[if_pos h]
theorem eY {t:ByteArray}{a:Nat}(h:a<t.size):aJ t a=(bt t a:Int):=by unfold aJ;rw[if_neg (by omega)]
theorem sU (t:ByteArray)(a:Nat): -1<=aJ t a/\aJ t a<=255:=by
 unfold aJ;have:=jS t a;split<;> omega
theorem bV {t:ByteArray}{b:Int}{st:PSt}(hb:0<=b)(h:aM t b st=true):st.at_<t.size:=by
 unfold aM at h;rw[decide_eq_true_eq]at h;rcases Nat.lt_or_ge st.at_ t.size with h1 | h1
 ·exact h1
 ·rw[dA h1]at h;omega
def nY (t:ByteArray)(st:PSt):Int×Bool×PSt:=
 if aM t 110 st=true then(10,true,adv st)
 else if aM t 115 st=true then(32,true,adv st)
 else if gY (aJ t st.at_)=true/\P3 (aJ t st.at_)=false then(aJ t st.at_,true,adv st)
 else(0,false,st)
def aG (t sp:ByteArray)(st:PSt):Int×Bool×PSt:=
 if aM t 92 st=true then nY t (adv st)
 else if dY (aJ t st.at_) sp=true then(aJ t st.at_,true,adv st)
 else(0,false,st)
def aZ (t:ByteArray)(f:Nat->Bool)(st:PSt):(Nat->Bool)×Bool×PSt:=
 if(aG t dN st).2.1=false then(f,false,(aG t dN st).2.2)
 else if aM t 45 (aG t dN st).2.2=false then(cK f (aG t dN st).1 (aG t dN st).1,true,(aG t dN st).2.2)
 else if(aG t dN (adv (aG t dN st).2.2)).2.1=false\/(aG t dN (adv (aG t dN st).2.2)).1<(aG t dN st).1 then(f,false,(aG t dN (adv (aG t dN st).2.2)).2.2)
 else(cK f (aG t dN st).1 (aG t dN (adv (aG t dN st).2.2)).1,true,(aG t dN (adv (aG t dN st).2.2)).2.2)
theorem nW {t:ByteArray}{f:Nat->Bool}{st s1:PSt}{b:Int}(h:aG t dN st=(b,false,s1)):aZ t f st=(f,false,s1):=by
 unfold aZ;rw[h];simp
theorem nK {t:ByteArray}{f:Nat->Bool}{st s1:PSt}{b:Int}(h:aG t dN st=(b,true,s1))(h2:aM t 45 s1=false):aZ t f st=(cK f b b,true,s1):=by
 unfold aZ;rw[h];simp[h2]
theorem kD {t:ByteArray}{f:Nat->Bool}{st s1 s2:PSt}{b b2:Int}{ok2:Bool}(h:aG t dN st=(b,true,s1))(h2:aM t 45 s1=true)(h3:aG t dN (adv s1)=(b2,ok2,s2))(h4:ok2=false\/b2<b):aZ t f st=(f,false,s2):=by
 unfold aZ;rw[h];simp only[h2,h3];rw[if_neg (by decide),if_neg (by decide),if_pos h4]
theorem nU {t:ByteArray}{f:Nat->Bool}{st s1 s2:PSt}{b b2:Int}(h:aG t dN st=(b,true,s1))(h2:aM t 45 s1=true)(h3:aG t dN (adv s1)=(b2,true,s2))(h4:¬b2<b):aZ t f st=(cK f b b2,true,s2):=by
 unfold aZ;rw[h];simp only[h2,h3];rw[if_neg (by decide),if_neg (by decide),if_neg (by simp;omega)]
def gE (t:ByteArray):Nat->(Nat->Bool)->Bool->PSt->(Nat->Bool)×Bool×PSt
 | 0,f,_,st=>(f,false,st)
 | n+1,f,ok,st=>
  if ok=false then(f,false,st)
  else if aM t 93 st=true then(f,true,adv st)
  else gE t n (aZ t f st).1 (aZ t f st).2.1 (aZ t f st).2.2
def aP:Nat->Bool:=fun _=>false
def lK (t:ByteArray)(st:PSt):(Nat->Bool)×Bool×PSt:=
 gE t (t.size+1) (aZ t aP st).1 (aZ t aP st).2.1 (aZ t aP st).2.2
def kZ (t:ByteArray)(st:PSt):(Nat->Bool)×Bool×PSt:=
 if aM t 94 st=true then
  (if(lK t (adv st)).2.1=true then((fun i=> !((lK t (adv st)).1 i)),true,(lK t (adv st)).2.2)else(aP,false,(lK t (adv st)).2.2))
 else(if(lK t st).2.1=true then((lK t st).1,true,(lK t st).2.2)else(aP,false,(lK t st).2.2))
def bA (t:ByteArray)(st:PSt):(Nat->Bool)×Bool×PSt:=
 if aM t 91 st=true then kZ t (adv st)
 else if aM t 46 st=true then((fun i=> !(aP i)),true,adv st)
 else if(aG t dM st).2.1=true then(cK aP (aG t dM st).1 (aG t dM st).1,true,(aG t dM st).2.2)
 else(aP,false,(aG t dM st).2.2)
theorem qX (t:ByteArray)(n:Nat)(f:Nat->Bool)(st:PSt):gE t n f false st=(f,false,st):=by
 cases n<;> rfl
theorem xE {t:ByteArray}{n:Nat}{f:Nat->Bool}{st:PSt}(h:aM t 93 st=true):gE t (n+1) f true st=(f,true,adv st):=by
 rw[gE,if_neg (by decide),if_pos h]
theorem xO {t:ByteArray}{n:Nat}{f:Nat->Bool}{st:PSt}(h:aM t 93 st=false):gE t (n+1) f true st=gE t n (aZ t f st).1 (aZ t f st).2.1 (aZ t f st).2.2:=by
 rw[gE,if_neg (by decide),if_neg (by rw[h];decide)]
def aI (t:ByteArray)(st:PSt):Int×Bool×PSt:=
 if 65<=aJ t st.at_/\aJ t st.at_<69 then(aJ t st.at_ - 65,true,adv st)else(0,false,st)
def cU (t:ByteArray)(st:PSt):Int×Bool×PSt:=
 if aM t 46 st=true then(0,true,adv st)
 else if aM t 45 st=true then(1,true,adv st)
 else if(aI t st).2.1=true then((aI t st).1+2,true,(aI t st).2.2)else(0,false,(aI t st).2.2)
end Go.Stn
namespace Go.Proofs.YtgjgjgihceijnaaGreat
open Go.RowKit Go.Stn
theorem Tryz.bytesSize:(Tryz.prog.info? 158).map (·.size)=some 256:=by kernel_rfl
theorem Tryz.bytesZero:Tryz.zeroCells158.size=256:=by kernel_rfl
theorem Jf (f:Nat->Bool)(w:World):
  Calls Tryz.prog 138 #[.agg (aV f).toArray] w fun e w'=>e= .returned (.agg (aV fun i=> !(f i)).toArray)/\Below w.heap.size w w':=by
 have HR:Hid (((w.alloc (.cells (aV f).toArray 158)).alloc (.cells Tryz.zeroCells158 158)).rangeAt w.heap.size 0 (aV f)):=
  bM (sG w (aV f) 158) _
 have HT:Hid (((w.alloc (.cells (aV f).toArray 158)).alloc (.cells Tryz.zeroCells158 158)).there w.heap.size 0 256):=
  bO (jC w (aV f) 158 256 (aS f)) _
 have HZ:Hid (((w.alloc (.cells (aV f).toArray 158)).alloc (.cells Tryz.zeroCells158 158)).there (w.heap.size+1) 0 256):=
  bI _ Tryz.zeroCells158 158 _ 256 Tryz.bytesZero (by simp)
 have HB:Hid (Below w.heap.size w ((w.alloc (.cells (aV f).toArray 158)).alloc (.cells Tryz.zeroCells158 158))):=
  ((bS _ _).alloc (bK _) _).alloc (by simp) _
 go_enter Tryz.func138,Tryz.ntmps138;go_wp2_with fail;generalize (w.alloc (.cells (aV f).toArray 158)).alloc (.cells Tryz.zeroCells158 158)=W at*
 go_loopw [4] (fun x wr=>∃k:Nat,k<=256/\x= .int .i64 (k:Int)/\wr.rangeAt w.heap.size 0 (aV fun i=>if i<k then !(f i)else f i)/\wr.there w.heap.size 0 256/\wr.there (w.heap.size+1) 0 256/\Below w.heap.size w wr)
  (fun x _=>256 - (intOf x).toNat)
 case atStart=>exact⟨0,by omega,rfl,HR.out,HT.out,HZ.out,HB.out⟩
 case round=>
  obtain⟨k,hk,rfl,hr,ht,hz,hb⟩:=hrel;have HR2:=hr;have HT2:Hid (wr.there w.heap.size 0 256):=ht;have HZ2:Hid (wr.there (w.heap.size+1) 0 256):=hz;have HB2:Hid (Below w.heap.size w wr):=hb;have HR2:Hid (wr.rangeAt w.heap.size 0 (aV fun i=>if i<k then !(f i)else f i)):=hr;clear hr ht hz hb HR HT HZ HB;by_cases hlt:k<256
  ·have c1:=HR2.out k _ (pO _ k hlt);rw[if_neg (cF k),aL]at c1;have c2:=(HT2.out k hlt).2;rw[aL]at c2;have hkI:(0:Int)<=(k:Int)/\(k:Int)<256:=by omega
   go_wp2;go_roundw
   case rel=>
    refine⟨k+1,hlt,by go_num, ?_,jM HT2.out _ _,jM HZ2.out _ _,HB2.out.setCell (p:=⟨w.heap.size,k,none⟩) (bK _) _⟩;have h:=zZ HR2.out hlt (!(f k));have e:aV (fun i=>if i=k then !(f k)else if i<k then !(f i)else f i)=aV (fun i=>if i<k+1 then !(f i)else f i):=by
     refine mV (fun i _=> ?_);by_cases h1:i=k
     ·rw[if_pos h1,if_pos (by omega),h1]
     ·rw[if_neg h1];by_cases h2:i<k
      ·rw[if_pos h2,if_pos (by omega)]
      ·rw[if_neg h2,if_neg (by omega)]
    rw[e]at h;exact h
   case measure=>simp[intOf];omega
  ·have e:k=256:=by omega
   subst e;have er:aV (fun i=>if i<256 then !(f i)else f i)=aV (fun i=> !(f i)):=mV (fun i hi=>by rw[if_pos hi]);rw[er]at HR2;clear er;go_wp2_with (first
    | (refine wpList_load_mid rfl 158 (.tmp 1) rfl w.heap.size 0 rfl (aV fun i=> !(f i)) _ HR2.out Tryz.underlying158 rfl (by rw[aS];exact Tryz.bytesSize) ?_)
    | (refine wpList_store_mid rfl 158 (.tmp 2) (.tmp 14) rfl (w.heap.size+1) 0 (aV fun i=> !(f i)).toArray rfl rfl (by rw[bH];exact HZ2.out) (by rw[bH];exact Tryz.bytesSize) (all_oneCell_toArray (fH _)) ?_))
   refine eP Tryz.results138 (w.heap.size+1) 0 (aV fun i=> !(f i)) _ rfl ?_ Tryz.underlying158 rfl (by rw[aS];exact Tryz.bytesSize) rfl ⟨rfl,aD _ _ _ _ HB2.out (by omega)⟩;exact aT _ _ _ _ (by rw[aS];exact HZ2.out)
theorem E8 (f:Nat->Bool)(a b:Int)(w:World):
  Calls Tryz.prog 140 #[.agg (aV f).toArray,.int .i64 a,.int .i64 b] w fun e w'=>e= .returned (.agg (aV (cK f a b)).toArray)/\Below w.heap.size w w':=by
 have HR:Hid (((w.alloc (.cells (aV f).toArray 158)).alloc (.cells Tryz.zeroCells158 158)).rangeAt w.heap.size 0 (aV f)):=
  bM (sG w (aV f) 158) _
 have HT:Hid (((w.alloc (.cells (aV f).toArray 158)).alloc (.cells Tryz.zeroCells158 158)).there w.heap.size 0 256):=
  bO (jC w (aV f) 158 256 (aS f)) _
 have HZ:Hid (((w.alloc (.cells (aV f).toArray 158)).alloc (.cells Tryz.zeroCells158 158)).there (w.heap.size+1) 0 256):=
  bI _ Tryz.zeroCells158 158 _ 256 Tryz.bytesZero (by simp)
 have HB:Hid (Below w.heap.size w ((w.alloc (.cells (aV f).toArray 158)).alloc (.cells Tryz.zeroCells158 158))):=
  ((bS _ _).alloc (bK _) _).alloc (by simp) _
 go_enter Tryz.func140,Tryz.ntmps140;go_wp2_with fail;generalize (w.alloc (.cells (aV f).toArray 158)).alloc (.cells Tryz.zeroCells158 158)=W at*
 go_loopw [8] (fun x wr=>∃k:Nat,k<=256/\x= .int .i64 (k:Int)/\wr.rangeAt w.heap.size 0 (aV fun i=>if i<k then cK f a b i else f i)/\wr.there w.heap.size 0 256/\wr.there (w.heap.size+1) 0 256/\Below w.heap.size w wr)
  (fun x _=>256 - (intOf x).toNat)
 case atStart=>exact⟨0,by omega,rfl,HR.out,HT.out,HZ.out,HB.out⟩
 case round=>
  obtain⟨k,hk,rfl,hr,ht,hz,hb⟩:=hrel;have HT2:Hid (wr.there w.heap.size 0 256):=ht;have HZ2:Hid (wr.there (w.heap.size+1) 0 256):=hz;have HB2:Hid (Below w.heap.size w wr):=hb;have HR2:Hid (wr.rangeAt w.heap.size 0 (aV fun i=>if i<k then cK f a b i else f i)):=hr;clear hr ht hz hb HR HT HZ HB;by_cases hlt:k<256
  ·have c1:=HR2.out k _ (pO _ k hlt);rw[if_neg (cF k),aL]at c1;have c2:=(HT2.out k hlt).2;rw[aL]at c2;have hkI:(0:Int)<=(k:Int)/\(k:Int)<256:=by omega
   by_cases hin:a<=(k:Int)/\(k:Int)<=b
   ·obtain⟨hin1,hin2⟩:=hin;go_wp2;go_roundw
    case rel=>
     refine⟨k+1,hlt,by go_num, ?_,jM HT2.out _ _,jM HZ2.out _ _,HB2.out.setCell (p:=⟨w.heap.size,k,none⟩) (bK _) _⟩;have h:=zZ HR2.out hlt true;have e:aV (fun i=>if i=k then true else if i<k then cK f a b i else f i)=aV (fun i=>if i<k+1 then cK f a b i else f i):=by
      refine mV (fun i _=> ?_);by_cases h1:i=k
      ·rw[if_pos h1,if_pos (by omega),h1];unfold cK;simp[hin1,hin2]
      ·rw[if_neg h1];by_cases h2:i<k
       ·rw[if_pos h2,if_pos (by omega)]
       ·rw[if_neg h2,if_neg (by omega)]
     rw[e]at h;exact h
    case measure=>simp[intOf];omega
   ·have HE:Hid (aV (fun i=>if i<k then cK f a b i else f i)=aV (fun i=>if i<k+1 then cK f a b i else f i)):=by
     refine mV (fun i _=> ?_);by_cases h1:i=k
     ·rw[h1,if_neg (by omega),if_pos (by omega)];unfold cK;simp;intro h2 h3;exact absurd ⟨h2,h3⟩ hin
     ·by_cases h2:i<k
      ·rw[if_pos h2,if_pos (by omega)]
      ·rw[if_neg h2,if_neg (by omega)]
    rw[HE.out]at HR2;by_cases h1:a<=(k:Int)
    ·have h2:¬((k:Int)<=b):=fun h=>hin ⟨h1,h⟩
     clear hin HE;go_wp2;go_roundw
     case rel=>exact⟨k+1,hlt,by go_num,HR2.out,HT2.out,HZ2.out,HB2.out⟩
     case measure=>simp[intOf];omega
    ·clear hin HE;go_wp2;go_roundw
     case rel=>exact⟨k+1,hlt,by go_num,HR2.out,HT2.out,HZ2.out,HB2.out⟩
     case measure=>simp[intOf];omega
  ·have e:k=256:=by omega
   subst e;have er:aV (fun i=>if i<256 then cK f a b i else f i)=aV (cK f a b):=mV (fun i hi=>by rw[if_pos hi]);rw[er]at HR2;clear er;go_wp2_with (first
    | (refine wpList_load_mid rfl 158 (.tmp 3) rfl w.heap.size 0 rfl (aV (cK f a b)) _ HR2.out Tryz.underlying158 rfl (by rw[aS];exact Tryz.bytesSize) ?_)
    | (refine wpList_store_mid rfl 158 (.tmp 6) (.tmp 22) rfl (w.heap.size+1) 0 (aV (cK f a b)).toArray rfl rfl (by rw[bH];exact HZ2.out) (by rw[bH];exact Tryz.bytesSize) (all_oneCell_toArray (fH _)) ?_))
   refine eP Tryz.results140 (w.heap.size+1) 0 (aV (cK f a b)) _ rfl ?_ Tryz.underlying158 rfl (by rw[aS];exact Tryz.bytesSize) rfl ⟨rfl,aD _ _ _ _ HB2.out (by omega)⟩;exact aT _ _ _ _ (by rw[aS];exact HZ2.out)
end Go.Proofs.YtgjgjgihceijnaaGreat
namespace Go.Stn
open Go.RowKit
theorem aF {P:Program}(w:World){ops:Array Oper}{rest:List Oper}{o:Oper}{a:Act}{Q:Exit->Act->World->Prop}(hgd:o.guard=none)(s x:Operand)(t:TypeId)
  (ho:o.op= .call {callee:= .builtin .append,args:= #[s,x],argTypes:= #[t,t]})
  (base:Nat) (e:TypeId) (z:Value) (size bytes:Nat) (ht:P.underlying t=some (.slice e)) (hinfo:(P.info? e).map (fun i=>(i.zero,i.size,i.bytes))=some (some z,size,bytes))
  (hzs:z.cells.size=size) (hsz:0<size) (hby:bytes<=1000)
  (v:Value) (n:Nat) (xs:List Value) (cs:List Value) (e':TypeId) (hs:a.eval s=v) (hown:w.ownsRow base e size v n xs)
  (B:Nat) (hB:w.heap.size=B) (hx:a.eval x= .slice (some ⟨B,0,none⟩) 1 1) (hl:cs.length=size) (h1:∀u∈cs,u.oneCell'=true)
  (hn:n<=1000000000) (hbase:base<=w.heap.size)
  (h:∀g cap w',w'.ownsRow base e size (.slice (some ⟨g,0,none⟩) (n+1) cap) (n+1) (xs++cs)->(w.alloc (.cells cs.toArray e')).grownBy w' v.ownBlock->(v.ownBlock=some g\/g=w.heap.size+1)->g<w'.heap.size->
   wpList P ops Q rest (a.put o.dst (.slice (some ⟨g,0,none⟩) (n+1) cap)) w'):wpList P ops Q (o::rest) a (w.alloc (.cells cs.toArray e')):=by
 subst hB;obtain⟨i,hi,hz,hsize,hb⟩:=info_parts hinfo;refine wpList_append_lies _ hgd s x t ho base e i z size bytes ht hi hz hsize hb hzs hsz v n xs hs (hown.alloc _) ⟨w.heap.size,0,none⟩ 1 1 cs hx (by omega) ?_ h1 (by omega) (by unfold maxLen;omega) ?_ (by simp;omega) (w.heap.size+1) (by simp) h
 ·have:=bN (w:=w.alloc (.cells cs.toArray e')) (B:=w.heap.size) (cs:=cs.toArray) (t:=e') (fr:=(0,0)) (heap_alloc_new w _);simpa using this
 ·have:=bT (show n+1<=1000000001 by omega) hby;omega
theorem lT {P:Program}(w:World){ops:Array Oper}{o:Oper}{a:Act}{K:Act->World->Prop}{Q:Exit->Act->World->Prop}{E:Prop}(hgd:o.guard=none)(s x:Operand)(t:TypeId)
  (ho:o.op= .call {callee:= .builtin .append,args:= #[s,x],argTypes:= #[t,t]})
  (base:Nat) (e:TypeId) (z:Value) (size bytes:Nat) (ht:P.underlying t=some (.slice e)) (hinfo:(P.info? e).map (fun i=>(i.zero,i.size,i.bytes))=some (some z,size,bytes))
  (hzs:z.cells.size=size) (hsz:0<size) (hby:bytes<=1000)
  (v:Value) (n:Nat) (xs:List Value) (cs:List Value) (e':TypeId) (hs:a.eval s=v) (hown:w.ownsRow base e size v n xs)
  (B:Nat) (hB:w.heap.size=B) (hx:a.eval x= .slice (some ⟨B,0,none⟩) 1 1) (hl:cs.length=size) (h1:∀u∈cs,u.oneCell'=true)
  (hn:n<=1000000000) (hbase:base<=w.heap.size)
  (h:∀g cap w',w'.ownsRow base e size (.slice (some ⟨g,0,none⟩) (n+1) cap) (n+1) (xs++cs)->(w.alloc (.cells cs.toArray e')).grownBy w' v.ownBlock->(v.ownBlock=some g\/g=w.heap.size+1)->g<w'.heap.size->
   K (a.put o.dst (.slice (some ⟨g,0,none⟩) (n+1) cap)) w'):if Region.wanted o (yielded ops a.tmps)=true then Oper.wp P o a (w.alloc (.cells cs.toArray e')) K Q else E:=by
 subst hB;obtain⟨i,hi,hz,hsize,hb⟩:=info_parts hinfo;refine step_append_lies _ hgd s x t ho base e i z size bytes ht hi hz hsize hb hzs hsz v n xs hs (hown.alloc _) ⟨w.heap.size,0,none⟩ 1 1 cs hx (by omega) ?_ h1 (by omega) (by unfold maxLen;omega) ?_ (by simp;omega) (w.heap.size+1) (by simp) h
 ·have:=bN (w:=w.alloc (.cells cs.toArray e')) (B:=w.heap.size) (cs:=cs.toArray) (t:=e') (fr:=(0,0)) (heap_alloc_new w _);simpa using this
 ·have:=bT (show n+1<=1000000001 by omega) hby;omega
theorem iA {B base:Nat}{a w w1:World}{o:Obj}{e:TypeId}{size:Nat}{v:Value}{n:Nat}{xs:List Value}(h:Below B a w)(hz:B<=w.heap.size)(hv:w.ownsRow base e size v n xs)(hb:B<=base)
  (hg:(w.alloc o).grownBy w1 v.ownBlock):Below B a w1:=
 (h.alloc hz o).grown hg (by simp;omega) (fun k hk=>by have:=hv.lt k hk;omega)
end Go.Stn
