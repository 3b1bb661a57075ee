/- Texts put together: RfKit, CkPure, RfPure, RfBytes, Kit1. -/
import Derived.WalkKit
import Derived.WalkSpells
import Derived.WalkLawsBesides
import Derived.Deep.MidRow
import Derived.Deep.WholeRow
import Derived.Laws.ResultCell
import Derived.Test.YtgjgjgihceijnaaChecked
import Derived.Deep.AppendLies
import Derived.Deep.AppendSrc
namespace Go.Stn
open Go.RowKit
def bitL (f:Nat→Bool):List Value:=(List.range 256).map fun i=>Value.bool (f i)
theorem bitL_len (f:Nat→Bool):(bitL f).length=256:=by simp[bitL]
theorem bitL_size (f:Nat→Bool):(bitL f).toArray.size=256:=by simp[bitL]
theorem bitL_get (f:Nat→Bool)(k:Nat)(h:k<256):(bitL f)[k]? =some (.bool (f k)):=by
 unfold bitL;rw[List.getElem?_map,List.getElem?_range h];rfl
theorem bitL_one (f:Nat→Bool):∀v∈bitL f,v.oneCell'=true:=by
 intro v hv
 unfold bitL at hv
 rw[List.mem_map]at hv
 obtain⟨i,_,rfl⟩:=hv
 rfl
theorem bitL_congr {f g:Nat→Bool}(h:∀i,i<256→f i=g i):bitL f=bitL g:=by
 unfold bitL
 exact List.map_congr_left (fun i hi=>by rw[h i (List.mem_range.1 hi)])
theorem rangeAt_set {w:World}{b:Nat}{f:Nat→Bool}(h:w.rangeAt b 0 (bitL f)){k:Nat}(hk:k<256)(v:Bool):(w.setCell ⟨b,k,none⟩ (.bool v)).rangeAt b 0 (bitL fun i=>if i=k then v else f i):=by
 intro j u hu
 have hj:j<256:=by have:=(List.getElem?_eq_some_iff.1 hu).1;rw[bitL_len]at this;exact this
 rw[bitL_get _ _ hj]at hu
 injection hu with hu
 by_cases e:j=k
 ·subst e
  rw[←hu,if_pos rfl,Nat.zero_add]
  have:=h j _ (bitL_get f j hj)
  rw[Nat.zero_add]at this
  exact World.cell?_setCell_same _ _ _ this
 ·rw[←hu,if_neg e,Nat.zero_add,World.cell?_setCell_other (h:=by intro e';injection e';omega)]
  have:=h j _ (bitL_get f j hj)
  rw[Nat.zero_add]at this
  exact this
theorem there_set {w:World}{b o n:Nat}(h:w.there b o n)(a:Addr)(v:Value):(w.setCell a v).there b o n:=by
 intro j hj
 obtain⟨h1,h2⟩:=h j hj
 refine⟨?_,by rw[World.frozen?_setCell];exact h2⟩
 obtain⟨u,hu⟩:=Option.isSome_iff_exists.1 h1
 obtain⟨v',hv'⟩:=cell?_setCell_some (p:=a) (x:=v) hu
 rw[hv'];rfl
theorem there_below {w w':World}{B b o n:Nat}(h:w.there b o n)(hB:Below B w w')(hb:b<B):w'.there b o n:=by
 intro j hj
 obtain⟨h1,h2⟩:=h j hj
 exact⟨by rw[hB.cell (p:=⟨b,o+j,none⟩) hb];exact h1,by rw[hB.frozen (p:=⟨b,o+j,none⟩) hb];exact h2⟩
theorem rangeAt_below {w w':World}{B b o:Nat}{cs:List Value}(h:w.rangeAt b o cs)(hB:Below B w w')(hb:b<B):w'.rangeAt b o cs:=by
 intro j v hv
 rw[hB.cell (p:=⟨b,o+j,none⟩) hb];exact h j v hv
theorem there_new (w:World)(c:Array Value)(t:TypeId):(w.alloc (.cells c t)).there w.heap.size 0 c.size:=by
 intro j hj
 rw[Nat.zero_add,World.cell?_alloc_new,World.frozen?_alloc_new]
 exact⟨by simp[hj],rfl⟩
theorem there_newL (w:World)(cs:List Value)(t:TypeId)(n:Nat)(h:cs.length=n):(w.alloc (.cells cs.toArray t)).there w.heap.size 0 n:=by
 intro j hj
 rw[Nat.zero_add,World.cell?_alloc_new,World.frozen?_alloc_new]
 exact⟨by simp;omega,rfl⟩
theorem rangeAt_newL (w:World)(cs:List Value)(t:TypeId):(w.alloc (.cells cs.toArray t)).rangeAt w.heap.size 0 cs:=by
 intro j v hv
 rw[Nat.zero_add,World.cell?_alloc_new]
 simpa using hv
theorem there_newA (w:World)(c:Array Value)(t:TypeId)(B n:Nat)(h:c.size=n)(hB:w.heap.size=B):(w.alloc (.cells c t)).there B 0 n:=by
 subst hB;subst h;exact there_new w c t
theorem rangeAt_new (w:World)(c:Array Value)(t:TypeId):(w.alloc (.cells c t)).rangeAt w.heap.size 0 c.toList:=by
 intro j v hv
 rw[Nat.zero_add,World.cell?_alloc_new]
 simpa using hv
theorem results_cell1 {fn:Func}{p:Tmp}{ty:TypeId}(h:fn.results= #[.cell p ty])(tmps:Array Value)(P:Program)(w:World):
  (results fn tmps).run P w=((asAddr (tmps.getD p undef)).run P w).andThen fun a w₁=>(loadVar ty a).run P w₁:=by
 simp only[results,h]
 simp[Sem.run_bind,Result.andThen]
theorem ret_cell1 {P:Program}{fn:Func}{R:Ending→World→Prop}{a:Act}{w:World}{p:Tmp}{ty:TypeId}(h:fn.results= #[.cell p ty])(b o:Nat)(cs:List Value)(d:TypeDesc)
  (hp:a.tmps.getD p undef= .pointer (some ⟨b,o,none⟩)) (hc:w.rangeAt b o cs) (hu:P.underlying ty=some d) (hd:d.isRow=true) (hi:(P.info? ty).map (·.size)=some cs.length)
  (hdf:a.defers= []) (hR:R (.returned (.agg cs.toArray)) w):bodyPost P fn R .ret a w:=by
 refine bodyPost_ret (v:= .agg cs.toArray) ?_ hdf hR
 rw[results_cell1 h,hp]
 simp[Result.andThen,asAddr,run_loadVar_mid w b o ty cs d hc hu hd hi]
theorem ret_cell2 {P:Program}{fn:Func}{R:Ending→World→Prop}{a:Act}{w:World}{p u:Tmp}{ty:TypeId}(h:fn.results= #[.cell p ty,.tmp u])(b o:Nat)(cs:List Value)(d:TypeDesc)(v:Value)
  (hp:a.tmps.getD p undef= .pointer (some ⟨b,o,none⟩)) (hv:a.tmps.getD u undef=v) (hc:w.rangeAt b o cs) (hu:P.underlying ty=some d) (hd:d.isRow=true) (hi:(P.info? ty).map (·.size)=some cs.length)
  (hdf:a.defers= []) (hR:R (.returned (.tuple #[.agg cs.toArray,v])) w):bodyPost P fn R .ret a w:=by
 refine bodyPost_ret (v:= .tuple #[.agg cs.toArray,v]) ?_ hdf hR
 rw[results_cell_tmp h,hp,hv]
 simp[Result.andThen,asAddr,run_loadVar_mid w b o ty cs d hc hu hd hi]
theorem grown_trans {a b c:World}{r:Option Nat}(h:a.grownBy b r)(k:b.grownBy c r):a.grownBy c r:=
 ⟨k.os.trans h.os,k.tape.trans h.tape,k.output.trans h.output,Nat.le_trans h.size k.size,fun i hi hr=>(k.block i (Nat.lt_of_lt_of_le hi h.size) hr).trans (h.block i hi hr)⟩
theorem grown_drewN {a w:World}{r:Option Nat}(h:a.grownBy w r)(n:Nat):a.grownBy (w.drewN n) r:=⟨h.os,h.tape,h.output,h.size,h.block⟩
theorem grown_set {a w:World}{b:Nat}(h:a.grownBy w (some b))(i:Nat)(v:Value):a.grownBy (w.setCell ⟨b,i,none⟩ v) (some b):=
 ⟨h.os,h.tape,h.output,by have:=h.size;simp[World.setCell];omega,fun k hk hr=>(Below.heap_setCell w ⟨b,i,none⟩ v k (by intro e;exact hr (by rw[e]))).trans (h.block k hk hr)⟩
theorem rangeAt_block {w w':World}{b o:Nat}{cs:List Value}(h:w.rangeAt b o cs)(he:w'.heap[b]? =w.heap[b]?):w'.rangeAt b o cs:=fun j v hv=>by
 rw[World.cell?_of_block (w:=w) he];exact h j v hv
theorem there_block {w w':World}{b o n:Nat}(h:w.there b o n)(he:w'.heap[b]? =w.heap[b]?):w'.there b o n:=fun j hj=>by
 rw[World.cell?_of_block (w:=w) he,World.frozen?_of_block (w:=w) he];exact h j hj
theorem wpList_store_bits {P:Program}{ops:Array Oper}{rest:List Oper}{op:Oper}{a:Act}{w:World}{Q:Exit→Act→World→Prop}(hgd:op.guard=none)(ty:TypeId)(x y:Operand)(ho:op.op= .store ty x y)
  (b o:Nat) (f:Nat→Bool) (hx:a.eval x= .pointer (some ⟨b,o,none⟩)) (hy:a.eval y= .agg (bitL f).toArray) (ht:w.there b o 256) (hi:(P.info? ty).map (·.size)=some 256)
  (h:wpList P ops Q rest (a.put op.dst undef) (w.setCells b o (bitL f))):wpList P ops Q (op::rest) a w:=
 wpList_store_mid hgd ty x y ho b o (bitL f).toArray hx hy (by rw[bitL_size];exact ht) (by rw[bitL_size];exact hi) (all_oneCell_toArray (bitL_one f)) h
theorem wpList_load_bits {P:Program}{ops:Array Oper}{rest:List Oper}{op:Oper}{a:Act}{w:World}{Q:Exit→Act→World→Prop}(hgd:op.guard=none)(ty:TypeId)(x:Operand)(ho:op.op= .load ty x)
  (b o:Nat) (f:Nat→Bool) (d:TypeDesc) (hx:a.eval x= .pointer (some ⟨b,o,none⟩)) (hc:w.rangeAt b o (bitL f)) (hu:P.underlying ty=some d) (hd:d.isRow=true) (hi:(P.info? ty).map (·.size)=some 256)
  (h:wpList P ops Q rest (a.put op.dst (.agg (bitL f).toArray)) w):wpList P ops Q (op::rest) a w:=
 wpList_load_mid hgd ty x ho b o hx (bitL f) d hc hu hd (by rw[bitL_len];exact hi) h
def bitsAt (X:World)(B:Nat):Nat→Bool:=fun i=>match X.cell? ⟨B,i,none⟩with
 | some (.bool b)=>b
 | _=>false
def isBits (X:World)(B:Nat):Prop:=X.rangeAt B 0 (bitL (bitsAt X B))
theorem isBits_of {X:World}{B:Nat}{f:Nat→Bool}(h:X.rangeAt B 0 (bitL f)):bitL (bitsAt X B)=bitL f∧isBits X B:=by
 have e:bitL (bitsAt X B)=bitL f:=bitL_congr (fun i hi=>by
  have:=h i _ (bitL_get f i hi)
  rw[Nat.zero_add]at this
  unfold bitsAt;rw[this])
 exact⟨e,by unfold isBits;rw[e];exact h⟩
theorem rowSlice {w:World}{base:Nat}{e:TypeId}{size:Nat}{v:Value}{n:Nat}{xs:List Value}(h:w.ownsRow base e size v n xs):∃a cap,v= .slice a n cap:=by
 rcases h.2 with⟨rfl,rfl⟩ | ⟨g,cap,_,rfl,_⟩
 ·exact⟨none,0,rfl⟩
 ·exact⟨_,cap,rfl⟩
theorem grow_cell {W w4:World}{o:Obj}{r:Option Nat}(hg:(W.alloc o).grownBy w4 r){k:Nat}(hk:k<W.heap.size)(hr:some k≠r):(∀i,w4.cell? ⟨k,i,none⟩=W.cell? ⟨k,i,none⟩)∧∀i,w4.frozen? ⟨k,i,none⟩=W.frozen? ⟨k,i,none⟩:=by
 have he:w4.heap[k]? =W.heap[k]? :=(hg.block k (by simp;omega) hr).trans (Below.heap_alloc W o k hk)
 exact⟨fun i=>World.cell?_of_block (w:=W) (a:=⟨k,i,none⟩) he,fun i=>World.frozen?_of_block (w:=W) (a:=⟨k,i,none⟩) he⟩
theorem grown_alloc2 {a w:World}{r:Option Nat}(h:a.grownBy w r)(o:Obj):a.grownBy (w.alloc o) r:=grown_trans h (World.grownBy_alloc w o r)
theorem grown_of_below {a w:World}{B:Nat}(h:Below B a w)(hB:a.heap.size≤B)(r:Option Nat):a.grownBy w r:=⟨h.os,h.tape,h.output,h.size,fun k hk _=>h.block k (by omega)⟩
theorem below_setCells {B:Nat}{a:World}:∀(vs:List Value) (o:Nat) (w:World) (b:Nat),Below B a w→B≤b→Below B a (w.setCells b o vs):=by
 intro vs
 induction vs with
 | nil=>intro o w b h _;exact h
 | cons v r ih=>intro o w b h hb;exact ih (o+1) _ b (h.setCell (p:=⟨b,o,none⟩) hb v) hb
theorem grown_setCells {a w:World}{r:Option Nat}(h:a.grownBy w r)(b o:Nat)(vs:List Value)(hb:a.heap.size≤b):a.grownBy (w.setCells b o vs) r:=by
 have hB:Below a.heap.size w (w.setCells b o vs):=below_setCells vs o w b (Below.refl _ _) hb
 exact⟨hB.os.trans h.os,hB.tape.trans h.tape,hB.output.trans h.output,Nat.le_trans h.size hB.size,fun k hk hr=>(hB.block k hk).trans (h.block k hk hr)⟩
end Go.Stn

namespace Go.Stn
def bt (s:ByteArray)(i:Nat):Nat:=(s.data.toList.getD i 0).toNat
theorem bt_lt (s:ByteArray)(i:Nat):bt s i<256:=by
 unfold bt;exact UInt8.toNat_lt _
theorem bt_eq (s:ByteArray)(i:Nat)(h:i<s.size):(s[i]).toNat=bt s i:=by
 unfold bt
 have:i<s.data.toList.length:=by simpa using h
 rw[List.getD_eq_getElem?_getD,List.getElem?_eq_getElem this]
 rfl
def belowB (s:ByteArray)(i n:Nat)(most:Int):Bool:=
 decide (i+n≤s.size) && decide (∀j,j<n→(bt s (i+j):Int)≤most)
theorem belowB_yes {s:ByteArray}{i n:Nat}{most:Int}(h:i+n≤s.size)(ha:∀j,j<n→(bt s (i+j):Int)≤most):belowB s i n most=true:=by
 unfold belowB;simp[h];exact ha
end Go.Stn

namespace Go.Stn
structure PSt where
 at_:Nat
 rules:List ((Nat→Bool)×Int×Int)
 nodes:List (Int×Int×Int)
 places:List (Nat→Bool)
def withB (f:Nat→Bool)(a b:Int):Nat→Bool:=fun i=>decide (a≤(i:Int)∧(i:Int)≤b) || f i
def peekP (t:ByteArray)(a:Nat):Int:=if t.size≤a then -1 else(bt t a:Int)
def adv (st:PSt):PSt:= {st with at_:=st.at_+1}
def nextB (t:ByteArray)(b:Int)(st:PSt):Bool:=decide (peekP t st.at_=b)
def visB (b:Int):Bool:=decide (33≤b∧b≤126)
def lodB (b:Int):Bool:=decide ((97≤b∧b≤122)∨(65≤b∧b≤90)∨(48≤b∧b≤57))
def plainB (b:Int)(sp:ByteArray):Bool:=visB b && decide (∀i,i<sp.size→(bt sp i:Int)≠b)
def spOut:ByteArray:=⟨#[92,124,42,43,63,46,40,41,91,93]⟩
def spIn:ByteArray:=⟨#[92,93,94,45]⟩
theorem peekP_end {t:ByteArray}{a:Nat}(h:t.size≤a):peekP t a= -1:=by unfold peekP;rw[if_pos h]
theorem peekP_at {t:ByteArray}{a:Nat}(h:a<t.size):peekP t a=(bt t a:Int):=by unfold peekP;rw[if_neg (by omega)]
theorem peekP_bound (t:ByteArray)(a:Nat): -1≤peekP t a∧peekP t a≤255:=by
 unfold peekP;have:=bt_lt t a;split<;> omega
theorem nextB_lt {t:ByteArray}{b:Int}{st:PSt}(hb:0≤b)(h:nextB t b st=true):st.at_<t.size:=by
 unfold nextB at h
 rw[decide_eq_true_eq]at h
 rcases Nat.lt_or_ge st.at_ t.size with h1 | h1
 ·exact h1
 ·rw[peekP_end h1]at h;omega
def escP (t:ByteArray)(st:PSt):Int×Bool×PSt:=
 if nextB t 110 st=true then(10,true,adv st)
 else if nextB t 115 st=true then(32,true,adv st)
 else if visB (peekP t st.at_)=true∧lodB (peekP t st.at_)=false then(peekP t st.at_,true,adv st)
 else(0,false,st)
def singleP (t sp:ByteArray)(st:PSt):Int×Bool×PSt:=
 if nextB t 92 st=true then escP t (adv st)
 else if plainB (peekP t st.at_) sp=true then(peekP t st.at_,true,adv st)
 else(0,false,st)
def memberP (t:ByteArray)(f:Nat→Bool)(st:PSt):(Nat→Bool)×Bool×PSt:=
 if(singleP t spIn st).2.1=false then(f,false,(singleP t spIn st).2.2)
 else if nextB t 45 (singleP t spIn st).2.2=false then(withB f (singleP t spIn st).1 (singleP t spIn st).1,true,(singleP t spIn st).2.2)
 else if(singleP t spIn (adv (singleP t spIn st).2.2)).2.1=false∨(singleP t spIn (adv (singleP t spIn st).2.2)).1<(singleP t spIn st).1 then(f,false,(singleP t spIn (adv (singleP t spIn st).2.2)).2.2)
 else(withB f (singleP t spIn st).1 (singleP t spIn (adv (singleP t spIn st).2.2)).1,true,(singleP t spIn (adv (singleP t spIn st).2.2)).2.2)
theorem memberP_no1 {t:ByteArray}{f:Nat→Bool}{st s1:PSt}{b:Int}(h:singleP t spIn st=(b,false,s1)):memberP t f st=(f,false,s1):=by
 unfold memberP;rw[h];simp
theorem memberP_one {t:ByteArray}{f:Nat→Bool}{st s1:PSt}{b:Int}(h:singleP t spIn st=(b,true,s1))(h2:nextB t 45 s1=false):memberP t f st=(withB f b b,true,s1):=by
 unfold memberP;rw[h];simp[h2]
theorem memberP_no2 {t:ByteArray}{f:Nat→Bool}{st s1 s2:PSt}{b b2:Int}{ok2:Bool}(h:singleP t spIn st=(b,true,s1))(h2:nextB t 45 s1=true)(h3:singleP t spIn (adv s1)=(b2,ok2,s2))(h4:ok2=false∨b2<b):memberP t f st=(f,false,s2):=by
 unfold memberP;rw[h];simp only[h2,h3];rw[if_neg (by decide),if_neg (by decide),if_pos h4]
theorem memberP_two {t:ByteArray}{f:Nat→Bool}{st s1 s2:PSt}{b b2:Int}(h:singleP t spIn st=(b,true,s1))(h2:nextB t 45 s1=true)(h3:singleP t spIn (adv s1)=(b2,true,s2))(h4:¬b2<b):memberP t f st=(withB f b b2,true,s2):=by
 unfold memberP;rw[h];simp only[h2,h3];rw[if_neg (by decide),if_neg (by decide),if_neg (by simp;omega)]
def setLoop (t:ByteArray):Nat→(Nat→Bool)→Bool→PSt→(Nat→Bool)×Bool×PSt
 | 0,f,_,st=>(f,false,st)
 | n+1,f,ok,st=>
  if ok=false then(f,false,st)
  else if nextB t 93 st=true then(f,true,adv st)
  else setLoop t n (memberP t f st).1 (memberP t f st).2.1 (memberP t f st).2.2
def zeroF:Nat→Bool:=fun _=>false
def setR (t:ByteArray)(st:PSt):(Nat→Bool)×Bool×PSt:=
 setLoop t (t.size+1) (memberP t zeroF st).1 (memberP t zeroF st).2.1 (memberP t zeroF st).2.2
def setP (t:ByteArray)(st:PSt):(Nat→Bool)×Bool×PSt:=
 if nextB t 94 st=true then
  (if(setR t (adv st)).2.1=true then((fun i=> !((setR t (adv st)).1 i)),true,(setR t (adv st)).2.2)else(zeroF,false,(setR t (adv st)).2.2))
 else(if(setR t st).2.1=true then((setR t st).1,true,(setR t st).2.2)else(zeroF,false,(setR t st).2.2))
def allowedP (t:ByteArray)(st:PSt):(Nat→Bool)×Bool×PSt:=
 if nextB t 91 st=true then setP t (adv st)
 else if nextB t 46 st=true then((fun i=> !(zeroF i)),true,adv st)
 else if(singleP t spOut st).2.1=true then(withB zeroF (singleP t spOut st).1 (singleP t spOut st).1,true,(singleP t spOut st).2.2)
 else(zeroF,false,(singleP t spOut st).2.2)
theorem setLoop_false (t:ByteArray)(n:Nat)(f:Nat→Bool)(st:PSt):setLoop t n f false st=(f,false,st):=by
 cases n<;> rfl
theorem setLoop_done {t:ByteArray}{n:Nat}{f:Nat→Bool}{st:PSt}(h:nextB t 93 st=true):setLoop t (n+1) f true st=(f,true,adv st):=by
 rw[setLoop,if_neg (by decide),if_pos h]
theorem setLoop_more {t:ByteArray}{n:Nat}{f:Nat→Bool}{st:PSt}(h:nextB t 93 st=false):setLoop t (n+1) f true st=setLoop t n (memberP t f st).1 (memberP t f st).2.1 (memberP t f st).2.2:=by
 rw[setLoop,if_neg (by decide),if_neg (by rw[h];decide)]
def letterP (t:ByteArray)(st:PSt):Int×Bool×PSt:=
 if 65≤peekP t st.at_∧peekP t st.at_<69 then(peekP t st.at_ - 65,true,adv st)else(0,false,st)
def behindP (t:ByteArray)(st:PSt):Int×Bool×PSt:=
 if nextB t 46 st=true then(0,true,adv st)
 else if nextB t 45 st=true then(1,true,adv st)
 else if(letterP t st).2.1=true then((letterP t st).1+2,true,(letterP t st).2.2)else(0,false,(letterP t st).2.2)
end Go.Stn

namespace Go.Proofs.Ytgjgjgihceijnaa
open Go.RowKit Go.Stn
theorem Try.bytesSize:(Try.prog.info? 187).map (·.size)=some 256:=by kernel_rfl
theorem Try.bytesZero:Try.zeroCells187.size=256:=by kernel_rfl
set_option maxHeartbeats 400000 in
set_option maxRecDepth 100000 in
theorem not_any (f:Nat→Bool)(w:World):
  Calls Try.prog 151 #[.agg (bitL f).toArray] w fun e w'=>e= .returned (.agg (bitL fun i=> !(f i)).toArray)∧Below w.heap.size w w':=by
 have HR:Hid (((w.alloc (.cells (bitL f).toArray 187)).alloc (.cells Try.zeroCells187 187)).rangeAt w.heap.size 0 (bitL f)):=
  World.rangeAt_alloc (rangeAt_newL w (bitL f) 187) _
 have HT:Hid (((w.alloc (.cells (bitL f).toArray 187)).alloc (.cells Try.zeroCells187 187)).there w.heap.size 0 256):=
  World.there_alloc (there_newL w (bitL f) 187 256 (bitL_len f)) _
 have HZ:Hid (((w.alloc (.cells (bitL f).toArray 187)).alloc (.cells Try.zeroCells187 187)).there (w.heap.size+1) 0 256):=
  there_newA _ Try.zeroCells187 187 _ 256 Try.bytesZero (by simp)
 have HB:Hid (Below w.heap.size w ((w.alloc (.cells (bitL f).toArray 187)).alloc (.cells Try.zeroCells187 187))):=
  ((Below.refl _ _).alloc (Nat.le_refl _) _).alloc (by simp) _
 go_enter Try.func151,Try.ntmps151
 go_wp2_with fail
 generalize (w.alloc (.cells (bitL f).toArray 187)).alloc (.cells Try.zeroCells187 187)=W at*
 go_loopw [4] (fun x wr=>∃k:Nat,k≤256∧x= .int .i64 (k:Int)∧wr.rangeAt w.heap.size 0 (bitL fun i=>if i<k then !(f i)else f i)∧wr.there w.heap.size 0 256∧wr.there (w.heap.size+1) 0 256∧Below w.heap.size w wr)
  (fun x _=>256 - (intOf x).toNat)
 case atStart=>exact⟨0,by omega,rfl,HR.out,HT.out,HZ.out,HB.out⟩
 case round=>
  obtain⟨k,hk,rfl,hr,ht,hz,hb⟩:=hrel
  have HR2:=hr
  have HT2:Hid (wr.there w.heap.size 0 256):=ht
  have HZ2:Hid (wr.there (w.heap.size+1) 0 256):=hz
  have HB2:Hid (Below w.heap.size w wr):=hb
  have HR2:Hid (wr.rangeAt w.heap.size 0 (bitL fun i=>if i<k then !(f i)else f i)):=hr
  clear hr ht hz hb HR HT HZ HB
  by_cases hlt:k<256
  ·have c1:=HR2.out k _ (bitL_get _ k hlt)
   rw[if_neg (Nat.lt_irrefl k),Nat.zero_add]at c1
   have c2:=(HT2.out k hlt).2
   rw[Nat.zero_add]at c2
   have hkI:(0:Int)≤(k:Int)∧(k:Int)<256:=by omega
   go_wp2
   go_roundw
   case rel=>
    refine⟨k+1,hlt,by go_num, ?_,there_set HT2.out _ _,there_set HZ2.out _ _,HB2.out.setCell (p:=⟨w.heap.size,k,none⟩) (Nat.le_refl _) _⟩
    have h:=rangeAt_set HR2.out hlt (!(f k))
    have e:bitL (fun i=>if i=k then !(f k)else if i<k then !(f i)else f i)=bitL (fun i=>if i<k+1 then !(f i)else f i):=by
     refine bitL_congr (fun i _=> ?_)
     by_cases h1:i=k
     ·rw[if_pos h1,if_pos (by omega),h1]
     ·rw[if_neg h1]
      by_cases h2:i<k
      ·rw[if_pos h2,if_pos (by omega)]
      ·rw[if_neg h2,if_neg (by omega)]
    rw[e]at h
    exact h
   case measure=>simp[intOf];omega
  ·have e:k=256:=by omega
   subst e
   have er:bitL (fun i=>if i<256 then !(f i)else f i)=bitL (fun i=> !(f i)):=bitL_congr (fun i hi=>by rw[if_pos hi])
   rw[er]at HR2
   clear er
   go_wp2_with (first
    | (refine wpList_load_mid rfl 187 (.tmp 1) rfl w.heap.size 0 rfl (bitL fun i=> !(f i)) _ HR2.out Try.underlying187 rfl (by rw[bitL_len];exact Try.bytesSize) ?_)
    | (refine wpList_store_mid rfl 187 (.tmp 2) (.tmp 14) rfl (w.heap.size+1) 0 (bitL fun i=> !(f i)).toArray rfl rfl (by rw[bitL_size];exact HZ2.out) (by rw[bitL_size];exact Try.bytesSize) (all_oneCell_toArray (bitL_one _)) ?_))
   refine ret_cell1 Try.results151 (w.heap.size+1) 0 (bitL fun i=> !(f i)) _ rfl ?_ Try.underlying187 rfl (by rw[bitL_len];exact Try.bytesSize) rfl ⟨rfl,below_setCells _ _ _ _ HB2.out (by omega)⟩
   exact World.rangeAt_setCells_same _ _ _ _ (by rw[bitL_len];exact HZ2.out)
set_option maxHeartbeats 400000 in
set_option maxRecDepth 100000 in
theorem with_any (f:Nat→Bool)(a b:Int)(w:World):
  Calls Try.prog 153 #[.agg (bitL f).toArray,.int .i64 a,.int .i64 b] w fun e w'=>e= .returned (.agg (bitL (withB f a b)).toArray)∧Below w.heap.size w w':=by
 have HR:Hid (((w.alloc (.cells (bitL f).toArray 187)).alloc (.cells Try.zeroCells187 187)).rangeAt w.heap.size 0 (bitL f)):=
  World.rangeAt_alloc (rangeAt_newL w (bitL f) 187) _
 have HT:Hid (((w.alloc (.cells (bitL f).toArray 187)).alloc (.cells Try.zeroCells187 187)).there w.heap.size 0 256):=
  World.there_alloc (there_newL w (bitL f) 187 256 (bitL_len f)) _
 have HZ:Hid (((w.alloc (.cells (bitL f).toArray 187)).alloc (.cells Try.zeroCells187 187)).there (w.heap.size+1) 0 256):=
  there_newA _ Try.zeroCells187 187 _ 256 Try.bytesZero (by simp)
 have HB:Hid (Below w.heap.size w ((w.alloc (.cells (bitL f).toArray 187)).alloc (.cells Try.zeroCells187 187))):=
  ((Below.refl _ _).alloc (Nat.le_refl _) _).alloc (by simp) _
 go_enter Try.func153,Try.ntmps153
 go_wp2_with fail
 generalize (w.alloc (.cells (bitL f).toArray 187)).alloc (.cells Try.zeroCells187 187)=W at*
 go_loopw [8] (fun x wr=>∃k:Nat,k≤256∧x= .int .i64 (k:Int)∧wr.rangeAt w.heap.size 0 (bitL fun i=>if i<k then withB f a b i else f i)∧wr.there w.heap.size 0 256∧wr.there (w.heap.size+1) 0 256∧Below w.heap.size w wr)
  (fun x _=>256 - (intOf x).toNat)
 case atStart=>exact⟨0,by omega,rfl,HR.out,HT.out,HZ.out,HB.out⟩
 case round=>
  obtain⟨k,hk,rfl,hr,ht,hz,hb⟩:=hrel
  have HT2:Hid (wr.there w.heap.size 0 256):=ht
  have HZ2:Hid (wr.there (w.heap.size+1) 0 256):=hz
  have HB2:Hid (Below w.heap.size w wr):=hb
  have HR2:Hid (wr.rangeAt w.heap.size 0 (bitL fun i=>if i<k then withB f a b i else f i)):=hr
  clear hr ht hz hb HR HT HZ HB
  by_cases hlt:k<256
  ·have c1:=HR2.out k _ (bitL_get _ k hlt)
   rw[if_neg (Nat.lt_irrefl k),Nat.zero_add]at c1
   have c2:=(HT2.out k hlt).2
   rw[Nat.zero_add]at c2
   have hkI:(0:Int)≤(k:Int)∧(k:Int)<256:=by omega
   by_cases hin:a≤(k:Int)∧(k:Int)≤b
   ·obtain⟨hin1,hin2⟩:=hin
    go_wp2
    go_roundw
    case rel=>
     refine⟨k+1,hlt,by go_num, ?_,there_set HT2.out _ _,there_set HZ2.out _ _,HB2.out.setCell (p:=⟨w.heap.size,k,none⟩) (Nat.le_refl _) _⟩
     have h:=rangeAt_set HR2.out hlt true
     have e:bitL (fun i=>if i=k then true else if i<k then withB f a b i else f i)=bitL (fun i=>if i<k+1 then withB f a b i else f i):=by
      refine bitL_congr (fun i _=> ?_)
      by_cases h1:i=k
      ·rw[if_pos h1,if_pos (by omega),h1];unfold withB;simp[hin1,hin2]
      ·rw[if_neg h1]
       by_cases h2:i<k
       ·rw[if_pos h2,if_pos (by omega)]
       ·rw[if_neg h2,if_neg (by omega)]
     rw[e]at h
     exact h
    case measure=>simp[intOf];omega
   ·have HE:Hid (bitL (fun i=>if i<k then withB f a b i else f i)=bitL (fun i=>if i<k+1 then withB f a b i else f i)):=by
     refine bitL_congr (fun i _=> ?_)
     by_cases h1:i=k
     ·rw[h1,if_neg (by omega),if_pos (by omega)];unfold withB;simp;intro h2 h3;exact absurd ⟨h2,h3⟩ hin
     ·by_cases h2:i<k
      ·rw[if_pos h2,if_pos (by omega)]
      ·rw[if_neg h2,if_neg (by omega)]
    rw[HE.out]at HR2
    by_cases h1:a≤(k:Int)
    ·have h2:¬((k:Int)≤b):=fun h=>hin ⟨h1,h⟩
     clear hin HE
     go_wp2
     go_roundw
     case rel=>exact⟨k+1,hlt,by go_num,HR2.out,HT2.out,HZ2.out,HB2.out⟩
     case measure=>simp[intOf];omega
    ·clear hin HE
     go_wp2
     go_roundw
     case rel=>exact⟨k+1,hlt,by go_num,HR2.out,HT2.out,HZ2.out,HB2.out⟩
     case measure=>simp[intOf];omega
  ·have e:k=256:=by omega
   subst e
   have er:bitL (fun i=>if i<256 then withB f a b i else f i)=bitL (withB f a b):=bitL_congr (fun i hi=>by rw[if_pos hi])
   rw[er]at HR2
   clear er
   go_wp2_with (first
    | (refine wpList_load_mid rfl 187 (.tmp 3) rfl w.heap.size 0 rfl (bitL (withB f a b)) _ HR2.out Try.underlying187 rfl (by rw[bitL_len];exact Try.bytesSize) ?_)
    | (refine wpList_store_mid rfl 187 (.tmp 6) (.tmp 22) rfl (w.heap.size+1) 0 (bitL (withB f a b)).toArray rfl rfl (by rw[bitL_size];exact HZ2.out) (by rw[bitL_size];exact Try.bytesSize) (all_oneCell_toArray (bitL_one _)) ?_))
   refine ret_cell1 Try.results153 (w.heap.size+1) 0 (bitL (withB f a b)) _ rfl ?_ Try.underlying187 rfl (by rw[bitL_len];exact Try.bytesSize) rfl ⟨rfl,below_setCells _ _ _ _ HB2.out (by omega)⟩
   exact World.rangeAt_setCells_same _ _ _ _ (by rw[bitL_len];exact HZ2.out)
end Go.Proofs.Ytgjgjgihceijnaa

namespace Go.Stn
open Go.RowKit
theorem wpList_app1 {P:Program}(w:World){ops:Array Oper}{rest:List Oper}{o:Oper}{a:Act}{Q:Exit→Act→World→Prop}(hgd:o.guard=none)(s x:Operand)(t:TypeId)
  (ho:o.op= .call {callee:= .builtin .append,args:= #[s,x],argTypes:= #[t,t]})
  (base:Nat) (e:TypeId) (z:Value) (size bytes:Nat) (ht:P.underlying t=some (.slice e)) (hinfo:(P.info? e).map (fun i=>(i.zero,i.size,i.bytes))=some (some z,size,bytes))
  (hzs:z.cells.size=size) (hsz:0<size) (hby:bytes≤1000)
  (v:Value) (n:Nat) (xs:List Value) (cs:List Value) (e':TypeId) (hs:a.eval s=v) (hown:w.ownsRow base e size v n xs)
  (B:Nat) (hB:w.heap.size=B) (hx:a.eval x= .slice (some ⟨B,0,none⟩) 1 1) (hl:cs.length=size) (h1:∀u∈cs,u.oneCell'=true)
  (hn:n≤1000000000) (hbase:base≤w.heap.size)
  (h:∀g cap w',w'.ownsRow base e size (.slice (some ⟨g,0,none⟩) (n+1) cap) (n+1) (xs++cs)→(w.alloc (.cells cs.toArray e')).grownBy w' v.ownBlock→(v.ownBlock=some g∨g=w.heap.size+1)→g<w'.heap.size→
   wpList P ops Q rest (a.put o.dst (.slice (some ⟨g,0,none⟩) (n+1) cap)) w'):wpList P ops Q (o::rest) a (w.alloc (.cells cs.toArray e')):=by
 subst hB
 obtain⟨i,hi,hz,hsize,hb⟩:=info_parts hinfo
 refine wpList_append_lies _ hgd s x t ho base e i z size bytes ht hi hz hsize hb hzs hsz v n xs hs (hown.alloc _) ⟨w.heap.size,0,none⟩ 1 1 cs hx (by omega) ?_ h1 (by omega) (by unfold maxLen;omega) ?_ (by simp;omega) (w.heap.size+1) (by simp) h
 ·have:=World.news_of_block (w:=w.alloc (.cells cs.toArray e')) (B:=w.heap.size) (cs:=cs.toArray) (t:=e') (fr:=(0,0)) (heap_alloc_new w _)
  simpa using this
 ·have:=Nat.mul_le_mul (show n+1≤1000000001 by omega) hby
  omega
theorem step_app1 {P:Program}(w:World){ops:Array Oper}{o:Oper}{a:Act}{K:Act→World→Prop}{Q:Exit→Act→World→Prop}{E:Prop}(hgd:o.guard=none)(s x:Operand)(t:TypeId)
  (ho:o.op= .call {callee:= .builtin .append,args:= #[s,x],argTypes:= #[t,t]})
  (base:Nat) (e:TypeId) (z:Value) (size bytes:Nat) (ht:P.underlying t=some (.slice e)) (hinfo:(P.info? e).map (fun i=>(i.zero,i.size,i.bytes))=some (some z,size,bytes))
  (hzs:z.cells.size=size) (hsz:0<size) (hby:bytes≤1000)
  (v:Value) (n:Nat) (xs:List Value) (cs:List Value) (e':TypeId) (hs:a.eval s=v) (hown:w.ownsRow base e size v n xs)
  (B:Nat) (hB:w.heap.size=B) (hx:a.eval x= .slice (some ⟨B,0,none⟩) 1 1) (hl:cs.length=size) (h1:∀u∈cs,u.oneCell'=true)
  (hn:n≤1000000000) (hbase:base≤w.heap.size)
  (h:∀g cap w',w'.ownsRow base e size (.slice (some ⟨g,0,none⟩) (n+1) cap) (n+1) (xs++cs)→(w.alloc (.cells cs.toArray e')).grownBy w' v.ownBlock→(v.ownBlock=some g∨g=w.heap.size+1)→g<w'.heap.size→
   K (a.put o.dst (.slice (some ⟨g,0,none⟩) (n+1) cap)) w'):if Region.wanted o (yielded ops a.tmps)=true then Oper.wp P o a (w.alloc (.cells cs.toArray e')) K Q else E:=by
 subst hB
 obtain⟨i,hi,hz,hsize,hb⟩:=info_parts hinfo
 refine step_append_lies _ hgd s x t ho base e i z size bytes ht hi hz hsize hb hzs hsz v n xs hs (hown.alloc _) ⟨w.heap.size,0,none⟩ 1 1 cs hx (by omega) ?_ h1 (by omega) (by unfold maxLen;omega) ?_ (by simp;omega) (w.heap.size+1) (by simp) h
 ·have:=World.news_of_block (w:=w.alloc (.cells cs.toArray e')) (B:=w.heap.size) (cs:=cs.toArray) (t:=e') (fr:=(0,0)) (heap_alloc_new w _)
  simpa using this
 ·have:=Nat.mul_le_mul (show n+1≤1000000001 by omega) hby
  omega
theorem below_app {B base:Nat}{a w w1:World}{o:Obj}{e:TypeId}{size:Nat}{v:Value}{n:Nat}{xs:List Value}(h:Below B a w)(hz:B≤w.heap.size)(hv:w.ownsRow base e size v n xs)(hb:B≤base)
  (hg:(w.alloc o).grownBy w1 v.ownBlock):Below B a w1:=
 (h.alloc hz o).grown hg (by simp;omega) (fun k hk=>by have:=hv.lt k hk;omega)
end Go.Stn

