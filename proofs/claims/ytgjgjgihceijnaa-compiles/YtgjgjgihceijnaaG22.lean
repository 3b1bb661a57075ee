/- Texts put together: XpFacts, TkNet. -/
import Derived.Test.YtgjgjgihceijnaaG21
namespace Go.Stn
def FnOk (f:Nat→Bool):Prop:=∃b,b<256∧f b=true
def FnLow (f:Nat→Bool):Prop:=∀b,126<b→f b=false
theorem escX_ok {t:ByteArray}{a a':Nat}{x:Int}(h:escX t a=some (x,a')):∃b:Nat,x=(b:Int)∧b≤126:=by
 unfold escX at h
 split at h
 ·injection h with h;injection h with h1 h2;exact⟨10,by rw[←h1];rfl,by omega⟩
 ·split at h
  ·injection h with h;injection h with h1 h2;exact⟨32,by rw[←h1];rfl,by omega⟩
  ·split at h
   ·rename_i hv
    injection h with h;injection h with h1 h2
    have hv:=hv.1
    unfold visB at hv
    rw[decide_eq_true_eq]at hv
    exact⟨x.toNat,by omega,by omega⟩
   ·cases h
theorem singleX_ok {t sp:ByteArray}{a a':Nat}{x:Int}(h:singleX t sp a=some (x,a')):∃b:Nat,x=(b:Int)∧b≤126:=by
 unfold singleX at h
 split at h
 ·exact escX_ok h
 ·split at h
  ·rename_i hv
   injection h with h;injection h with h1 h2
   unfold plainB visB at hv
   rw[Bool.and_eq_true,decide_eq_true_eq]at hv
   exact⟨x.toNat,by omega,by omega⟩
  ·cases h
theorem withB_ok {f:Nat→Bool}{x y:Nat}(h:x≤y)(hy:y≤126):FnOk (withB f x y):=⟨x,by omega,by unfold withB;simp;omega⟩
theorem withB_low {f:Nat→Bool}{x y:Nat}(hf:FnLow f)(hy:y≤126):FnLow (withB f x y):=fun b hb=>by
 unfold withB;rw[hf b hb];simp;omega
theorem memberX_ok {t:ByteArray}{f g:Nat→Bool}{a a':Nat}(hf:FnLow f)(h:memberX t f a=some (g,a')):FnOk g∧FnLow g:=by
 unfold memberX at h
 cases e:singleX t spIn a with
 | none=>rw[e]at h;cases h
 | some y=>
  obtain⟨x,a1⟩:=y
  obtain⟨b,rfl,hb⟩:=singleX_ok e
  rw[e]at h
  simp only at h
  split at h
  ·injection h with h;injection h with h1 h2
   rw[←h1];exact⟨withB_ok (Nat.le_refl _) hb,withB_low hf hb⟩
  ·cases e2:singleX t spIn (a1+1)with
   | none=>rw[e2]at h;cases h
   | some z=>
    obtain⟨y,a2⟩:=z
    obtain⟨c,rfl,hc⟩:=singleX_ok e2
    rw[e2]at h
    simp only at h
    split at h
    ·cases h
    ·rename_i hlt
     injection h with h;injection h with h1 h2
     rw[←h1];exact⟨withB_ok (by omega) hc,withB_low hf hc⟩
theorem setLoopX_ok {t:ByteArray}:∀(n:Nat) (f g:Nat→Bool) (a a':Nat),FnOk f→FnLow f→setLoopX t n f a=some (g,a')→FnOk g∧FnLow g:=by
 intro n
 induction n with
 | zero=>intro f g a a' _ _ h;cases h
 | succ k ih=>
  intro f g a a' h1 h2 h
  rw[setLoopX]at h
  split at h
  ·injection h with h;injection h with h3 _;rw[←h3];exact⟨h1,h2⟩
  ·cases e:memberX t f a with
   | none=>rw[e]at h;cases h
   | some y=>
    obtain⟨f2,a2⟩:=y
    rw[e]at h
    obtain⟨k1,k2⟩:=memberX_ok h2 e
    exact ih f2 g a2 a' k1 k2 h
theorem setRX_ok {t:ByteArray}{g:Nat→Bool}{a a':Nat}(h:setRX t a=some (g,a')):FnOk g∧FnLow g:=by
 unfold setRX at h
 cases e:memberX t zeroF a with
 | none=>rw[e]at h;cases h
 | some y=>
  obtain⟨f2,a2⟩:=y
  rw[e]at h
  obtain⟨k1,k2⟩:=memberX_ok (fun _ _=>rfl) e
  exact setLoopX_ok _ f2 g a2 a' k1 k2 h
theorem allowedX_ok {t:ByteArray}{g:Nat→Bool}{a a':Nat}(h:allowedX t a=some (g,a')):FnOk g:=by
 unfold allowedX at h
 split at h
 ·unfold setX at h
  split at h
  ·cases e:setRX t (a+1+1)with
   | none=>rw[e]at h;cases h
   | some y=>
    obtain⟨f2,a2⟩:=y
    rw[e]at h
    obtain⟨_,k2⟩:=setRX_ok e
    injection h with h;injection h with h3 _
    rw[←h3]
    exact⟨255,by omega,by show(!(f2 255))=true;rw[k2 255 (by omega)];rfl⟩
  ·exact(setRX_ok h).1
 ·split at h
  ·injection h with h;injection h with h3 _
   rw[←h3];exact⟨0,by omega,rfl⟩
  ·cases e:singleX t spOut a with
   | none=>rw[e]at h;cases h
   | some y=>
    obtain⟨x,a1⟩:=y
    obtain⟨b,rfl,hb⟩:=singleX_ok e
    rw[e]at h
    injection h with h;injection h with h3 _
    rw[←h3];exact withB_ok (Nat.le_refl _) hb
def Rx.good (r:Rx):Prop:=∀f∈r.fns,FnOk f
def GoodE (ex:Nat→Option (Rx×Nat)):Prop:=∀a r a',ex a=some (r,a')→r.good
theorem good_cat {r r2:Rx}(h:r.good)(k:r2.good):(Rx.cat r r2).good:=fun f hf=>by
 rcases List.mem_append.1 hf with h1 | h1
 ·exact h f h1
 ·exact k f h1
theorem good_alt {r r2:Rx}(h:r.good)(k:r2.good):(Rx.alt r r2).good:=fun f hf=>by
 rcases List.mem_append.1 hf with h1 | h1
 ·exact h f h1
 ·exact k f h1
theorem atomX_good {t:ByteArray}{ex:Nat→Option (Rx×Nat)}(hx:GoodE ex):GoodE (atomX t ex):=fun a r a' h=>by
 unfold atomX at h
 split at h
 ·cases e:ex (a+1)with
  | none=>rw[e]at h;cases h
  | some y=>
   obtain⟨r2,a2⟩:=y
   rw[e]at h
   simp only at h
   split at h
   ·injection h with h;injection h with h1 _;rw[←h1];exact hx _ _ _ e
   ·cases h
 ·cases e:allowedX t a with
  | none=>rw[e]at h;cases h
  | some y=>
   obtain⟨f,a2⟩:=y
   rw[e]at h
   injection h with h;injection h with h1 _
   rw[←h1]
   intro g hg
   have hg:g∈ [f]:=hg
   rw[List.mem_singleton]at hg
   rw[hg];exact allowedX_ok e
theorem pieceX_good {t:ByteArray}{ex:Nat→Option (Rx×Nat)}(hx:GoodE ex):GoodE (pieceX t ex):=fun a r a' h=>by
 unfold pieceX at h
 cases e:atomX t ex a with
 | none=>rw[e]at h;cases h
 | some y=>
  obtain⟨r2,a2⟩:=y
  have hg:=atomX_good hx _ _ _ e
  rw[e]at h
  simp only at h
  split at h
  ·injection h with h;injection h with h1 _;rw[←h1];exact hg
  ·rename_i hm
   injection h with h;injection h with h1 _
   rw[←h1]
   intro f hf
   rw[(markX_flat hm r2 0 0).2.2.1]at hf
   exact hg f hf
theorem altLoopX_good {t:ByteArray}{ex:Nat→Option (Rx×Nat)}(hx:GoodE ex):∀(n:Nat) (r:Rx) (a:Nat) (r':Rx) (a':Nat),r.good→altLoopX t ex n r a=some (r',a')→r'.good:=by
 intro n
 induction n with
 | zero=>intro r a r' a' _ h;cases h
 | succ k ih=>
  intro r a r' a' hr h
  rw[altLoopX]at h
  split at h
  ·injection h with h;injection h with h1 _;rw[←h1];exact hr
  ·cases e:pieceX t ex a with
   | none=>rw[e]at h;cases h
   | some y=>
    obtain⟨r2,a2⟩:=y
    rw[e]at h
    exact ih _ _ _ _ (good_cat hr (pieceX_good hx _ _ _ e)) h
theorem altX_good {t:ByteArray}{ex:Nat→Option (Rx×Nat)}(hx:GoodE ex):GoodE (altX t ex):=fun a r a' h=>by
 unfold altX at h
 cases e:pieceX t ex a with
 | none=>rw[e]at h;cases h
 | some y=>
  obtain⟨r2,a2⟩:=y
  rw[e]at h
  exact altLoopX_good hx _ _ _ _ _ (pieceX_good hx _ _ _ e) h
theorem exprLoopX_good {t:ByteArray}{ex:Nat→Option (Rx×Nat)}(hx:GoodE ex):∀(n:Nat) (r:Rx) (a:Nat) (r':Rx) (a':Nat),r.good→exprLoopX t ex n r a=some (r',a')→r'.good:=by
 intro n
 induction n with
 | zero=>intro r a r' a' _ h;cases h
 | succ k ih=>
  intro r a r' a' hr h
  rw[exprLoopX]at h
  split at h
  ·injection h with h;injection h with h1 _;rw[←h1];exact hr
  ·cases e:altX t ex (a+1)with
   | none=>rw[e]at h;cases h
   | some y=>
    obtain⟨r2,a2⟩:=y
    rw[e]at h
    exact ih _ _ _ _ (good_alt hr (altX_good hx _ _ _ e)) h
theorem exprX_good (t:ByteArray):∀f,GoodE (exprX t f):=by
 intro f
 induction f with
 | zero=>intro a r a' h;cases h
 | succ k ih=>
  intro a r a' h
  rw[exprX]at h
  cases e:altX t (exprX t k) a with
  | none=>rw[e]at h;cases h
  | some y=>
   obtain⟨r2,a2⟩:=y
   rw[e]at h
   exact exprLoopX_good ih _ _ _ _ _ (altX_good ih _ _ _ e) h
structure RuleOk (x:RuleX):Prop where
 b0:0≤x.2.1
 b5:x.2.1≤5
 c4:∀c,4≤c→x.1 c=false
 c0:∃c,c<4∧x.1 c=true
 g:x.2.2.good
theorem letterX_ok {t:ByteArray}{a a':Nat}{x:Int}(h:letterX t a=some (x,a')):∃c:Nat,x=(c:Int)∧c<4:=by
 unfold letterX at h
 split at h
 ·injection h with h;injection h with h1 _
  exact⟨x.toNat,by omega,by omega⟩
 ·cases h
theorem condsLoopX_ok {t:ByteArray}:∀(n:Nat) (f:Nat→Bool) (last:Int) (a:Nat) (g:Nat→Bool) (a':Nat),(∀c,4≤c→f c=false)→(∃c,c<4∧f c=true)→condsLoopX t n f last a=some (g,a')→(∀c,4≤c→g c=false)∧∃c,c<4∧g c=true:=by
 intro n
 induction n with
 | zero=>intro f last a g a' _ _ h;cases h
 | succ k ih=>
  intro f last a g a' h1 h2 h
  rw[condsLoopX]at h
  cases e:letterX t a with
  | none=>rw[e]at h;injection h with h;injection h with h3 _;rw[←h3];exact⟨h1,h2⟩
  | some y=>
   obtain⟨x,a1⟩:=y
   obtain⟨c,rfl,hc⟩:=letterX_ok e
   rw[e]at h
   simp only at h
   split at h
   ·cases h
   ·refine ih _ _ _ _ _ (fun d hd=> ?_) ?_ h
    ·unfold set1;rw[if_neg (by omega)];exact h1 d hd
    ·exact⟨c,hc,by unfold set1;rw[if_pos rfl]⟩
theorem ruleX_ok {t:ByteArray}{a a':Nat}{x:RuleX}(h:ruleX t a=some (x,a')):RuleOk x:=by
 unfold ruleX at h
 cases e:condsX t a with
 | none=>rw[e]at h;cases h
 | some y=>
  obtain⟨f,a1⟩:=y
  rw[e]at h
  simp only at h
  have hf:(∀c,4≤c→f c=false)∧∃c,c<4∧f c=true:=by
   unfold condsX at e
   cases e2:letterX t a with
   | none=>rw[e2]at e;cases e
   | some z=>
    obtain⟨u,a2⟩:=z
    obtain⟨c,rfl,hc⟩:=letterX_ok e2
    rw[e2]at e
    refine condsLoopX_ok _ _ _ _ _ _ (fun d hd=> ?_) ?_ e
    ·unfold set1;rw[if_neg (by omega)];rfl
    ·exact⟨c,hc,by unfold set1;rw[if_pos rfl]⟩
  split at h
  ·cases h
  ·cases e2:exprX t (t.size+1) (a1+1)with
   | none=>rw[e2]at h;cases h
   | some z=>
    obtain⟨r,a2⟩:=z
    rw[e2]at h
    simp only at h
    split at h
    ·cases h
    ·cases e3:behindX t (a2+1)with
     | none=>rw[e3]at h;cases h
     | some u=>
      obtain⟨b,a3⟩:=u
      rw[e3]at h
      injection h with h;injection h with h1 _
      have hb:0≤b∧b≤5:=by
       unfold behindX at e3
       split at e3
       ·injection e3 with e3;injection e3 with e4 _;omega
       ·split at e3
        ·injection e3 with e3;injection e3 with e4 _;omega
        ·cases e5:letterX t (a2+1)with
         | none=>rw[e5]at e3;cases e3
         | some v=>
          obtain⟨c,a4⟩:=v
          obtain⟨d,rfl,hd⟩:=letterX_ok e5
          rw[e5]at e3
          injection e3 with e3;injection e3 with e4 _;omega
      rw[←h1]
      exact⟨hb.1,hb.2,hf.1,hf.2,exprX_good t _ _ _ _ e2⟩
theorem rulesLoopX_ok {t:ByteArray}:∀(n:Nat) (l:List RuleX) (a:Nat) (l':List RuleX) (a':Nat),(∀x∈l,RuleOk x)→0<l.length→rulesLoopX t n l a=some (l',a')→(∀x∈l',RuleOk x)∧0<l'.length:=by
 intro n
 induction n with
 | zero=>intro l a l' a' _ _ h;cases h
 | succ k ih=>
  intro l a l' a' h1 h2 h
  rw[rulesLoopX]at h
  split at h
  ·injection h with h;injection h with h3 _;rw[←h3];exact⟨h1,h2⟩
  ·cases e:ruleX t (a+1)with
   | none=>rw[e]at h;cases h
   | some y=>
    obtain⟨x,a1⟩:=y
    rw[e]at h
    refine ih _ _ _ _ (fun z hz=> ?_) (by simp) h
    rcases List.mem_append.1 hz with q | q
    ·exact h1 z q
    ·rw[List.mem_singleton]at q;rw[q];exact ruleX_ok e
theorem fileX_ok {t:ByteArray}{l:List RuleX}(h:fileX t=some l):(∀x∈l,RuleOk x)∧0<l.length∧l.length≤8:=by
 unfold fileX rulesX at h
 cases e:ruleX t 0 with
 | none=>rw[e]at h;cases h
 | some y=>
  obtain⟨x,a1⟩:=y
  rw[e]at h
  simp only at h
  cases e2:rulesLoopX t (t.size+1) [x] a1 with
  | none=>rw[e2]at h;cases h
  | some z=>
   obtain⟨l',a'⟩:=z
   rw[e2]at h
   simp only at h
   have:=rulesLoopX_ok _ _ _ _ _ (fun z hz=>by rw[List.mem_singleton]at hz;rw[hz];exact ruleX_ok e) (by simp) e2
   split at h
   ·rename_i hyes
    injection h with h
    rw[←h]
    exact⟨this.1,this.2,hyes.2⟩
   ·cases h
def nodeOk1 (k:Nat)(x:Int×Int×Int):Prop:=0≤x.1∧x.1≤5∧(x.1=0→0≤x.2.1∧x.2.1<10)∧(x.1≠0→0≤x.2.1∧x.2.1<k∧0≤x.2.2∧x.2.2<k)
def NodesFrom (nb:Nat)(l:List (Int×Int×Int)):Prop:=∀k x,l[k]? =some x→nodeOk1 (nb+k) x
theorem NodesFrom.app {nb:Nat}{l m:List (Int×Int×Int)}(h:NodesFrom nb l)(k:NodesFrom (nb+l.length) m):NodesFrom nb (l++m):=fun i x hx=>by
 by_cases e:i<l.length
 ·rw[List.getElem?_append_left e]at hx;exact h i x hx
 ·rw[List.getElem?_append_right (by omega)]at hx
  have:=k _ x hx
  rw[show nb+l.length+(i - l.length)=nb+i by omega]at this
  exact this
theorem NodesFrom.one {nb:Nat}{x:Int×Int×Int}(h:nodeOk1 nb x):NodesFrom nb [x]:=fun i y hy=>by
 cases i with
 | zero=>simp at hy;rw[←hy];exact h
 | succ j=>simp at hy
theorem Rx.flat_ok:∀(r:Rx) (nb pb:Nat),pb+r.np≤10→NodesFrom nb (r.flat nb pb)
 | .pl f,nb,pb,h=>NodesFrom.one (by have h:pb+1≤10:=h;unfold nodeOk1;simp only;omega)
 | .cat a b,nb,pb,h=>by
  have h:pb+(a.np+b.np)≤10:=h
  have:=a.sz_pos
  have:=b.sz_pos
  refine(a.flat_ok nb pb (by omega)).app ?_
  rw[a.flat_len]
  refine(b.flat_ok _ _ (by omega)).app ?_
  rw[b.flat_len]
  exact NodesFrom.one (by unfold nodeOk1;simp only;omega)
 | .alt a b,nb,pb,h=>by
  have h:pb+(a.np+b.np)≤10:=h
  have:=a.sz_pos
  have:=b.sz_pos
  refine(a.flat_ok nb pb (by omega)).app ?_
  rw[a.flat_len]
  refine(b.flat_ok _ _ (by omega)).app ?_
  rw[b.flat_len]
  exact NodesFrom.one (by unfold nodeOk1;simp only;omega)
 | .opt a,nb,pb,h=>by
  have:=a.sz_pos
  refine(a.flat_ok nb pb h).app ?_
  rw[a.flat_len]
  exact NodesFrom.one (by unfold nodeOk1;simp only;omega)
 | .plus a,nb,pb,h=>by
  have:=a.sz_pos
  refine(a.flat_ok nb pb h).app ?_
  rw[a.flat_len]
  exact NodesFrom.one (by unfold nodeOk1;simp only;omega)
 | .star a,nb,pb,h=>by
  have:=a.sz_pos
  refine(a.flat_ok nb pb h).app ?_
  rw[a.flat_len]
  exact NodesFrom.one (by unfold nodeOk1;simp only;omega)
structure ListsOk (st:PSt):Prop where
 no:NodesFrom 0 st.nodes
 ro:∀x∈st.rules,0≤x.2.2∧x.2.2<st.nodes.length
 be:∀x∈st.rules,0≤x.2.1∧x.2.1≤5
def sumNp:List RuleX→Nat
 | []=>0
 | x::l=>x.2.2.np+sumNp l
theorem putRules_places:∀(l:List RuleX) (st:PSt),(putRules st l).places.length=st.places.length+sumNp l
 | [],st=>rfl
 | x::l,st=>by rw[putRules,putRules_places l];simp[putRule,sumNp,Rx.fns_len];omega
theorem putRules_ok:∀(l:List RuleX) (st:PSt),ListsOk st→(∀x∈l,RuleOk x)→st.places.length+sumNp l≤10→ListsOk (putRules st l)
 | [],st,h,_,_=>h
 | x::l,st,h,hl,hp=>by
  have hx:=hl x List.mem_cons_self
  have hp:st.places.length+(x.2.2.np+sumNp l)≤10:=hp
  have hsz:=x.2.2.sz_pos
  refine putRules_ok l _ ⟨?_,fun y hy=> ?_,fun y hy=> ?_⟩ (fun y hy=>hl y (List.mem_cons_of_mem _ hy)) ?_
  ·refine h.no.app ?_
   rw[Nat.zero_add]
   exact x.2.2.flat_ok _ _ (by omega)
  ·show 0≤y.2.2∧y.2.2<((st.nodes++x.2.2.flat st.nodes.length st.places.length).length:Nat)
   rw[List.length_append,Rx.flat_len]
   rcases List.mem_append.1 hy with q | q
   ·have:=h.ro y q;omega
   ·rw[List.mem_singleton]at q;rw[q];simp only;omega
  ·rcases List.mem_append.1 hy with q | q
   ·exact h.be y q
   ·rw[List.mem_singleton]at q;rw[q];exact⟨hx.b0,hx.b5⟩
  ·show(st.places++x.2.2.fns).length+sumNp l≤10
   rw[List.length_append,Rx.fns_len];omega
theorem rulesLoop_gr {t:ByteArray}:∀(n:Nat) (ok:Bool) (st:PSt),st.at_≤t.size→st.nodes.length≤3*st.at_→(rulesLoop t n ok st).2.nodes.length≤3*t.size:=by
 intro n
 induction n with
 | zero=>intro ok st h1 h2;rw[rulesLoop];simp only;omega
 | succ k ih=>
  intro ok st h1 h2
  rw[rulesLoop]
  split
  ·simp only;omega
  ·split
   ·simp only;omega
   ·rename_i hn
    have hlt:=nextB_lt (t:=t) (b:=10) (st:=st) (by omega) (by simpa using hn)
    have hg:=(ruleP_gr (t:=t) (st:=adv st) (by rw[adv_at];omega)).1
    obtain⟨g1,g2,g3,g4⟩:=hg
    rw[adv_at]at g1 g3
    have e:(adv st).nodes=st.nodes:=rfl
    rw[e]at g3
    exact ih _ _ g2 (by omega)
theorem parsed_few (t:ByteArray):(parsedP t).nodes.length≤3*t.size:=by
 unfold parsedP rulesR
 have hg:=(ruleP_gr (t:=t) (st:=st0) (Nat.zero_le _)).1
 obtain⟨g1,g2,g3,g4⟩:=hg
 have e:st0.nodes.length=0:=rfl
 have e2:st0.at_=0:=rfl
 rw[e,e2]at g3
 exact rulesLoop_gr _ _ _ g2 (by omega)
theorem st0_ok:ListsOk st0:=⟨fun k x hx=>by simp[st0]at hx,fun x hx=>absurd hx List.not_mem_nil,fun x hx=>absurd hx List.not_mem_nil⟩
theorem parse_ok {t:ByteArray}(h:parseC t=0):t.size≤120∧∃l,fileX t=some l∧sumNp l≤10∧(parsedP t).rules=(putRules st0 l).rules∧(parsedP t).nodes=(putRules st0 l).nodes∧(parsedP t).places=(putRules st0 l).places:=by
 obtain⟨h1,h2,h3⟩:=parse_file t
 by_cases hs:120<t.size
 ·rw[h1 hs]at h;cases h
 ·refine⟨by omega, ?_⟩
  cases e:fileX t with
  | none=>rw[h2 (by omega) e]at h;cases h
  | some l=>
   obtain⟨a,b⟩:=h3 (by omega) l e
   by_cases hp:10<(putRules st0 l).places.length
   ·rw[a hp]at h;cases h
   ·obtain⟨_,c⟩:=b (by omega)
    rw[putRules_places]at hp
    have e0:st0.places.length=0:=rfl
    have c1:=congrArg PSt.rules c
    have c2:=congrArg PSt.nodes c
    have c3:=congrArg PSt.places c
    exact⟨l,rfl,by omega,c1,c2,c3⟩
theorem file_ok {t:ByteArray}(h:parseC t=0):FileOk (parsedP t):=by
 obtain⟨hs,l,hl,hn,e1,e2,e3⟩:=parse_ok h
 obtain⟨k1,k2,k3⟩:=fileX_ok hl
 have e0:st0.places.length=0:=rfl
 have e4:st0.rules.length=0:=rfl
 have hok:=putRules_ok l st0 st0_ok k1 (by omega)
 have hfew:=parsed_few t
 have hlen:(putRules st0 l).rules.length=l.length:=by rw[putRules_len];omega
 have hpl:(putRules st0 l).places.length=sumNp l:=by rw[putRules_places];omega
 obtain⟨g0,g1,g2⟩:=grpP_facts (parsedP t).places
 have hnp:0<sumNp l:=by
  cases l with
  | nil=>simp at k2
  | cons x r=>have:=x.2.2.np_pos;show 0<x.2.2.np+sumNp r;omega
 have hnn:0<(putRules st0 l).nodes.length:=by
  cases hr:(putRules st0 l).rules with
  | nil=>rw[hr]at hlen;simp at hlen;omega
  | cons x r=>have:=hok.ro x (by rw[hr];exact List.mem_cons_self);omega
 refine⟨by omega,by rw[e2];exact hnn, ?_,by rw[e1,hlen];exact k2,by rw[e1,hlen];omega, ?_, ?_,by rw[e3,hpl];exact hnp,by rw[e3,hpl];exact hn,g0,g1,g2⟩
 ·rw[e2]
  intro k x hx
  have:=hok.no k x hx
  rw[Nat.zero_add]at this
  exact this
 ·rw[e1,e2];exact hok.ro
 ·rw[e1]
  intro x hx
  have:=hok.be x hx
  omega
end Go.Stn

namespace Go.Stn
open Go.Proofs.Ytgjgjgihceijnaa (netN netF netL)
theorem linkL_app:∀(l m:List (Int×Int×Int)) (k:Nat) (ps:Nat→PartT) (next:Nat→Int),linkL (l++m) k ps next=linkL m (k+l.length) (linkL l k ps next).1 (linkL l k ps next).2
 | [],m,k,ps,next=>rfl
 | x::l,m,k,ps,next=>by
  rw[List.cons_append,linkL,linkL_app l m,linkL,List.length_cons,show k+1+l.length=k+(l.length+1) by omega]
def bases:Nat→List RuleX→List (Rx×Nat)
 | _,[]=>[]
 | k,x::l=>(x.2.2,k)::bases (k+x.2.2.np) l
theorem bases_len:∀(l:List RuleX) (k:Nat),(bases k l).length=l.length
 | [],_=>rfl
 | x::l,k=>by simp[bases,bases_len l]
theorem bases_in:∀(l:List RuleX) (k:Nat) (y:Rx×Nat),y∈bases k l→k≤y.2∧y.2+y.1.np≤k+sumNp l
 | [],_,y,h=>absurd h List.not_mem_nil
 | x::l,k,y,h=>by
  rcases List.mem_cons.1 h with e | e
  ·rw[e];show k≤k∧k+x.2.2.np≤k+(x.2.2.np+sumNp l);omega
  ·have:=bases_in l _ y e
   show k≤y.2∧y.2+y.1.np≤k+(x.2.2.np+sumNp l);omega
theorem bases_apart:∀(l:List RuleX) (k i j:Nat) (y z:Rx×Nat),(bases k l)[i]? =some y→(bases k l)[j]? =some z→i<j→y.2+y.1.np≤z.2
 | [],_,_,_,_,_,h,_,_=>by simp[bases]at h
 | x::l,k,i,j,y,z,hy,hz,hij=>by
  obtain⟨j',rfl⟩:∃j',j=j'+1:=⟨j - 1,by omega⟩
  rw[bases,List.getElem?_cons_succ]at hz
  cases i with
  | zero=>
   rw[bases,List.getElem?_cons_zero]at hy
   injection hy with hy
   have:=bases_in l _ z (List.mem_of_getElem? hz)
   rw[←hy]
   exact this.1
  | succ i'=>
   rw[bases,List.getElem?_cons_succ]at hy
   exact bases_apart l _ i' j' y z hy hz (by omega)
def plA (places:List (Nat→Bool))(p b:Nat):Bool:=places.getD p zeroF b
theorem says_of:∀(r:Rx) (pre post:List (Nat→Bool)),r.says (plA (pre++(r.fns++post))) pre.length
 | .pl f,pre,post=>fun b _=>by
  unfold plA
  rw[List.getD_eq_getElem?_getD,List.getElem?_append_right (Nat.le_refl _),Nat.sub_self]
  rfl
 | .cat a b,pre,post=>by
  refine⟨?_, ?_⟩
  ·have:=says_of a pre (b.fns++post)
   show a.says (plA (pre++((a.fns++b.fns)++post))) pre.length
   rw[List.append_assoc];exact this
  ·have:=says_of b (pre++a.fns) post
   rw[List.length_append,a.fns_len,List.append_assoc]at this
   show b.says (plA (pre++((a.fns++b.fns)++post))) (pre.length+a.np)
   rw[List.append_assoc];exact this
 | .alt a b,pre,post=>by
  refine⟨?_, ?_⟩
  ·have:=says_of a pre (b.fns++post)
   show a.says (plA (pre++((a.fns++b.fns)++post))) pre.length
   rw[List.append_assoc];exact this
  ·have:=says_of b (pre++a.fns) post
   rw[List.length_append,a.fns_len,List.append_assoc]at this
   show b.says (plA (pre++((a.fns++b.fns)++post))) (pre.length+a.np)
   rw[List.append_assoc];exact this
 | .opt a,pre,post=>says_of a pre post
 | .plus a,pre,post=>says_of a pre post
 | .star a,pre,post=>says_of a pre post
def fnsOf:List RuleX→List (Nat→Bool)
 | []=>[]
 | x::l=>x.2.2.fns++fnsOf l
theorem putRules_fns:∀(l:List RuleX) (st:PSt),(putRules st l).places=st.places++fnsOf l
 | [],st=>(List.append_nil _).symm
 | x::l,st=>by
  rw[putRules,putRules_fns l]
  show(st.places++x.2.2.fns)++fnsOf l=_
  rw[List.append_assoc];rfl
theorem bases_says:∀(l:List RuleX) (pre:List (Nat→Bool)) (y:Rx×Nat),y∈bases pre.length l→y.1.says (plA (pre++fnsOf l)) y.2
 | [],_,y,h=>absurd h List.not_mem_nil
 | x::l,pre,y,h=>by
  rcases List.mem_cons.1 h with e | e
  ·rw[e];exact says_of x.2.2 pre (fnsOf l)
  ·have:=bases_says l (pre++x.2.2.fns) y (by rw[List.length_append,Rx.fns_len];exact e)
   rw[List.append_assoc]at this
   exact this
theorem link_rules (P0:Nat→PartT)(N0:Nat→Int):∀(l:List RuleX) (st:PSt),st.places.length+sumNp l≤10→(∀p,isSet ((linkL st.nodes 0 P0 N0).2 p))→
  (∀i,i<st.nodes.length→(linkL (putRules st l).nodes 0 P0 N0).1 i=(linkL st.nodes 0 P0 N0).1 i)∧st.nodes.length≤(putRules st l).nodes.length∧
  (∀p,isSet ((linkL (putRules st l).nodes 0 P0 N0).2 p))∧
  (∀p q,inS ((linkL (putRules st l).nodes 0 P0 N0).2 p) q=true↔(inS ((linkL st.nodes 0 P0 N0).2 p) q=true∨∃y∈bases st.places.length l,y.1.fol y.2 p q))∧
  ∃R:List ((Nat→Bool)×Int×Int),(putRules st l).rules=st.rules++R∧R.length=l.length∧∀(r:Nat) (x:RuleX) (y:Rx×Nat),l[r]? =some x→(bases st.places.length l)[r]? =some y→
   ∃root:Nat,R[r]? =some (x.1,x.2.1,(root:Int))∧PartOk ((linkL (putRules st l).nodes 0 P0 N0).1 root) y.1 y.2
 | [],st,_,hn=>by
  refine⟨fun _ _=>rfl,Nat.le_refl _,hn,fun p q=>⟨fun h=> .inl h,fun h=>h.elim id (fun⟨y,hy,_⟩=>absurd hy List.not_mem_nil)⟩,[],(List.append_nil _).symm,rfl,fun r x y h=>by simp at h⟩
 | x::l,st,hp,hn=>by
  have hp:st.places.length+(x.2.2.np+sumNp l)≤10:=hp
  obtain⟨ps1,n1,e1,k1,p1,o1⟩:=linkL_rx x.2.2 st.nodes.length st.places.length [] (linkL st.nodes 0 P0 N0).1 (linkL st.nodes 0 P0 N0).2 (by omega) hn
  have hsz:=x.2.2.sz_pos
  have hlink:linkL (putRule st x st.at_).nodes 0 P0 N0=(ps1,n1):=by
   show linkL (st.nodes++x.2.2.flat st.nodes.length st.places.length) 0 P0 N0=_
   rw[linkL_app,Nat.zero_add]
   rw[List.append_nil]at e1
   rw[e1];rfl
  have hlen:(putRule st x st.at_).nodes.length=st.nodes.length+x.2.2.sz:=by
   show(st.nodes++x.2.2.flat st.nodes.length st.places.length).length=_
   rw[List.length_append,Rx.flat_len]
  have hpl:(putRule st x st.at_).places.length=st.places.length+x.2.2.np:=by
   show(st.places++x.2.2.fns).length=_
   rw[List.length_append,Rx.fns_len]
  obtain⟨a1,a2,a3,a4,R,b1,b2,b3⟩:=link_rules P0 N0 l (putRule st x st.at_) (by rw[hpl];omega) (by rw[hlink];exact o1.s)
  rw[hlink]at a1 a4
  rw[hpl]at a4 b3
  rw[hlen]at a1 a2
  refine⟨fun i hi=> ?_,by show st.nodes.length≤(putRules (putRule st x st.at_) l).nodes.length;omega,a3,fun p q=> ?_,(x.1,x.2.1,((st.nodes.length+x.2.2.sz - 1:Nat):Int))::R, ?_,by simp[b2],fun r z y hz hy=> ?_⟩
  ·show(linkL (putRules (putRule st x st.at_) l).nodes 0 P0 N0).1 i=_
   rw[a1 i (by omega)];exact k1 i hi
  ·show inS ((linkL (putRules (putRule st x st.at_) l).nodes 0 P0 N0).2 p) q=true↔_
   rw[a4,o1.f]
   constructor
   ·rintro((h | h) | ⟨y,hy,h⟩)
    ·exact .inl h
    ·exact .inr ⟨(x.2.2,st.places.length),List.mem_cons_self,h⟩
    ·exact .inr ⟨y,List.mem_cons_of_mem _ hy,h⟩
   ·rintro(h | ⟨y,hy,h⟩)
    ·exact .inl (.inl h)
    ·rcases List.mem_cons.1 hy with e | e
     ·rw[e]at h;exact .inl (.inr h)
     ·exact .inr ⟨y,e,h⟩
  ·show(putRules (putRule st x st.at_) l).rules=_
   rw[b1]
   show(st.rules++ [_])++R=_
   rw[List.append_assoc];rfl
  ·cases r with
   | zero=>
    rw[List.getElem?_cons_zero]at hz
    rw[bases,List.getElem?_cons_zero]at hy
    injection hz with hz
    injection hy with hy
    rw[←hz,←hy]
    refine⟨st.nodes.length+x.2.2.sz - 1,rfl, ?_⟩
    show PartOk ((linkL (putRules (putRule st x st.at_) l).nodes 0 P0 N0).1 _) _ _
    rw[a1 _ (by omega)]
    exact p1
   | succ r'=>
    rw[List.getElem?_cons_succ]at hz
    rw[bases,List.getElem?_cons_succ]at hy
    obtain⟨root,h1,h2⟩:=b3 r' z y hz hy
    exact⟨root,by rw[List.getElem?_cons_succ];exact h1,h2⟩
structure NetOk (l:List RuleX)(next:Nat→Int)(fi la:List Int):Prop where
 s:∀p,isSet (next p)
 f:∀p q,inS (next p) q=true↔∃y∈bases 0 l,y.1.fol y.2 p q
 fl:fi.length=l.length
 ll:la.length=l.length
 fs:∀x∈fi,isSet x
 ls:∀x∈la,isSet x
 ff:∀r y,(bases 0 l)[r]? =some y→∀p,inS (fi.getD r 0) p=true↔y.1.fst y.2 p
 lf:∀r y,(bases 0 l)[r]? =some y→∀p,inS (la.getD r 0) p=true↔y.1.lst y.2 p
theorem net_ok (l:List RuleX)(h:sumNp l≤10):NetOk l (netN (putRules st0 l).nodes) (netF (putRules st0 l).nodes (putRules st0 l).rules) (netL (putRules st0 l).nodes (putRules st0 l).rules)∧
  (putRules st0 l).rules.map (fun x=>(x.1,x.2.1))=l.map (fun x=>(x.1,x.2.1)):=by
 have e0:st0.places.length=0:=rfl
 have en:st0.nodes= []:=rfl
 obtain⟨_,_,a3,a4,R,b1,b2,b3⟩:=link_rules (fun _=>part0) (fun _=>0) l st0 (by omega) (fun p=>isSet_zero)
 rw[e0]at a4 b3
 have hR:(putRules st0 l).rules=R:=by rw[b1];rfl
 have hroot:∀(r:Nat) (y:Rx×Nat),(bases 0 l)[r]? =some y→∃(x:RuleX) (root:Nat),l[r]? =some x∧R[r]? =some (x.1,x.2.1,((root:Nat):Int))∧PartOk ((linkL (putRules st0 l).nodes 0 (fun _=>part0) (fun _=>0)).1 root) y.1 y.2:=fun r y hy=>by
  have hr:r<l.length:=by rw[←bases_len l 0];exact(List.getElem?_eq_some_iff.1 hy).1
  obtain⟨root,h1,h2⟩:=b3 r l[r] y (List.getElem?_eq_getElem hr) hy
  exact⟨l[r],root,List.getElem?_eq_getElem hr,h1,h2⟩
 have hall:∀x∈R,∃y:Rx×Nat,PartOk ((linkL (putRules st0 l).nodes 0 (fun _=>part0) (fun _=>0)).1 x.2.2.toNat) y.1 y.2:=fun x hx=>by
  obtain⟨r,hr,he⟩:=List.getElem_of_mem hx
  have hr2:r<(bases 0 l).length:=by rw[bases_len,←b2];exact hr
  obtain⟨z,root,_,h2,h3⟩:=hroot r _ (List.getElem?_eq_getElem hr2)
  rw[List.getElem?_eq_getElem hr,he]at h2
  injection h2 with h2
  exact⟨_,by rw[h2];exact h3⟩
 refine⟨⟨a3,fun p q=> ?_, ?_, ?_,fun x hx=> ?_,fun x hx=> ?_,fun r y hy p=> ?_,fun r y hy p=> ?_⟩, ?_⟩
 ·show inS ((linkL (putRules st0 l).nodes 0 (fun _=>part0) (fun _=>0)).2 p) q=true↔_
  rw[a4]
  constructor
  ·rintro(hz | hz)
   ·rw[show(linkL st0.nodes 0 (fun _=>part0) (fun _=>(0:Int))).2 p=0 from rfl,inS_zero]at hz;cases hz
   ·exact hz
  ·intro hz;exact .inr hz
 ·unfold netF;rw[List.length_map,hR,b2]
 ·unfold netL;rw[List.length_map,hR,b2]
 ·unfold netF at hx
  rw[List.mem_map]at hx
  obtain⟨z,hz,rfl⟩:=hx
  rw[hR]at hz
  obtain⟨y,hy⟩:=hall z hz
  exact hy.s1
 ·unfold netL at hx
  rw[List.mem_map]at hx
  obtain⟨z,hz,rfl⟩:=hx
  rw[hR]at hz
  obtain⟨y,hy⟩:=hall z hz
  exact hy.s2
 ·obtain⟨x,root,h1,h2,h3⟩:=hroot r y hy
  unfold netF
  rw[hR,List.getD_eq_getElem?_getD,List.getElem?_map,h2]
  simp only[Option.map_some,Option.getD_some,Int.toNat_natCast]
  exact h3.f p
 ·obtain⟨x,root,h1,h2,h3⟩:=hroot r y hy
  unfold netL
  rw[hR,List.getD_eq_getElem?_getD,List.getElem?_map,h2]
  simp only[Option.map_some,Option.getD_some,Int.toNat_natCast]
  exact h3.l p
 ·rw[hR]
  refine List.ext_getElem? (fun r=> ?_)
  rw[List.getElem?_map,List.getElem?_map]
  by_cases hr:r<l.length
  ·obtain⟨x,root,h1,h2,h3⟩:=hroot r _ (List.getElem?_eq_getElem (by rw[bases_len];exact hr))
   rw[h1,h2];rfl
  ·rw[List.getElem?_eq_none (by omega),List.getElem?_eq_none (by omega)]
   rfl
theorem begC_val (f:Nat→Bool)(fr:Int)(c:Nat)(b:Int):begC f fr c 4 b=if c<4∧f c=true then orI b fr else b:=by
 have h:∀k,k≤4→begC f fr c k b=if c<k∧f c=true then orI b fr else b:=by
  intro k
  induction k with
  | zero=>intro _;rw[begC,if_neg (by omega)]
  | succ j ih=>
   intro hk
   rw[begC,ih (by omega)]
   by_cases e:j=c
   ·subst e
    by_cases hf:f j=true
    ·rw[if_pos ⟨hf,rfl⟩,if_neg (by omega),if_pos ⟨by omega,hf⟩]
    ·rw[if_neg (fun h=>hf h.1),if_neg (by omega),if_neg (fun h=>hf h.2)]
   ·rw[if_neg (fun h=>e h.2)]
    by_cases hf:c<j∧f c=true
    ·rw[if_pos hf,if_pos ⟨by omega,hf.2⟩]
    ·rw[if_neg hf,if_neg (fun h=>hf ⟨by omega,h.2⟩)]
 exact h 4 (Nat.le_refl _)
theorem beginL_in (fi:Nat→Int)(c:Nat):∀(rules:List ((Nat→Bool)×Int×Int)) (r:Nat) (b:Int),isSet b→(∀i,i<rules.length→isSet (fi (r+i)))→
  isSet (beginL fi c rules r b)∧∀q,inS (beginL fi c rules r b) q=true↔(inS b q=true∨∃i x,rules[i]? =some x∧(c<4∧x.1 c=true)∧inS (fi (r+i)) q=true)
 | [],r,b,hb,_=>⟨hb,fun q=>⟨fun h=> .inl h,fun h=>h.elim id (fun⟨i,x,h,_⟩=>by simp at h)⟩⟩
 | x::l,r,b,hb,hf=>by
  have h0:=hf 0 (by simp)
  rw[Nat.add_zero]at h0
  have hb':isSet (begC x.1 (fi r) c 4 b):=by
   rw[begC_val]
   split
   ·exact isSet_or hb h0
   ·exact hb
  obtain⟨h1,h2⟩:=beginL_in fi c l (r+1) (begC x.1 (fi r) c 4 b) hb' (fun i hi=>by have:=hf (i+1) (by simp;omega);rw[show r+1+i=r+(i+1) by omega];exact this)
  rw[beginL]
  refine⟨h1,fun q=> ?_⟩
  rw[h2,begC_val]
  constructor
  ·rintro(h | ⟨i,y,h3,h4,h5⟩)
   ·split at h
    ·rename_i hc
     rw[inS_or hb h0,Bool.or_eq_true]at h
     rcases h with h | h
     ·exact .inl h
     ·exact .inr ⟨0,x,rfl,hc,h⟩
    ·exact .inl h
   ·exact .inr ⟨i+1,y,by rw[List.getElem?_cons_succ];exact h3,h4,by rw[show r+(i+1)=r+1+i by omega];exact h5⟩
  ·rintro(h | ⟨i,y,h3,h4,h5⟩)
   ·left
    split
    ·rw[inS_or hb h0,h];rfl
    ·exact h
   ·cases i with
    | zero=>
     rw[List.getElem?_cons_zero]at h3
     injection h3 with h3
     subst h3
     left
     rw[if_pos h4,inS_or hb h0]
     rw[Nat.add_zero]at h5
     rw[h5,Bool.or_true]
    | succ j=>
     rw[List.getElem?_cons_succ]at h3
     exact .inr ⟨j,y,h3,h4,by rw[show r+1+j=r+(j+1) by omega];exact h5⟩
theorem alwL_in (b:Nat):∀(l:List (Nat→Bool)) (k:Nat) (a:Int),isSet a→k+l.length≤10→isSet (alwL b l k a)∧∀p,inS (alwL b l k a) p=true↔(inS a p=true∨(k≤p∧p<k+l.length∧l.getD (p - k) zeroF b=true))
 | [],k,a,ha,_=>⟨ha,fun p=>⟨fun h=> .inl h,fun h=>h.elim id (fun h=>by simp at h;omega)⟩⟩
 | f::l,k,a,ha,hk=>by
  simp only[List.length_cons]at hk
  have hs:isSet (if f b=true then orI a (pow2 k)else a):=by
   split
   ·exact isSet_or ha (isSet_pow (by omega))
   ·exact ha
  obtain⟨h1,h2⟩:=alwL_in b l (k+1) _ hs (by omega)
  rw[alwL]
  refine⟨h1,fun p=> ?_⟩
  rw[h2]
  simp only[List.length_cons]
  constructor
  ·rintro(h | ⟨h3,h4,h5⟩)
   ·split at h
    ·rename_i hf
     rw[inS_or ha (isSet_pow (by omega)),Bool.or_eq_true,inS_pow,decide_eq_true_eq]at h
     rcases h with h | h
     ·exact .inl h
     ·subst h
      exact .inr ⟨Nat.le_refl _,by omega,by rw[Nat.sub_self];exact hf⟩
    ·exact .inl h
   ·refine .inr ⟨by omega,by omega, ?_⟩
    rw[show p - k=(p - (k+1))+1 by omega,List.getD_cons_succ]
    exact h5
  ·rintro(h | ⟨h3,h4,h5⟩)
   ·left
    split
    ·rw[inS_or ha (isSet_pow (by omega)),h];rfl
    ·exact h
   ·by_cases e:p=k
    ·subst e
     rw[Nat.sub_self,List.getD_cons_zero]at h5
     left
     rw[if_pos h5,inS_or ha (isSet_pow (by omega)),inS_pow]
     simp
    ·right
     refine⟨by omega,by omega, ?_⟩
     rw[show p - k=(p - (k+1))+1 by omega,List.getD_cons_succ]at h5
     exact h5
theorem alwP_in {places:List (Nat→Bool)}(h:places.length≤10)(b:Nat):isSet (alwP places b)∧∀p,inS (alwP places b) p=true↔plA places p b=true:=by
 obtain⟨h1,h2⟩:=alwL_in b places 0 0 isSet_zero (by omega)
 refine⟨h1,fun p=> ?_⟩
 unfold alwP
 rw[h2,inS_zero]
 unfold plA
 constructor
 ·rintro(h | ⟨_,_,h⟩)
  ·cases h
  ·rw[Nat.sub_zero]at h;exact h
 ·intro hp
  refine .inr ⟨Nat.zero_le _, ?_,by rw[Nat.sub_zero];exact hp⟩
  rw[Nat.zero_add]
  apply Classical.byContradiction
  intro hc
  rw[List.getD_eq_getElem?_getD,List.getElem?_eq_none (by omega)]at hp
  cases hp
end Go.Stn

