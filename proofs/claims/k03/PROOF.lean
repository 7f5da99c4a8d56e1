import PyProof.Rows.All
import Wide.All
import OpenK.AllK
import Wide.FinOn
import Lean
import PyProof.EqAt
import PyProof.EqKinds
import PyProof.TupleCall
import KE.BitLaws
import KE.KRevIter
import KE.KUnpack
import KE.KSortTup
import PyProof.Rows.StrOver
import PyProof.ZipIter
import PyProof.StrLawsChain
import PyProof.StrBlock
import PyProof.FitsReplace
import PySem.Challenge.RW_doubthall_k03_a_book_numbered
set_option compiler.extract_closed false
-- CHANGE: your row's module here,as the last of these rows
set_option Elab.async false
set_option linter.all false
set_option maxRecDepth 100000
noncomputable section
namespace L2
open PySem PySem.Spec PyProof.Rows
abbrev Key:=Sum Int Str
def QhY:Key→Value→Bool
 | .inl k,v=>Value.isInt k v
 | .inr x,v=>Value.isStrOf x v
def keyH (w:World):Key→Int
 | .inl k=>hashInt k
 | .inr x=>hashStr w x
theorem Zr:∀ {k:Key} {v:Value},QhY k v=true→(∃ i t,k=Sum.inl i∧v=Value.int i t)∨(∃ x t,k=Sum.inr x∧v=Value.str x t)
 | .inl i,v,h=>by
  obtain ⟨t,e⟩:=Value.isInt_shape (k:=i) (v:=v) h
  exact .inl ⟨i,t,rfl,e⟩
 | .inr x,v,h=>by
  obtain ⟨t,e⟩:=Value.isStrOf_shape (x:=x) (v:=v) h
  exact .inr ⟨x,t,rfl,e⟩
theorem QlZ (i:Int) (t:Tok):QhY (.inl i) (.int i t)=true:=by simp [QhY,Value.isInt]
theorem QlY (x:Str) (t:Tok):QhY (.inr x) (.str x t)=true:=by simp [QhY,Value.isStrOf]
theorem key_ll (a b:Int):decide ((Sum.inl a:Key)=Sum.inl b)=(a==b):=by
 by_cases e:a=b
 ·subst e;simp
 ·have h:¬ (Sum.inl a:Key)=Sum.inl b:=fun q=>e (Sum.inl.inj q)
  rw [decide_eq_false h]
  exact (beq_eq_false_iff_ne.mpr e).symm
theorem key_rr (a b:Str):decide ((Sum.inr a:Key)=Sum.inr b)=decide (a=b):=by
 by_cases e:a=b
 ·subst e;simp
 ·have h:¬ (Sum.inr a:Key)=Sum.inr b:=fun q=>e (Sum.inr.inj q)
  rw [decide_eq_false h,decide_eq_false e]
theorem key_lr (a:Int) (b:Str):decide ((Sum.inl a:Key)=Sum.inr b)=false:=decide_eq_false (fun q=>nomatch q)
theorem key_rl (a:Str) (b:Int):decide ((Sum.inr a:Key)=Sum.inl b)=false:=decide_eq_false (fun q=>nomatch q)
def ZQ (prog:Program) (w:World):PySem.KeyKind prog w Key where
 is:=QhY
 hash:=keyH w
 inj:=fun v a b ha hb=>by
  rcases Zr ha with ⟨i,t,rfl,rfl⟩ | ⟨x,t,rfl,rfl⟩
  ·rcases Zr hb with ⟨j,u,rfl,e⟩ | ⟨y,u,rfl,e⟩
   ·injection e with e1 _;rw [e1]
   ·exact nomatch e
  ·rcases Zr hb with ⟨j,u,rfl,e⟩ | ⟨y,u,rfl,e⟩
   ·exact nomatch e
   ·injection e with e1 _;rw [e1]
 byValue:=fun k v h=>by
  rcases Zr h with ⟨i,t,rfl,rfl⟩ | ⟨x,t,rfl,rfl⟩ <;> rfl
 pyHash:=fun hv h=>by
  rcases Zr hv with ⟨i,t,rfl,rfl⟩ | ⟨x,t,rfl,rfl⟩
  ·exact wpAny_pyHash_int h
  ·exact wpAny_pyHash_str h
 eqBool:=fun hu hv h=>by
  rcases Zr hu with ⟨i,t,rfl,rfl⟩ | ⟨x,t,rfl,rfl⟩
  ·rcases Zr hv with ⟨j,u,rfl,rfl⟩ | ⟨y,u,rfl,rfl⟩
   ·rw [key_ll] at h;exact wpAny_eqBool_int h
   ·rw [key_lr] at h;exact SeqAt.EqAt.int_str i t y u _ _ _ _ h
  ·rcases Zr hv with ⟨j,u,rfl,rfl⟩ | ⟨y,u,rfl,rfl⟩
   ·rw [key_rl] at h;exact SeqAt.EqAt.str_int x t j u _ _ _ _ h
   ·rw [key_rr] at h;exact wpAny_eqBool_str h
 «strs»:=fun k x t v h=>by
  rcases Zr h with ⟨i,u,rfl,e⟩ | ⟨y,u,rfl,e⟩
  ·exact nomatch e
  ·injection e with e1 _
   subst e1
   cases v <;> rfl
theorem QhW (prog:Program) (w:World) (i:Int) (t:Tok):(ZQ prog w).is (.inl i) (.int i t)=true:=QlZ i t
theorem QhV (prog:Program) (w:World) (x:Str) (t:Tok):(ZQ prog w).is (.inr x) (.str x t)=true:=QlY x t
inductive V where
 | non | bl (b:Bool) | int (i:Int) | str (x:Str) | byt (b:Array UInt8) | flt (b:UInt64) | ref (a:Addr) | ty (n:String)
 deriving DecidableEq
def RelV:V→Value→Prop
 | .non,u=>u=Value.none
 | .bl b,u=>u=Value.bool b
 | .int i,u=>∃ t,u=Value.int i t
 | .str x,u=>∃ t,u=Value.str x t
 | .byt b,u=>∃ t,u=Value.bytes b t
 | .flt b,u=>∃ t,u=Value.float b t
 | .ref a,u=>u=Value.ref a
 | .ty n,u=>u=Value.type n
abbrev Vals:List V→List Value→Prop:=Paired RelV
theorem Vals.length {xs:List V} {us:List Value} (r:Vals xs us):xs.length=us.length:=Paired.length r
theorem Vals.get:∀ {xs:List V} {us:List Value} {i:Nat} {x:V},Vals xs us→xs[i]?=some x→∃ u,us[i]?=some u∧RelV x u
 | _,_,_,_,.nil,e=>by simp at e
 | _,_,0,_,.cons r _,e=>by simp at e;subst e;exact ⟨_,rfl,r⟩
 | _,_,i + 1,x,.cons _ t,e=>by
  obtain ⟨u,h1,h2⟩:=Vals.get (i:=i) (x:=x) t (by simpa using e)
  exact ⟨u,by simpa using h1,h2⟩
theorem Vals.set {x:V} {u:Value} (r:RelV x u):∀ {xs:List V} {us:List Value} (i:Nat),Vals xs us→Vals (xs.set i x) (us.set i u)
 | _,_,_,.nil => .nil
 | _,_,0,.cons _ t => .cons r t
 | _,_,i + 1,.cons q t => .cons q (Vals.set r i t)
theorem Vals.append:∀ {xs ys:List V} {us ws:List Value},Vals xs us→Vals ys ws→Vals (xs++ys) (us++ws)
 | _,_,_,_,.nil,s=>s
 | _,_,_,_,.cons r t,s => .cons r (Vals.append t s)
theorem Vals.take:∀ {xs:List V} {us:List Value} (n:Nat),Vals xs us→Vals (xs.take n) (us.take n)
 | _,_,0,_ => .nil
 | _,_,_ + 1,.nil => .nil
 | _,_,n + 1,.cons r t => .cons r (Vals.take n t)
theorem Vals.drop:∀ {xs:List V} {us:List Value} (n:Nat),Vals xs us→Vals (xs.drop n) (us.drop n)
 | _,_,0,r=>r
 | _,_,_ + 1,.nil => .nil
 | _,_,n + 1,.cons _ t=>Vals.drop n t
def RelO:Option V→Option Value→Prop
 | some v,some u=>RelV v u
 | none,none=>True
 | _,_=>False
def KV {κ:Type}:List (κ×V)→List (κ×Value)→Prop:=Paired fun (p : κ×V) (q : κ×Value)=>p.1=q.1∧RelV p.2 q.2
def kV:Key→V
 | .inl i => .int i
 | .inr x => .str x
inductive HO where
 | lst (xs:List V)
 | tup (xs:List V)
 | dK (kvs:List (Key×V)) | dT (kvs:List (List Key×V))
 | set (S:Int→Bool) (n:Nat)
 | ins (C dx:Addr) (fs:List (Str×V))
 | own (x:Addr)
 | xd (fs:List (Str×V))
 | met (f x:Addr)
 | rng (lo hi:Int)
 | frz (o:Obj) (u:HO)
 | tbl (ps:Array Value)
 | ext (φ:Heap→Prop)
abbrev Hp:=Addr→Option HO
def upd (H:Hp) (a:Addr) (o:HO):Hp:=fun b=>if b=a then some o else H b
theorem Qq {H:Hp} {a:Addr} {o:HO}:upd H a o a=some o:=by unfold upd;rw [if_pos rfl]
theorem Qr {H:Hp} {a b:Addr} {o:HO} (h:b≠a):upd H a o b=H b:=by unfold upd;rw [if_neg h]
theorem QhU {H:Hp} {a b:Addr} {o u:HO} (h:H a=some o) (h':H b=some u) (d:o≠u):a≠b:=by
 intro e;subst e;rw [h] at h';exact d (Option.some.inj h')
theorem Qs {H:Hp} {a b:Addr} {o:HO} (h:H a=some o) (h':H b=none):a≠b:=by
 intro e;subst e;rw [h] at h';cases h'
section
variable (P:Program) (w:World)
def QaB (h:Heap) (a:Addr) (items:Array Value) (xs:List V):Prop:=∃ o,h.get? a=some o∧o.cls = .type "tuple"∧(o.dict=none∨∃ (i:Int) (y:V),xs=[V.int i,y])∧∃ n,o.data = .seq items n
theorem QaB.is {h:Heap} {a:Addr} {items:Array Value} {xs:List V} (x:QaB h a items xs):IsTup h a items:=let ⟨o,h1,h2,_,h3⟩:=x;⟨o,h1,h2,h3⟩
theorem QaB.new (h:Heap) (items:Array Value) (xs:List V):QaB (h.push { cls := .type "tuple",data := .seq items }) h.objs.size items xs:=⟨_,Heap.get?_push_size _ rfl,rfl,.inl rfl,_,rfl⟩
theorem QaB.pair {h:Heap} {a:Addr} {items:Array Value} {i:Int} {y:V} (x:IsTup h a items):QaB h a items [V.int i,y]:=let ⟨o,h1,h2,h3⟩:=x;⟨o,h1,h2,.inr ⟨i,y,rfl⟩,h3⟩
def YK (H:Hp) (h:Heap) (a:Addr):HO→Prop
 | .lst xs=>xs.length≤sizeLine∧∃ (its:List Value) (n:Nat),Vals xs its∧h.get? a=some { cls := .type "list",data := .seq its.toArray n }
 | .tup xs=>xs.length≤sizeLine∧∃ its:List Value,Vals xs its∧QaB h a its.toArray xs
 | .dK kvs=>kvs.length≤sizeLine∧(a==sysModules)=false∧∃ vs,KV kvs vs∧h.DictOf (ZQ P w) a vs
 | .dT kvs=>kvs.length≤sizeLine∧(a==sysModules)=false∧∃ xs:List (List Key×Addr×Value),
   Paired (fun (p:List Key×V) (q:List Key×Addr×Value)=>p.1=q.1∧H q.2.1=some (.tup (p.1.map kV))∧RelV p.2 q.2.2) kvs xs ∧
   ∃ o es ep,h.get? a=some o∧o.ExactDict∧o.data = .dict es ep∧es.toList=xs.map (entryOfKey (tupleKind (ZQ P w)))∧(xs.map (·.1)).Nodup
 | .set S n=>h.SetOf (intKind P w) a S n
 | .ins C dx fs=>H dx=some (.own a)∧fs.length≤1000∧dx≠a∧h.get? a=some (PySem.W.instObj C dx) ∧
   ∃ mA,h.Ns1 dx mA∧(∀ f,RelO (fs.lookup f) (mA f))∧PySem.Within mA (fs.map (·.1))
 | .own _=>∃ o,h.get? a=some o
 | .xd fs=>∃ mA,h.Ns1 a mA∧∀ f,RelO (fs.lookup f) (mA f)
 | .rng lo hi=>∃ t u v,h.get? a=some { cls := .type "range",data := .fields #[.int lo t,.int hi u,.int 1 v] }
 | .frz o u=>h.get? a=some o∧YK H h a u
 | .tbl ps=>h.get? a=some { cls := .none,data := .fields ps }
 | .met f x=>h.get? a=some (PySem.W.methodObj (.ref f) (.ref x))
 | .ext φ=>φ h∧(∃ o,h.get? a=some o)∧∀ h1 h2:Heap,φ h1→(∀ o,h1.get? a=some o→h2.get? a=some o)→φ h2
def HOk (H:Hp) (h:Heap):Prop:=∀ a o,H a=some o→YK P w H h a o
end
section
variable {P:Program} {w:World} {H H':Hp} {h h':Heap} {a:Addr} {o:HO}
theorem YK.lt (x:YK P w H h a o):a < h.objs.size:=by
 cases o with
 | lst xs=>obtain ⟨_,_,_,_,e⟩:=x;exact Heap.lt_size e
 | tup xs=>obtain ⟨_,_,_,p⟩:=x;exact p.is.lt
 | dK kvs=>obtain ⟨_,_,_,_,o,_,_,e,_⟩:=x;exact Heap.lt_size e
 | dT kvs=>obtain ⟨_,_,_,_,o,_,_,e,_⟩:=x;exact Heap.lt_size e
 | set S n=>obtain ⟨o,_,_,_,e,_⟩:=x;exact Heap.lt_size e
 | ins C dx fs=>obtain ⟨_,_,_,e,_⟩:=x;exact Heap.lt_size e
 | own y=>obtain ⟨_,e⟩:=x;exact Heap.lt_size e
 | xd fs=>obtain ⟨_,⟨_,_,_,e,_⟩,_⟩:=x;exact Heap.lt_size e
 | rng lo hi=>obtain ⟨_,_,_,e⟩:=x;exact Heap.lt_size e
 | frz ob u=>obtain ⟨e,_⟩:=x;exact Heap.lt_size e
 | tbl ps=>exact Heap.lt_size (show h.get? a=some _ from x)
 | met f y=>exact Heap.lt_size (show h.get? a=some _ from x)
 | ext φ=>obtain ⟨_,⟨_,e⟩,_⟩:=x;exact Heap.lt_size e
theorem Paired.mapP {α β:Type} {F G:α→β→Prop}:∀ {l₁:List α} {l₂:List β},Paired F l₁ l₂→(∀ a b,F a b→G a b)→Paired G l₁ l₂
 | _,_,.nil,_ => .nil
 | _,_,.cons r t,f => .cons (f _ _ r) (Paired.mapP t f)
theorem YK.stay (x:YK P w H h a o) (k:∀ b u,(b=a∨H b=some (.own a))→h.get? b=some u→h'.get? b=some u)
  (ho:∀ b,H b=some (.own a)→H' b=some (.own a)) (ht:∀ b xs,H b=some (.tup xs)→H' b=some (.tup xs)):YK P w H' h' a o:=by
 induction o with
 | lst xs=>obtain ⟨z,its,n,r,e⟩:=x;exact ⟨z,its,n,r,k _ _ (.inl rfl) e⟩
 | tup xs=>obtain ⟨z,its,r,ob,e,c⟩:=x;exact ⟨z,its,r,ob,k _ _ (.inl rfl) e,c⟩
 | dK kvs=>obtain ⟨z,y,vs,r,ob,es,ep,e,c⟩:=x;exact ⟨z,y,vs,r,ob,es,ep,k _ _ (.inl rfl) e,c⟩
 | dT kvs =>
  obtain ⟨z,y,xs,r,ob,es,ep,e,c⟩:=x
  exact ⟨z,y,xs,Paired.mapP r fun p q z=>⟨z.1,ht _ _ z.2.1,z.2.2⟩,ob,es,ep,k _ _ (.inl rfl) e,c⟩
 | set S n=>obtain ⟨ob,es,ep,t,e,c⟩:=x;exact ⟨ob,es,ep,t,k _ _ (.inl rfl) e,c⟩
 | ins C dx fs =>
  obtain ⟨d,z,ne,e,mA,⟨od,es,ep,e2,c⟩,r⟩:=x
  exact ⟨ho _ d,z,ne,k _ _ (.inl rfl) e,mA,⟨od,es,ep,k _ _ (.inr d) e2,c⟩,r⟩
 | own y=>obtain ⟨ob,e⟩:=x;exact ⟨ob,k _ _ (.inl rfl) e⟩
 | xd fs=>obtain ⟨mA,⟨od,es,ep,e,c⟩,r⟩:=x;exact ⟨mA,⟨od,es,ep,k _ _ (.inl rfl) e,c⟩,r⟩
 | rng lo hi=>obtain ⟨t,u,v,e⟩:=x;exact ⟨t,u,v,k _ _ (.inl rfl) e⟩
 | frz ob u ih=>obtain ⟨e,q⟩:=x;exact ⟨k _ _ (.inl rfl) e,ih q⟩
 | tbl ps =>
  have e:h.get? a=some { cls := .none,data := .fields ps }:=x
  show h'.get? a=some { cls := .none,data := .fields ps }
  exact k a _ (.inl rfl) e
 | met f y =>
  have e:h.get? a=some (PySem.W.methodObj (.ref f) (.ref y)):=x
  show h'.get? a=some (PySem.W.methodObj (.ref f) (.ref y))
  exact k a _ (.inl rfl) e
 | ext φ=>obtain ⟨p,⟨o,e⟩,st⟩:=x;exact ⟨st _ _ p fun o q=>k _ _ (.inl rfl) q,⟨o,k _ _ (.inl rfl) e⟩,st⟩
theorem HOk.lt (x:HOk P w H h) (e:H a=some o):a < h.objs.size:=(x a o e).lt
theorem HOk.fresh (x:HOk P w H h) (e:h.objs.size≤a):H a=none:=by
 cases q:H a with
 | none=>rfl
 | some u=>exact absurd (Nat.lt_of_lt_of_le (x.lt q) e) (Nat.lt_irrefl _)
theorem HOk.kept (x:HOk P w H h) (k:∀ b u,h.get? b=some u→h'.get? b=some u):HOk P w H h':=fun a o e =>
 (x a o e).stay (fun b u _ q=>k b u q) (fun _ q=>q) fun _ _ q=>q
theorem HOk.laid (x:HOk P w H h) (k:∀ b u,h.get? b=some u→h'.get? b=some u) (hp:h.objs.size≤a) (new:YK P w (upd H a o) h' a o):HOk P w (upd H a o) h':=fun b u e=>by
 have hn:=x.fresh hp
 by_cases hb:b=a
 ·subst hb;rw [Qq] at e;cases e;exact new
 ·rw [Qr hb] at e
  exact (x b u e).stay (fun c v _ q=>k c v q) (fun c q=>by rw [Qr (Qs q hn)];exact q) fun c xs q=>by rw [Qr (Qs q hn)];exact q
end
def Rd (H:Hp) (a:Addr) (u:HO):Prop:=H a=some u∨∃ o,H a=some (.frz o u)
theorem Rd.ok {P:Program} {w:World} {H:Hp} {h:Heap} {a:Addr} {u:HO} (r:Rd H a u) (x:HOk P w H h):YK P w H h a u:=by
 rcases r with r | ⟨o,r⟩
 ·exact x a u r
 ·obtain ⟨_,q⟩:=x a _ r
  exact q
def Mut:Option HO→Prop
 | some (.lst _)=>True
 | some (.dK _)=>True
 | some (.dT _)=>True
 | some (.set _ _)=>True
 | some (.ins _ _ _)=>True
 | some (.ext _)=>True
 | _=>False
section
variable {P:Program} {w:World} {H:Hp} {h h':Heap} {x e:Addr} {o':HO}
theorem HOk.write (ok:HOk P w H h) (mu:Mut (H x)) (he:e=x∨H e=some (.own x)) (k:∀ b u,b≠e→h.get? b=some u→h'.get? b=some u) (heo:∃ u,h'.get? e=some u)
  (new:YK P w (upd H x o') h' x o'):HOk P w (upd H x o') h':=fun b u q=>by
 have nown:∀ c y,H c=some (.own y)→c≠x:=fun c y r z=>by subst z;rw [r] at mu;exact mu
 have ntup:∀ c xs,H c=some (.tup xs)→c≠x:=fun c xs r z=>by subst z;rw [r] at mu;exact mu
 by_cases hb:b=x
 ·subst hb;rw [Qq] at q;cases q;exact new
 ·rw [Qr hb] at q
  by_cases hbe:b=e
  ·have q':H b=some (.own x):=by
    rcases he with z | z
    ·exact absurd (hbe.trans z) hb
    ·rw [hbe];exact z
   rw [q] at q';cases q'
   obtain ⟨v,hv⟩:=heo
   exact ⟨v,by rw [hbe];exact hv⟩
  ·refine (ok b u q).stay (fun c v hc r=>k c v ?_ r) (fun c r=>by rw [Qr (nown c b r)];exact r) fun c xs r=>by rw [Qr (ntup c xs r)];exact r
   rcases hc with rfl | hc
   ·exact hbe
   ·rintro rfl
    rcases he with z | z
    ·exact nown c b hc z
    ·rw [hc] at z;cases z;exact hb rfl
end
structure Un (fs ex:List Addr) (H H':Hp) (h h':Heap):Prop where
 keep:∀ b o,h.get? b=some o→H b=none→b∉fs→b∉ex→h'.get? b=some o
 slot:∀ b o,h.get? b=some o→H b=none→b∈fs→b∉ex→∃ sl,h'.get? b=some { o with slots:=sl }
 free:∀ b o,h.get? b=some o→H b=none→b∉ex→H' b=none
 there:∀ b o,h.get? b=some o→b∉ex→∃ o',h'.get? b=some o'
 tups:∀ b xs,H b=some (.tup xs)→H' b=some (.tup xs)
 frzs:∀ b o u,H b=some (.frz o u)→H' b=some (.frz o u)
 tbls:∀ b ps,H b=some (.tbl ps)→∃ more,H' b=some (.tbl (ps++more))
section
variable {fs fs' ex ex':List Addr} {H H1 H2:Hp} {h h1 h2 h':Heap} {a x e:Addr} {o:HO}
theorem Un.any (u:Un fs ex H H1 h h1) {b:Addr} {ob:Obj} (q:h.get? b=some ob) (n:H b=none) (hx:b∉ex):∃ sl,h1.get? b=some { ob with slots:=sl }:=by
 by_cases hb:b∈fs
 ·exact u.slot b ob q n hb hx
 ·exact ⟨ob.slots,u.keep b ob q n hb hx⟩
theorem Un.trans (a:Un fs ex H H1 h h1) (b:Un fs ex H1 H2 h1 h2):Un fs ex H H2 h h2 where
 keep:=fun c ob q n hc hx=>b.keep c ob (a.keep c ob q n hc hx) (a.free c ob q n hx) hc hx
 slot:=fun c ob q n hc hx=>by
  obtain ⟨sl,e1⟩:=a.slot c ob q n hc hx
  obtain ⟨sl',e2⟩:=b.slot c _ e1 (a.free c ob q n hx) hc hx
  exact ⟨sl',e2⟩
 free:=fun c ob q n hx=>by
  obtain ⟨o',e1⟩:=a.there c ob q hx
  exact b.free c o' e1 (a.free c ob q n hx) hx
 there:=fun c ob q hx=>by
  obtain ⟨o',e1⟩:=a.there c ob q hx
  exact b.there c o' e1 hx
 tups:=fun c xs q=>b.tups c xs (a.tups c xs q)
 frzs:=fun c ob xs q=>b.frzs c ob xs (a.frzs c ob xs q)
 tbls:=fun c ps q=>by
  obtain ⟨m1,e1⟩:=a.tbls c ps q
  obtain ⟨m2,e2⟩:=b.tbls c _ e1
  exact ⟨m1++m2,by rw [e2,Array.append_assoc]⟩
theorem Un.kept (k:∀ b u,h.get? b=some u→h'.get? b=some u):Un fs ex H H h h' :=
 ⟨fun b ob q _ _ _=>k b ob q,fun b ob q _ _ _=>⟨ob.slots,k b ob q⟩,fun _ _ _ n _=>n,fun b ob q _=>⟨ob,k b ob q⟩,fun _ _ q=>q,fun _ _ _ q=>q,fun _ ps q=>⟨#[],by rw [q];simp⟩⟩
theorem Un.refl:Un fs ex H H h h:=Un.kept fun _ _ q=>q
theorem Un.laid (k:∀ b u,h.get? b=some u→h'.get? b=some u) (hp:h.objs.size≤a) (hn:H a=none):Un fs ex H (upd H a o) h h' where
 keep:=fun b u q _ _ _=>k b u q
 slot:=fun b u q _ _ _=>⟨u.slots,k b u q⟩
 free:=fun b u q n _=>by rw [Qr (Nat.ne_of_lt (Nat.lt_of_lt_of_le (Heap.lt_size q) hp))];exact n
 there:=fun b u q _=>⟨u,k b u q⟩
 tups:=fun b xs q=>by rw [Qr (Qs q hn)];exact q
 frzs:=fun b u xs q=>by rw [Qr (Qs q hn)];exact q
 tbls:=fun b ps q=>⟨#[],by rw [Qr (Qs q hn),q];simp⟩
theorem Un.write (mu:Mut (H x)) (he:e=x∨H e=some (.own x)) (k:∀ b u,b≠e→h.get? b=some u→h'.get? b=some u) (heo:∃ u,h'.get? e=some u):Un fs ex H (upd H x o) h h':=by
 have hx:∀ b,H b=none→b≠x:=fun b n z=>by subst z;rw [n] at mu;exact mu
 have hb:∀ b,H b=none→b≠e:=fun b n z=>by
  subst z
  rcases he with r | r
  ·exact hx b n r
  ·rw [n] at r;cases r
 have hm:∀ b u,H b=some u→¬ Mut (some u)→b≠x:=fun b u q nm z=>by subst z;rw [q] at mu;exact nm mu
 refine ⟨fun b u q n _ _=>k b u (hb b n) q,fun b u q n _ _=>⟨u.slots,k b u (hb b n) q⟩,fun b u q n _=>by rw [Qr (hx b n)];exact n,fun b u q _ => ?_,
  fun b xs q=>by rw [Qr (hm b _ q fun z=>z)];exact q,fun b u xs q=>by rw [Qr (hm b _ q fun z=>z)];exact q,fun b ps q=>⟨#[],by rw [Qr (hm b _ q fun z=>z),q];simp⟩⟩
 by_cases hbe:b=e
 ·subst hbe;exact heo
 ·exact ⟨u,k b u hbe q⟩
end
def trk (h:Heap) (H:Hp):List Addr:=(List.range h.objs.size).filter fun a=>(H a).isSome
def hidT (h:Heap) (H:Hp):Heap:=PySem.W.hideAll h (trk h H)
theorem Qmd (h:Heap) (H:Hp):(hidT h H).objs.size=h.objs.size:=PySem.W.hideAll_size _ _
theorem hidT_get {h:Heap} {H:Hp} {b:Addr} {o:Obj} (e:h.get? b=some o) (n:H b=none):(hidT h H).get? b=some o :=
 PySem.W.hideAll_get _ e fun hm=>by
  have q:(H b).isSome=true:=(List.mem_filter.mp hm).2
  rw [n] at q;simp at q
theorem of_hidT {h:Heap} {H:Hp} {b:Addr} {o:Obj} (e:(hidT h H).get? b=some o):h.get? b=some o∧H b=none:=by
 have e':h.get? b=some o:=PySem.W.of_hideAll (trk h H) e
 refine ⟨e',?_⟩
 cases q:H b with
 | none=>rfl
 | some x =>
  have hm:b∈trk h H:=List.mem_filter.mpr ⟨List.mem_range.mpr (Heap.lt_size e'),by simp [q]⟩
  have z:(hidT h H).get? b=none:=PySem.W.hideAll_none (trk h H) hm
  rw [z] at e;cases e
def allNews (g h:Heap) (L:Addr):List (Addr×Obj):=(List.range h.objs.size).filterMap fun a=>if a=L∨(g.get? a).isSome=true then none else (h.get? a).map fun o=>(a,o)
def rest (g h:Heap) (L d:Addr):List (Addr×Obj):=(allNews g h L).filter fun p=>decide (p.1≠d)
structure Mod (K:PySem.W.Frag) (mg:Str→Option Value) (base:Heap):Prop where
 kin:K.In base
 glob:base.Ns mainGlobals mg
 blt:∃ mb,base.Ns builtinsNs mb∧∀ x:Str,x ≠ "__name__"→mb x=bootBuiltins x
 nolimit:base.NoLimit
structure Cx where
 prog:Program
 w:World
 K:PySem.W.Frag
 mg:Str→Option Value
 base:Heap
 A:Around
 N:List Str
 s₀:Shared
 H₀:Hp
 env:Env
 outer:List Env
 stack:List Env
 ex:List Addr
 fn:Str→Bool
 calm:Bool
 pn:List (Addr×Obj)
 xe:Value→Shared→Prop
def frs (l:List Env):List Addr:=l.filterMap (·.frame)
abbrev Cx.fs (X:Cx):List Addr:=frs X.outer
def Vis (sc:Scope) (x:Str):Prop:=sc.names.lookup x=some .local∨sc.names.lookup x=some .cell∨sc.names.lookup x=some .free
def Loc (sc:Scope) (x:Str):Prop:=sc.names.lookup x=some .local∨sc.names.lookup x=some .cell
def Look (env:Env) (h:Heap) (m:Str→Option Value) (x:Str) (u:Value):Prop :=
 (env.kindOf x=some .local∧m x=some u)∨((env.kindOf x=some .cell∨env.kindOf x=some .free)∧∃ c,env.cells.lookup x=some c∧h.IsCell c (some u))
structure Cx.Ok (X:Cx):Prop where
 mod:Mod X.K X.mg X.base
 kind:X.env.scope.kind = .function
 glob:X.env.globals=mainGlobals
 blt:X.env.builtins=builtinsNs
 above:X.s₀.heap.objs.size≤X.env.locals
 inj:∀ x y c,X.env.cells.lookup x=some c→X.env.cells.lookup y=some c→x=y
 has:∀ x,(X.env.kindOf x=some .cell∨X.env.kindOf x=some .free)→∃ c,X.env.cells.lookup x=some c
 cab:∀ x c,X.fn x=true→X.env.cells.lookup x=some c→X.s₀.heap.objs.size≤c
 hd:X.calm=true→X.A.handled=none
 frames:X.A.frames=some X.stack
 stk:X.stack=X.outer∨(X.stack=X.env :: X.outer∧X.env.frame=some X.env.locals)
 exf:∀ b∈X.ex,b≠X.env.locals∧∀ x c,X.env.cells.lookup x=some c→c≠b
 bs:∀ b o,X.base.get? b=some o→X.s₀.heap.get? b=some o∧X.H₀ b=none
 bsz:X.base.objs.size≤X.s₀.heap.objs.size
 noex:∀ b o,X.base.get? b=some o→b∉X.ex
 exfs:∀ b∈X.ex,b∉X.fs
 funs:X.s₀.heap.FunFrames X.base X.outer
 frf:∀ b∈X.fs,X.H₀ b=none
structure Inv (X:Cx) (pins:List (Addr×Obj)) (σ:List (Option V)) (H:Hp) (s:Shared):Prop where
 ok:X.Ok
 os:s.os=X.s₀.os
 bare:AllBare s.gens
 base:Un X.fs X.ex X.H₀ H X.s₀.heap s.heap
 loc:∃ m,s.heap.Ns X.env.locals m∧∀ (i:Nat) (x:Str) (v:V),X.N[i]?=some x→σ[i]?=some (some v)→Vis X.env.scope x→∃ u,RelV v u∧Look X.env s.heap m x u
 cell:∀ x c,X.env.cells.lookup x=some c→∃ v,s.heap.IsCell c v
 free:H X.env.locals=none
 freeC:∀ x c,X.env.cells.lookup x=some c→H c=none
 pin:∀ p∈X.pn++pins,s.heap.get? p.1=some p.2∧H p.1=none∧p.1≠X.env.locals∧p.1∉X.fs∧∀ v,p.2.data ≠ .cell v
 hok:HOk X.prog X.w H s.heap
 len:σ.length=X.N.length
section
variable {X:Cx} {pins:List (Addr×Obj)} {σ:List (Option V)} {H H':Hp} {s:Shared} {h':Heap}
theorem Cx.Ok.nofr (ok:X.Ok) {b:Addr} {o:Obj} (e:X.base.get? b=some o):b∉X.fs:=fun hb=>by
 have:=(ok.funs.mem hb).1
 rw [e] at this;cases this
theorem Inv.bs (I:Inv X pins σ H s):∀ b o,X.base.get? b=some o→s.heap.get? b=some o∧H b=none:=fun b o e =>
 ⟨I.base.keep b o (I.ok.bs b o e).1 (I.ok.bs b o e).2 (I.ok.nofr e) (I.ok.noex b o e),I.base.free b o (I.ok.bs b o e).1 (I.ok.bs b o e).2 (I.ok.noex b o e)⟩
theorem Inv.bk (I:Inv X pins σ H s):∀ b o,X.base.get? b=some o→s.heap.get? b=some o:=fun b o e=>(I.bs b o e).1
theorem Inv.mod (I:Inv X pins σ H s):Mod X.K X.mg X.base:=I.ok.mod
theorem Inv.kIn (I:Inv X pins σ H s):X.K.In s.heap:=I.ok.mod.kin.keeps I.bk
theorem Inv.lt (I:Inv X pins σ H s):X.env.locals < s.heap.objs.size:=let ⟨_,hn,_⟩:=I.loc;hn.lt
theorem Inv.sz (I:Inv X pins σ H s):X.s₀.heap.objs.size≤s.heap.objs.size:=Nat.le_trans I.ok.above (Nat.le_of_lt I.lt)
theorem Inv.nofs (I:Inv X pins σ H s) {a:Addr} (h:s.heap.objs.size≤a):a∉X.fs:=fun hb=>by
 obtain ⟨_,o,ho,_⟩:=I.ok.funs.mem hb
 exact absurd (Nat.lt_of_lt_of_le (Heap.lt_size ho) (Nat.le_trans I.sz h)) (Nat.lt_irrefl _)
theorem Inv.cne (I:Inv X pins σ H s):∀ x c,X.env.cells.lookup x=some c→c≠X.env.locals:=fun x c e z=>by
 obtain ⟨v,o,ho,hd⟩:=I.cell x c e
 obtain ⟨m,⟨o',es,ep,ho',hd',_⟩,_⟩:=I.loc
 rw [z,ho'] at ho;cases ho;rw [hd'] at hd;cases hd
theorem Inv.funs (I:Inv X pins σ H s):s.heap.FunFrames X.base X.outer:=by
 have all:∀ (l:List Env),(∀ b∈frs l,b∈X.fs)→X.s₀.heap.FunFrames X.base l→s.heap.FunFrames X.base l:=by
  intro l
  induction l with
  | nil=>intro _ _;trivial
  | cons env r ih =>
   intro hs hl
   obtain ⟨hk,⟨L,o,hf,hn,ho,hd⟩,hr⟩:=hl
   have hL:L∈X.fs:=hs L (by unfold frs;rw [List.filterMap_cons,hf];exact List.mem_cons_self)
   obtain ⟨sl,e⟩:=I.base.slot L o ho (I.ok.frf L hL) hL fun z=>I.ok.exfs L z hL
   exact ⟨hk,⟨L,_,hf,hn,e,hd⟩,ih (fun b hb=>hs b (by unfold frs;rw [List.filterMap_cons,hf];exact List.mem_cons_of_mem _ hb)) hr⟩
 exact all X.outer (fun _ hb=>hb) I.ok.funs
theorem Inv.stack (I:Inv X pins σ H s):s.heap.FunFrames X.base X.stack:=by
 rcases I.ok.stk with e | ⟨e,hf⟩
 ·rw [e];exact I.funs
 ·rw [e]
  obtain ⟨m,hn,_⟩:=I.loc
  refine .cons (by rw [I.ok.kind];decide) hf hn ?_ I.funs
  exact Heap.get?_none_of_le (Nat.le_trans I.ok.bsz I.ok.above)
theorem Inv.stkSub (I:Inv X pins σ H s):∀ b∈frs X.stack,b∈X.env.locals :: X.fs:=fun b hb=>by
 rcases I.ok.stk with e | ⟨e,hf⟩
 ·rw [e] at hb;exact List.mem_cons_of_mem _ hb
 ·rw [e] at hb
  unfold frs at hb
  rw [List.filterMap_cons,hf] at hb
  exact hb
theorem Inv.stkFree (I:Inv X pins σ H s):∀ b∈frs X.stack,H b=none:=fun b hb=>by
 rcases List.mem_cons.mp (I.stkSub b hb) with e | hb
 ·rw [e];exact I.free
 ·obtain ⟨_,o,ho,_⟩:=I.ok.funs.mem hb
  exact I.base.free b o ho (I.ok.frf b hb) fun z=>I.ok.exfs b z hb
theorem Inv.step {g':Array GenState} {t':Nat} {d':Drawn} {ch:List Addr} (I:Inv X pins σ H s)
  (hch:∀ b∈ch,(b∈X.ex∨X.s₀.heap.objs.size≤b)∧b≠X.env.locals∧(∀ x c,X.env.cells.lookup x=some c→c≠b)∧∀ p∈X.pn++pins,p.1≠b)
  (keep:∀ b o,b≠X.env.locals→b∉X.fs→b∉ch→s.heap.get? b=some o→H b=none→h'.get? b=some o)
  (slot:∀ b o,b≠X.env.locals→b∈X.fs→b∉ch→s.heap.get? b=some o→H b=none→∃ sl,h'.get? b=some { o with slots:=sl }) (free:∀ b o,b∉ch→s.heap.get? b=some o→H b=none→H' b=none)
  (there:∀ b o,b∉ch→s.heap.get? b=some o→∃ o',h'.get? b=some o')
  (tups:∀ b xs,H b=some (.tup xs)→H' b=some (.tup xs)) (frzs:∀ b o u,H b=some (.frz o u)→H' b=some (.frz o u)) (tbls:∀ b ps,H b=some (.tbl ps)→∃ more,H' b=some (.tbl (ps++more)))
  (ns:∀ m,s.heap.Ns X.env.locals m→h'.Ns X.env.locals m) (hok:HOk X.prog X.w H' h') (hg:AllBare g') :
  Inv X pins σ H' { s with heap:=h',gens:=g',drawn:=d',toks:=t' }:=by
 have neL:∀ b o,X.s₀.heap.get? b=some o→b≠X.env.locals:=fun b o e=>Nat.ne_of_lt (Nat.lt_of_lt_of_le (Heap.lt_size e) I.ok.above)
 have neC:∀ b o,X.s₀.heap.get? b=some o→b∉X.ex→b∉ch:=fun b o e hx hb=>by
  rcases (hch b hb).1 with z | z
  ·exact hx z
  ·exact absurd (Nat.lt_of_lt_of_le (Heap.lt_size e) z) (Nat.lt_irrefl _)
 have cellK:∀ x c,X.env.cells.lookup x=some c→∀ v,s.heap.IsCell c v→h'.IsCell c v:=fun x c e v ⟨o,ho,hd⟩=>by
  have nch:c∉ch:=fun z=>(hch c z).2.2.1 x c e rfl
  by_cases hc:c∈X.fs
  ·obtain ⟨sl,q⟩:=slot c o (I.cne x c e) hc nch ho (I.freeC x c e)
   exact ⟨_,q,hd⟩
  ·exact ⟨o,keep c o (I.cne x c e) hc nch ho (I.freeC x c e),hd⟩
 refine ⟨I.ok,I.os,hg,⟨fun b o e n hb hx => ?_,fun b o e n hb hx => ?_,fun b o e n hx => ?_,fun b o e hx => ?_,fun b xs e=>tups b xs (I.base.tups b xs e),fun b o xs e=>frzs b o xs (I.base.frzs b o xs e),fun b ps e => ?_⟩,?_,fun x c e => ?_,?_,fun x c e => ?_,fun p hp => ?_,hok,I.len⟩
 ·exact keep b o (neL b o e) hb (neC b o e hx) (I.base.keep b o e n hb hx) (I.base.free b o e n hx)
 ·obtain ⟨sl,e1⟩:=I.base.slot b o e n hb hx
  obtain ⟨sl',e2⟩:=slot b _ (neL b o e) hb (neC b o e hx) e1 (I.base.free b o e n hx)
  exact ⟨sl',e2⟩
 ·obtain ⟨o',e1⟩:=I.base.there b o e hx
  exact free b o' (neC b o e hx) e1 (I.base.free b o e n hx)
 ·obtain ⟨o',e1⟩:=I.base.there b o e hx
  exact there b o' (neC b o e hx) e1
 ·obtain ⟨m1,e1⟩:=I.base.tbls b ps e
  obtain ⟨m2,e2⟩:=tbls b _ e1
  exact ⟨m1++m2,by rw [e2,Array.append_assoc]⟩
 ·obtain ⟨m,hn,hl⟩:=I.loc
  refine ⟨m,ns m hn,fun i x v e1 e2 e3 => ?_⟩
  obtain ⟨u,r,l⟩:=hl i x v e1 e2 e3
  refine ⟨u,r,?_⟩
  rcases l with l | ⟨k,c,e,z⟩
  ·exact .inl l
  ·exact .inr ⟨k,c,e,cellK x c e _ z⟩
 ·obtain ⟨v,z⟩:=I.cell x c e
  exact ⟨v,cellK x c e v z⟩
 ·obtain ⟨m,⟨o,_,_,ho,_⟩,_⟩:=I.loc
  exact free _ o (fun z=>(hch _ z).2.1 rfl) ho I.free
 ·obtain ⟨v,o,ho,hd⟩:=I.cell x c e
  exact free c o (fun z=>(hch c z).2.2.1 x c e rfl) ho (I.freeC x c e)
 ·obtain ⟨e,n,ne,nf,d⟩:=I.pin p hp
  have nch:p.1∉ch:=fun z=>(hch p.1 z).2.2.2 p hp rfl
  exact ⟨keep p.1 p.2 ne nf nch e n,free p.1 p.2 nch e n,ne,nf,d⟩
theorem Inv.un {t':Nat} (I:Inv X pins σ H s) (u:Un X.fs [] H H' s.heap h') (hok:HOk X.prog X.w H' h'):Inv X pins σ H' { s with heap:=h',toks:=t' }:=by
 obtain ⟨m,⟨o,es,ep,ho,r⟩,_⟩:=id I.loc
 obtain ⟨sl,hL⟩:=u.any ho I.free (by simp)
 exact I.step (g':=s.gens) (d':=s.drawn) (ch:=[]) (fun _ z=>nomatch z) (fun b o _ hb _ e n=>u.keep b o e n hb (by simp)) (fun b o _ hb _ e n=>u.slot b o e n hb (by simp)) (fun b o _ e n=>u.free b o e n (by simp)) (fun b o _ e=>u.there b o e (by simp)) u.tups u.frzs u.tbls (fun m' hm=>by
  obtain ⟨o',es',ep',ho',r'⟩:=hm
  rw [ho] at ho';cases ho'
  exact ⟨_,es',ep',hL,r'⟩) hok I.bare
theorem Inv.call {g':Array GenState} {t':Nat} {d':Drawn} {ch:List Addr} (I:Inv X pins σ H s) (u:Un (frs X.stack) ch H H' s.heap h') (hok:HOk X.prog X.w H' h') (hg:AllBare g')
  (hch:∀ b∈ch,(b∈X.ex∨X.s₀.heap.objs.size≤b)∧b≠X.env.locals∧(∀ x c,X.env.cells.lookup x=some c→c≠b)∧∀ p∈X.pn++pins,p.1≠b) :
  Inv X pins σ H' { s with heap:=h',gens:=g',drawn:=d',toks:=t' }:=by
 obtain ⟨m,⟨o,es,ep,ho,r⟩,_⟩:=id I.loc
 obtain ⟨sl,hL⟩:=u.any ho I.free fun z=>(hch _ z).2.1 rfl
 exact I.step (ch:=ch) hch (fun b o hL hb hc e n=>u.keep b o e n (fun z=>(List.mem_cons.mp (I.stkSub b z)).elim hL hb) hc) (fun b o _ _ hc e n=>u.any e n hc) (fun b o hc e n=>u.free b o e n hc) (fun b o hc e=>u.there b o e hc) u.tups u.frzs u.tbls (fun m' hm=>by
  obtain ⟨o',es',ep',ho',r'⟩:=hm
  rw [ho] at ho';cases ho'
  exact ⟨_,es',ep',hL,r'⟩) hok hg
theorem Inv.turned {t':Nat} {it:Addr} (I:Inv X pins σ H s) (k:∀ b o,b≠it→s.heap.get? b=some o→h'.get? b=some o) (hn:H it=none) (hL:it≠X.env.locals)
  (h1:it∈X.ex∨X.s₀.heap.objs.size≤it) (h2:∀ x c,X.env.cells.lookup x=some c→c≠it) (h3:∀ p∈X.pn++pins,p.1≠it):Inv X pins σ H { s with heap:=h',toks:=t' }:=by
 have nit:∀ b u,H b=some u→b≠it:=fun b u e z=>by rw [z,hn] at e;cases e
 refine I.step (g':=s.gens) (d':=s.drawn) (ch:=[it]) (fun b hb => ?_) (fun b o _ _ hc e _=>k b o (fun z=>hc (by simp [z])) e) (fun b o _ _ hc e _=>⟨o.slots,k b o (fun z=>hc (by simp [z])) e⟩) (fun _ _ _ _ n=>n)
  (fun b o hc e=>⟨o,k b o (fun z=>hc (by simp [z])) e⟩) (fun _ _ e=>e) (fun _ _ _ e=>e) (fun b ps e=>⟨#[],by rw [e];simp⟩) (fun m hm => ?_) (fun b u e => ?_) I.bare
 ·have e:b=it:=by simpa using hb
  subst e
  exact ⟨h1,hL,h2,h3⟩
 ·obtain ⟨o,es,ep,ho,r⟩:=hm
  exact ⟨o,es,ep,k _ o (Ne.symm hL) ho,r⟩
 ·refine (I.hok b u e).stay (fun c v hc q=>k c v ?_ q) (fun _ q=>q) fun _ _ q=>q
  rcases hc with z | z
  ·rw [z];exact nit b u e
  ·exact nit c _ z
theorem Inv.tok (I:Inv X pins σ H s) (t:Nat):Inv X pins σ H { s with toks:=t }:=I.un (h':=s.heap) (t':=t) Un.refl I.hok
theorem Inv.kept {t':Nat} (I:Inv X pins σ H s) (k:∀ b u,s.heap.get? b=some u→h'.get? b=some u):Inv X pins σ H { s with heap:=h',toks:=t' }:=I.un (Un.kept k) (I.hok.kept k)
theorem Inv.laid {a:Addr} {o:HO} {t':Nat} (I:Inv X pins σ H s) (k:∀ b u,s.heap.get? b=some u→h'.get? b=some u) (hp:s.heap.objs.size≤a) (new:YK X.prog X.w (upd H a o) h' a o) :
  Inv X pins σ (upd H a o) { s with heap:=h',toks:=t' }:=I.un (Un.laid k hp (I.hok.fresh hp)) (I.hok.laid k hp new)
theorem Inv.write {x e:Addr} {o:HO} {t':Nat} (I:Inv X pins σ H s) (mu:Mut (H x)) (he:e=x∨H e=some (.own x)) (k:∀ b u,b≠e→s.heap.get? b=some u→h'.get? b=some u) (heo:∃ u,h'.get? e=some u)
  (new:YK X.prog X.w (upd H x o) h' x o):Inv X pins σ (upd H x o) { s with heap:=h',toks:=t' }:=I.un (Un.write mu he k heo) (I.hok.write mu he k heo new)
theorem Inv.weak {σ':List (Option V)} (I:Inv X pins σ H s) (hl:σ'.length=σ.length) (w:∀ (i:Nat) v,σ'[i]?=some (some v)→σ[i]?=some (some v)):Inv X pins σ' H s :=
 ⟨I.ok,I.os,I.bare,I.base,let ⟨m,hn,hl'⟩:=I.loc;⟨m,hn,fun i x v e1 e2 e3=>hl' i x v e1 (w i v e2) e3⟩,I.cell,I.free,I.freeC,I.pin,I.hok,hl.trans I.len⟩
theorem Inv.pins_of {pins':List (Addr×Obj)} (I:Inv X pins σ H s) (h:∀ p∈pins',s.heap.get? p.1=some p.2∧H p.1=none∧p.1≠X.env.locals∧p.1∉X.fs∧∀ v,p.2.data ≠ .cell v):Inv X pins' σ H s :=
 ⟨I.ok,I.os,I.bare,I.base,I.loc,I.cell,I.free,I.freeC,fun p hp=>(List.mem_append.mp hp).elim (fun z=>I.pin p (List.mem_append_left _ z)) (h p),I.hok,I.len⟩
theorem QiJ {N:List Str} (hN:N.Nodup) {i j:Nat} {x:Str} (a:N[i]?=some x) (b:N[j]?=some x):i=j:=by
 obtain ⟨h1,e1⟩:=List.getElem?_eq_some_iff.mp a
 obtain ⟨h2,e2⟩:=List.getElem?_eq_some_iff.mp b
 exact (List.getElem_inj hN).mp (e1.trans e2.symm)
theorem QfX {M:Model} {A:Around} {E:Value→Shared→Prop} {i:Nat} {x:Str} {v:V} {u:Value} {Q:Unit→Shared→Prop} (I:Inv X pins σ H s) (hN:X.N.Nodup) (hi:X.N[i]?=some x) (hx:Loc X.env.scope x) (r:RelV v u)
  (h:∀ s',Inv X pins (σ.set i (some v)) H s'→(∃ a,Heap.SameBut a s.heap s'.heap∧(a=X.env.locals∨X.env.cells.lookup x=some a))→Q () s') (hf:X.fn x=true∨X.env.scope.names.lookup x=some .local:=by first | exact .inl rfl | exact .inr rfl | assumption):wpAny M A (storeName X.env x u) Q E s:=by
 obtain ⟨m,hn,hl⟩:=id I.loc
 have hcls:(X.env.scope.kind == .class||(X.env.scope.kind == .module&&X.env.locals != X.env.globals))=false:=by rw [I.ok.kind];rfl
 have hiσ:i < σ.length:=by rw [I.len];exact (List.getElem?_eq_some_iff.mp hi).1
 have cne:=I.cne
 have tracked:∀ {a:Addr} {h':Heap},(∃ o,s.heap.get? a=some o∧H a=none)→Heap.SameBut a s.heap h'→HOk X.prog X.w H h':=fun {a h'} ha hs b ob e=>by
  obtain ⟨_,_,hfree⟩:=ha
  refine (I.hok b ob e).stay (fun c w' hc q=>(hs.2 c ?_).trans q) (fun _ q=>q) fun _ _ q=>q
  rintro rfl
  rcases hc with rfl | hc
  ·rw [hfree] at e;cases e
  ·rw [hfree] at hc;cases hc
 rcases hx with hk | hk
 ·refine wpAny_storeName_local hk hn (fun h' hn' hs => ?_) hcls
  obtain ⟨oL,_,_,hoL,_⟩:=id hn
  refine h _ ⟨I.ok,I.os,I.bare,⟨fun b o e n hb hx => ?_,fun b o e n hb hx => ?_,I.base.free,fun b o e hx => ?_,I.base.tups,I.base.frzs,I.base.tbls⟩,⟨_,hn',fun j y v' e1 e2 e3 => ?_⟩,fun y c e => ?_,I.free,I.freeC,fun p hp => ?_,tracked ⟨oL,hoL,I.free⟩ hs,by simpa using I.len⟩ ⟨_,hs,.inl rfl⟩
  ·exact (hs.2 b (Nat.ne_of_lt (Nat.lt_of_lt_of_le (Heap.lt_size e) I.ok.above))).trans (I.base.keep b o e n hb hx)
  ·obtain ⟨sl,e1⟩:=I.base.slot b o e n hb hx
   exact ⟨sl,(hs.2 b (Nat.ne_of_lt (Nat.lt_of_lt_of_le (Heap.lt_size e) I.ok.above))).trans e1⟩
  ·obtain ⟨o',e1⟩:=I.base.there b o e hx
   exact ⟨o',(hs.2 b (Nat.ne_of_lt (Nat.lt_of_lt_of_le (Heap.lt_size e) I.ok.above))).trans e1⟩
  ·by_cases hj:j=i
   ·subst hj
    rw [hi] at e1;cases e1
    rw [List.getElem?_set_self hiσ] at e2
    cases e2
    exact ⟨u,r,.inl ⟨hk,by simp⟩⟩
   ·rw [List.getElem?_set_ne (Ne.symm hj)] at e2
    obtain ⟨u',r',q⟩:=hl j y v' e1 e2 e3
    refine ⟨u',r',?_⟩
    rcases q with ⟨k,e⟩ | ⟨k,c,e,z⟩
    ·refine .inl ⟨k,?_⟩
     have:y≠x:=fun e=>hj (QiJ hN e1 (e ▸ hi))
     simp [this,e]
    ·exact .inr ⟨k,c,e,z.sameBut hs (cne y c e)⟩
  ·obtain ⟨w',z⟩:=I.cell y c e
   exact ⟨w',z.sameBut hs (cne y c e)⟩
  ·obtain ⟨e,n,ne,nf,d⟩:=I.pin p hp
   exact ⟨(hs.2 p.1 ne).trans e,n,ne,nf,d⟩
 ·have hfn:X.fn x=true:=by
   rcases hf with z | z
   ·exact z
   ·rw [z] at hk;cases hk
  obtain ⟨c,hc⟩:=I.ok.has x (.inl hk)
  obtain ⟨w',z⟩:=I.cell x c hc
  refine wpAny_storeName_cell I.ok.kind hk hc z (fun h' hc' hs => ?_)
  obtain ⟨oc,hoc,hocd⟩:=id z
  refine h { s with heap:=h' } ⟨I.ok,I.os,I.bare,⟨fun b o e n hb hx => ?_,fun b o e n hb hx => ?_,I.base.free,fun b o e hx => ?_,I.base.tups,I.base.frzs,I.base.tbls⟩,⟨m,hn.sameBut hs (Ne.symm (cne x c hc)),fun j y v' e1 e2 e3 => ?_⟩,fun y c' e => ?_,I.free,I.freeC,fun p hp => ?_,tracked ⟨oc,hoc,I.freeC x c hc⟩ hs,by simpa using I.len⟩ ⟨c,hs,.inr hc⟩
  ·exact (hs.2 b (Nat.ne_of_lt (Nat.lt_of_lt_of_le (Heap.lt_size e) (I.ok.cab x c hfn hc)))).trans (I.base.keep b o e n hb hx)
  ·obtain ⟨sl,e1⟩:=I.base.slot b o e n hb hx
   exact ⟨sl,(hs.2 b (Nat.ne_of_lt (Nat.lt_of_lt_of_le (Heap.lt_size e) (I.ok.cab x c hfn hc)))).trans e1⟩
  ·obtain ⟨o',e1⟩:=I.base.there b o e hx
   exact ⟨o',(hs.2 b (Nat.ne_of_lt (Nat.lt_of_lt_of_le (Heap.lt_size e) (I.ok.cab x c hfn hc)))).trans e1⟩
  ·by_cases hj:j=i
   ·subst hj
    rw [hi] at e1;cases e1
    rw [List.getElem?_set_self hiσ] at e2
    cases e2
    exact ⟨u,r,.inr ⟨.inl hk,c,hc,hc'⟩⟩
   ·rw [List.getElem?_set_ne (Ne.symm hj)] at e2
    obtain ⟨u',r',q⟩:=hl j y v' e1 e2 e3
    refine ⟨u',r',?_⟩
    rcases q with q | ⟨k,c',e,z'⟩
    ·exact .inl q
    ·refine .inr ⟨k,c',e,z'.sameBut hs ?_⟩
     rintro rfl
     exact hj (QiJ hN e1 (I.ok.inj _ _ _ e hc ▸ hi))
  ·by_cases hcc:c'=c
   ·subst hcc;exact ⟨_,hc'⟩
   ·obtain ⟨w2,z2⟩:=I.cell y c' e
    exact ⟨w2,z2.sameBut hs hcc⟩
  ·obtain ⟨e,n,ne,nf,d⟩:=I.pin p hp
   refine ⟨(hs.2 p.1 ?_).trans e,n,ne,nf,d⟩
   intro q
   rw [q,hoc] at e
   have q':oc=p.2:=Option.some.inj e
   exact d w' (by rw [← q'];exact hocd)
theorem Qiu {M:Model} {A:Around} {E:Value→Shared→Prop} {i:Nat} {x:Str} {v:V} {u:Value} {Q:Unit→Shared→Prop} (I:Inv X pins σ H s) (hN:X.N.Nodup) (hi:X.N[i]?=some x) (hx:Loc X.env.scope x) (r:RelV v u)
  (h:∀ s',Inv X pins (σ.set i (some v)) H s'→Q () s') (hf:X.fn x=true∨X.env.scope.names.lookup x=some .local:=by first | exact .inl rfl | exact .inr rfl | assumption):wpAny M A (storeName X.env x u) Q E s :=
 QfX I hN hi hx r (fun s' I' _=>h s' I') hf
theorem Inv.call' {s':Shared} {ch:List Addr} (I:Inv X pins σ H s) (ho:s'.os=s.os) (u:Un (frs X.stack) ch H H' s.heap s'.heap) (hok:HOk X.prog X.w H' s'.heap) (hg:AllBare s'.gens)
  (hch:∀ b∈ch,(b∈X.ex∨X.s₀.heap.objs.size≤b)∧b≠X.env.locals∧(∀ x c,X.env.cells.lookup x=some c→c≠b)∧∀ p∈X.pn++pins,p.1≠b):Inv X pins σ H' s':=by
 obtain ⟨h',g',d',t',o'⟩:=s'
 have e:o'=s.os:=ho
 subst e
 exact I.call (g':=g') (t':=t') (d':=d') u hok hg hch
end
abbrev XK:=Value→Option Addr→Hp→Prop
abbrev St:=List (Option V)
abbrev VK:=V→Hp→Prop
abbrev TE:=St→Hp→VK→Prop
abbrev TT:=St→Hp→(Bool→Hp→Prop)→Prop
abbrev TA:=St→Hp→(List V→Hp→Prop)→Prop
structure Ends where
 nx:St→Hp→Prop
 rt:VK
 bk:St→Hp→Prop:=fun _ _=>False
 ct:St→Hp→Prop:=fun _ _=>False
abbrev TS:=Ends→St→Hp→Prop
def EP (X:Cx) (pins:List (Addr×Obj)) (σ:St) (Q:VK) (u:Value) (s':Shared):Prop:=∃ v H',Inv X pins σ H' s'∧RelV v u∧Q v H'
def TP (X:Cx) (pins:List (Addr×Obj)) (σ:St) (Q:Bool→Hp→Prop) (b:Bool) (s':Shared):Prop:=∃ H',Inv X pins σ H' s'∧Q b H'
def AP (X:Cx) (pins:List (Addr×Obj)) (σ:St) (Q:List V→Hp→Prop) (us:List Value) (s':Shared):Prop:=∃ vs H',Inv X pins σ H' s'∧Vals vs us∧Q vs H'
def SP (X:Cx) (pins:List (Addr×Obj)) (D:Ends) (f:Flow) (s':Shared):Prop :=
 match f with
 | .next=>∃ σ' H',Inv X pins σ' H' s'∧D.nx σ' H'
 | .brk=>∃ σ' H',Inv X pins σ' H' s'∧D.bk σ' H'
 | .cont=>∃ σ' H',Inv X pins σ' H' s'∧D.ct σ' H'
 | .ret u=>∃ v σ' H',Inv X pins σ' H' s'∧RelV v u∧D.rt v H'
def PE (X:Cx) (e:Expr) (t:TE):Prop :=
 ∀ (pins:List (Addr×Obj)) (s:Shared) (σ:St) (H:Hp) (Q:VK),Inv X pins σ H s→t σ H Q→wpAny (model X.prog X.w) X.A (eval e X.env) (EP X pins σ Q) X.xe s
def PT (X:Cx) (e:Expr) (t:TT):Prop :=
 ∀ (pins:List (Addr×Obj)) (s:Shared) (σ:St) (H:Hp) (Q:Bool→Hp→Prop),Inv X pins σ H s→t σ H Q→wpAny (model X.prog X.w) X.A (isTrue e X.env (eval e X.env)) (TP X pins σ Q) X.xe s
def PW (X:Cx) (e:Expr) (t:TT):Prop :=
 ∀ (whole:Sem Value) (pins:List (Addr×Obj)) (s:Shared) (σ:St) (H:Hp) (Q:Bool→Hp→Prop),Inv X pins σ H s→t σ H Q→wpAny (model X.prog X.w) X.A (isTrue e X.env whole) (TP X pins σ Q) X.xe s
theorem PW.pt {X:Cx} {e:Expr} {t:TT} (h:PW X e t):PT X e t:=h _
def PA (X:Cx) (es:List Expr) (t:TA):Prop :=
 ∀ (pos:Pos) (pins:List (Addr×Obj)) (s:Shared) (σ:St) (H:Hp) (Q:List V→Hp→Prop),Inv X pins σ H s→t σ H Q→wpAny (model X.prog X.w) X.A (spliced (backTo pos (starEach es X.env))) (AP X pins σ Q) X.xe s
def PS (X:Cx) (st:Stmt) (t:TS):Prop :=
 ∀ (pins:List (Addr×Obj)) (s:Shared) (σ:St) (H:Hp) (D:Ends),Inv X pins σ H s→t D σ H→wpAny (model X.prog X.w) X.A (exec st X.env) (SP X pins D) X.xe s
def PSs (X:Cx) (st:List Stmt) (t:TS):Prop :=
 ∀ (pins:List (Addr×Obj)) (s:Shared) (σ:St) (H:Hp) (D:Ends),Inv X pins σ H s→t D σ H→wpAny (model X.prog X.w) X.A (execs st X.env) (SP X pins D) X.xe s
theorem thn {α:Type} {t:Sem α} {Q Q':α→Shared→Prop} {M:Model} {A:Around} {E:Value→Shared→Prop} {s:Shared} (h:wpAny M A t Q E s) (hQ:∀ a s,Q a s→Q' a s):wpAny M A t Q' E s:=wpAny_mono h hQ fun _ _ x=>x
section
variable {X:Cx}
def tVar (i:Nat):TE:=fun σ H Q=>∃ v,σ[i]?=some (some v)∧Q v H
def tC (v:V):TE:=fun _ H Q=>Q v H
theorem pe_var {i:Nat} {x:Str} {pos:Pos} (hN:X.N[i]?=some x) (hv:Vis X.env.scope x) (hd:(x==("__debug__":Str))=false:=by decide) (hcd:(x==("__classdict__":Str))=false:=by decide):PE X (.Name x pos) (tVar i):=by
 intro pins s σ H Q I h
 obtain ⟨v,e,h⟩:=h
 obtain ⟨m,hn,hl⟩:=I.loc
 obtain ⟨u,r,l⟩:=hl i x v hN e hv
 have fin:EP X pins σ Q u s:=⟨v,H,I,r,h⟩
 rcases l with ⟨hk,hm⟩ | ⟨hk,c,hc,hcell⟩
 ·exact wpAny_Name (wpAny_loadName_local I.ok.kind hk hn hm fin) hd
 ·rcases hk with hk | hk
  ·exact wpAny_Name (wpAny_loadName_cell I.ok.kind hk hc hcell fin) hd
  ·exact wpAny_Name (wpAny_loadName_free I.ok.kind hk hc hcell fin hcd) hd
theorem pe_int {i j pos}:PE X (.Constant (.int i) j pos) (tC (.int i)):=fun _ _ _ H _ I h=>wpAny_Constant_int ⟨.int i,H,I.tok _,⟨_,rfl⟩,h⟩
theorem pe_bl {b j pos}:PE X (.Constant (.bool b) j pos) (tC (.bl b)):=fun _ _ _ H _ I h=>Constant_bool ⟨.bl b,H,I,rfl,h⟩
theorem pe_str {x j pos}:PE X (.Constant (.str x) j pos) (tC (.str x)):=fun _ _ _ H _ I h=>Calls.Constant_str ⟨.str x,H,I.tok _,⟨_,rfl⟩,h⟩
def Gl (X:Cx) (x:Str):Prop:=X.env.kindOf x=some .globalImplicit
theorem QkT {E:Value→Shared→Prop} {pins:List (Addr×Obj)} {s:Shared} {σ:St} {H:Hp} {x:Str} {u:Value} {pos:Pos} {Q:Value→Shared→Prop} (I:Inv X pins σ H s) (hg:Gl X x) (hm:X.mg x=some u) (h:Q u s)
  (hd:(x==("__debug__":Str))=false:=by decide):wpAny (model X.prog X.w) X.A (eval (.Name x pos) X.env) Q E s :=
 Calls.Name_function_global I.ok.kind hg (Calls.loadGlobal_global (by rw [I.ok.glob];exact I.mod.glob.keeps I.bk) hm h) hd
theorem QfJ {E:Value→Shared→Prop} {pins:List (Addr×Obj)} {s:Shared} {σ:St} {H:Hp} {x:Str} {u:Value} {pos:Pos} {Q:Value→Shared→Prop} (I:Inv X pins σ H s) (hg:Gl X x) (hm:X.mg x=none) (hv:bootBuiltins x=some u) (h:Q u s)
  (hn:x ≠ "__name__":=by decide) (hd:(x==("__debug__":Str))=false:=by decide):wpAny (model X.prog X.w) X.A (eval (.Name x pos) X.env) Q E s:=by
 obtain ⟨mb,h1,h2⟩:=I.mod.blt
 exact Calls.Name_function_global I.ok.kind hg (Calls.loadGlobal_builtin (by rw [I.ok.glob];exact I.mod.glob.keeps I.bk) hm (by rw [I.ok.blt];exact h1.keeps I.bk) ((h2 x hn).trans hv) h) hd
theorem QkJ {x:Str} {v:V} {u:Value} {pos:Pos} (hg:Gl X x) (hm:X.mg x=some u) (r:RelV v u) (hd:(x==("__debug__":Str))=false:=by decide):PE X (.Name x pos) (tC v) :=
 fun _ _ _ H _ I h=>QkT I hg hm ⟨v,H,I,r,h⟩ hd
theorem pe_bltn {x:Str} {v:V} {u:Value} {pos:Pos} (hg:Gl X x) (hm:X.mg x=none) (hv:bootBuiltins x=some u) (r:RelV v u) (hn:x ≠ "__name__":=by decide) (hd:(x==("__debug__":Str))=false:=by decide):PE X (.Name x pos) (tC v) :=
 fun _ _ _ H _ I h=>QfJ I hg hm hv ⟨v,H,I,r,h⟩ hn hd
def t2I (ta tb:TE) (k:Int→Int→Hp→Prop):St→Hp→Prop:=fun σ H=>ta σ H fun x H1=>tb σ H1 fun y H2=>∃ i j,x = .int i∧y = .int j∧k i j H2
variable {a b:Expr} {ta tb:TE} {pos:Pos}
def tCmp (p:Int→Int→Bool) (ta tb:TE):TE:=fun σ H Q=>t2I ta tb (fun i j H2=>Q (.bl (p i j)) H2) σ H
abbrev tLe:TE→TE→TE:=tCmp fun i j=>decide (i≤j)
def tB (t:TE):TT:=fun σ H Q=>t σ H fun x H1=>∃ c,x = .bl c∧Q c H1
variable {tA tB':TT} {rest:List Expr}
def tAnd (t u:TT):TT:=fun σ H Q=>t σ H fun c H1=>if c=true then u σ H1 Q else Q false H1
def tOr (t u:TT):TT:=fun σ H Q=>t σ H fun c H1=>if c=true then Q true H1 else u σ H1 Q
def tNot (t:TT):TT:=fun σ H Q=>t σ H fun c H1=>Q (!c) H1
theorem pw_and1 (ha:PT X a tA):PW X (.BoolOp .And [a] pos) tA:=by
 intro wh pins s σ H Q I h
 refine isTrue_and (thn (ha pins s σ H Q I h) fun c s1 e => ?_)
 cases c with
 | true=>exact isTrue_and_nil e
 | false=>exact e
theorem pw_or1 (ha:PT X a tA):PW X (.BoolOp .Or [a] pos) tA:=by
 intro wh pins s σ H Q I h
 refine isTrue_or (thn (ha pins s σ H Q I h) fun c s1 e => ?_)
 cases c with
 | false=>exact isTrue_or_nil e
 | true=>exact e
theorem pw_and (ha:PT X a tA) (hb:PW X (.BoolOp .And (b :: rest) pos) tB'):PW X (.BoolOp .And (a :: b :: rest) pos) (tAnd tA tB'):=by
 intro wh pins s σ H Q I h
 refine isTrue_and (thn (ha pins s σ H _ I h) fun c s1 ⟨H1,I1,q1⟩ => ?_)
 cases c with
 | true=>exact hb wh pins s1 σ H1 Q I1 q1
 | false=>exact ⟨H1,I1,q1⟩
theorem pw_or (ha:PT X a tA) (hb:PW X (.BoolOp .Or (b :: rest) pos) tB'):PW X (.BoolOp .Or (a :: b :: rest) pos) (tOr tA tB'):=by
 intro wh pins s σ H Q I h
 refine isTrue_or (thn (ha pins s σ H _ I h) fun c s1 ⟨H1,I1,q1⟩ => ?_)
 cases c with
 | true=>exact ⟨H1,I1,q1⟩
 | false=>exact hb wh pins s1 σ H1 Q I1 q1
theorem pt_not (ha:PT X a tA):PT X (.UnaryOp .Not a pos) (tNot tA):=by
 intro pins s σ H Q I h
 exact isTrue_not (ha pins s σ H (fun c H1=>Q (!c) H1) I h)
def tAndV (ta tb:TE):TE:=fun σ H Q=>ta σ H fun x H1=>∃ c,x = .bl c∧if c=true then tb σ H1 Q else Q (.bl false) H1
def tNotV (ta:TE):TE:=fun σ H Q=>ta σ H fun x H1=>∃ c,x = .bl c∧Q (.bl (!c)) H1
theorem pe_one {op} {t:TE} (h:PE X a t):PE X (.BoolOp op [a] pos) t:=fun pins s σ H Q I hw=>BoolOp_one (h pins s σ H Q I hw)
theorem pe_and (ha:PE X a ta) (hb:PE X (.BoolOp .And (b :: rest) pos) tb):PE X (.BoolOp .And (a :: b :: rest) pos) (tAndV ta tb):=by
 intro pins s σ H Q I h
 refine BoolOp_and (thn (ha pins s σ H _ I h) fun v s1 ⟨x,H1,I1,r1,q1⟩ => ?_)
 obtain ⟨c,rfl,q1⟩:=q1
 cases r1
 refine wpAny_truthy_bool ?_
 cases c with
 | true=>exact hb pins s1 σ H1 Q I1 q1
 | false=>exact ⟨.bl false,H1,I1,rfl,q1⟩
theorem pe_not (ha:PE X a ta):PE X (.UnaryOp .Not a pos) (tNotV ta):=by
 intro pins s σ H Q I h
 refine UnaryOp_ (thn (ha pins s σ H _ I h) fun v s1 ⟨x,H1,I1,r1,q1⟩ => ?_)
 obtain ⟨c,rfl,q1⟩:=q1
 cases r1
 exact not_of (wpAny_truthy_bool ⟨.bl (!c),H1,I1,rfl,q1⟩)
def tIf (t:TT) (ta tb:TE):TE:=fun σ H Q=>t σ H fun c H1=>if c=true then ta σ H1 Q else tb σ H1 Q
theorem pe_ifExp {c:Expr} (hc:PT X c tA) (ha:PE X a ta) (hb:PE X b tb):PE X (.IfExp c a b pos) (tIf tA ta tb):=by
 intro pins s σ H Q I h
 refine wpAny_IfExp (thn (hc pins s σ H _ I h) fun d s1 ⟨H1,I1,q1⟩ => ?_)
 cases d with
 | true=>exact ha pins s1 σ H1 Q I1 q1
 | false=>exact hb pins s1 σ H1 Q I1 q1
end
def SqL (K:PySem.W.Frag) (H:Hp) (a:Addr) (xs:List V):Prop :=
 Rd H a (.lst xs) ∨
  ∃ (o:Obj) (its:Array Value) (n:Nat),K.lookup a=some o∧o.cls = .type "list"∧o.dict=none∧o.data = .seq its n∧its.size≤sizeLine∧Vals xs its.toList
def SqT (K:PySem.W.Frag) (H:Hp) (a:Addr) (xs:List V):Prop :=
 Rd H a (.tup xs) ∨
  ∃ (o:Obj) (its:Array Value) (n:Nat),K.lookup a=some o∧o.cls = .type "tuple"∧o.dict=none∧o.data = .seq its n∧its.size≤sizeLine∧Vals xs its.toList
def absV:Value→Option V
 | .none=>some .non
 | .bool b=>some (.bl b)
 | .int i _=>some (.int i)
 | .str x _=>some (.str x)
 | .bytes b _=>some (.byt b)
 | .float b _=>some (.flt b)
 | .ref a=>some (.ref a)
 | .type n=>some (.ty n)
 | _=>none
theorem RelV.abs {x:V} {u:Value} (r:RelV x u):absV u=some x:=by
 cases x with
 | non=>cases r;rfl
 | bl _=>cases r;rfl
 | int _=>obtain ⟨t,rfl⟩:=r;rfl
 | str _=>obtain ⟨t,rfl⟩:=r;rfl
 | byt _=>obtain ⟨t,rfl⟩:=r;rfl
 | flt _=>obtain ⟨t,rfl⟩:=r;rfl
 | ref _=>cases r;rfl
 | ty _=>cases r;rfl
theorem RelV.inj {x y:V} {u:Value} (r:RelV x u) (q:RelV y u):x=y:=Option.some.inj (r.abs.symm.trans q.abs)
theorem Vals.inj:∀ {xs ys:List V} {us:List Value},Vals xs us→Vals ys us→xs=ys
 | _,_,_,.nil,.nil=>rfl
 | _,_,_,.cons r t,.cons r' t'=>by rw [r.inj r',Vals.inj t t']
section
variable {X:Cx} {pins:List (Addr×Obj)} {σ:St} {H:Hp} {s:Shared} {a:Addr} {xs ys:List V}
theorem SqL.of {K:PySem.W.Frag} (h:H a=some (.lst xs)):SqL K H a xs := .inl (.inl h)
theorem SqT.of {K:PySem.W.Frag} (h:H a=some (.tup xs)):SqT K H a xs := .inl (.inl h)
theorem Inv.list (I:Inv X pins σ H s) (h:SqL X.K H a xs):∃ its:List Value,Vals xs its∧PlainL s.heap a its.toArray∧xs.length≤sizeLine:=by
 rcases h with h | ⟨o,its,n,hk,hc,hd,hs,hz,r⟩
 ·obtain ⟨z,its,n,r,e⟩:=h.ok I.hok
  exact ⟨its,r,⟨_,n,e,rfl,rfl,rfl⟩,z⟩
 ·refine ⟨its.toList,r,⟨o,n,I.kIn a o hk,hc,hd,by simpa using hs⟩,?_⟩
  have e:=r.length
  simp only [Array.length_toList] at e
  omega
theorem Inv.tupleD (I:Inv X pins σ H s) (h:SqT X.K H a xs):∃ its:List Value,Vals xs its∧QaB s.heap a its.toArray xs∧xs.length≤sizeLine:=by
 rcases h with h | ⟨o,its,n,hk,hc,hd,hs,hz,r⟩
 ·obtain ⟨z,its,r,p⟩:=h.ok I.hok
  exact ⟨its,r,p,z⟩
 ·refine ⟨its.toList,r,⟨o,I.kIn a o hk,hc,.inl hd,n,by simpa using hs⟩,?_⟩
  have e:=r.length
  simp only [Array.length_toList] at e
  omega
theorem Inv.tuple (I:Inv X pins σ H s) (h:SqT X.K H a xs):∃ its:List Value,Vals xs its∧IsTup s.heap a its.toArray∧xs.length≤sizeLine :=
 let ⟨its,r,p,z⟩:=I.tupleD h
 ⟨its,r,p.is,z⟩
theorem Inv.list_inj (I:Inv X pins σ H s) (h:SqL X.K H a xs) (h':SqL X.K H a ys):xs=ys:=by
 obtain ⟨its,r,⟨o,n,e,_,_,d⟩,_⟩:=I.list h
 obtain ⟨its',r',⟨o',n',e',_,_,d'⟩,_⟩:=I.list h'
 rw [e] at e';cases e'
 rw [d] at d'
 injection d' with d1 _
 have:its=its':=by simpa using congrArg Array.toList d1
 subst this
 exact r.inj r'
theorem Inv.tuple_inj (I:Inv X pins σ H s) (h:SqT X.K H a xs) (h':SqT X.K H a ys):xs=ys:=by
 obtain ⟨its,r,⟨o,e,_,n,d⟩,_⟩:=I.tuple h
 obtain ⟨its',r',⟨o',e',_,n',d'⟩,_⟩:=I.tuple h'
 rw [e] at e';cases e'
 rw [d] at d'
 injection d' with d1 _
 have:its=its':=by simpa using congrArg Array.toList d1
 subst this
 exact r.inj r'
end
abbrev Cx.wish (X:Cx) (E:Value→Shared→Prop):Cx:={ X with xe:=E }
abbrev Cx.nox (X:Cx):Cx:=X.wish fun _ _=>False
theorem Cx.Ok.wish {X:Cx} (ok:X.Ok) (E:Value→Shared→Prop):(X.wish E).Ok :=
 ⟨ok.mod,ok.kind,ok.glob,ok.blt,ok.above,ok.inj,ok.has,ok.cab,ok.hd,ok.frames,ok.stk,ok.exf,ok.bs,ok.bsz,ok.noex,ok.exfs,ok.funs,ok.frf⟩
theorem Cx.Ok.unwish {X:Cx} {E:Value→Shared→Prop} (ok:(X.wish E).Ok):X.Ok :=
 ⟨ok.mod,ok.kind,ok.glob,ok.blt,ok.above,ok.inj,ok.has,ok.cab,ok.hd,ok.frames,ok.stk,ok.exf,ok.bs,ok.bsz,ok.noex,ok.exfs,ok.funs,ok.frf⟩
section
variable {X:Cx} {pins:List (Addr×Obj)} {σ:St} {H:Hp} {s:Shared} {E:Value→Shared→Prop}
theorem Inv.wish (I:Inv X pins σ H s) (E:Value→Shared→Prop):Inv (X.wish E) pins σ H s:=⟨I.ok.wish E,I.os,I.bare,I.base,I.loc,I.cell,I.free,I.freeC,I.pin,I.hok,I.len⟩
theorem Inv.unwish (I:Inv (X.wish E) pins σ H s):Inv X pins σ H s:=⟨I.ok.unwish,I.os,I.bare,I.base,I.loc,I.cell,I.free,I.freeC,I.pin,I.hok,I.len⟩
theorem SP.unwish {D:Ends} {f:Flow} {s':Shared} (h:SP (X.wish E) pins D f s'):SP X pins D f s':=by
 cases f with
 | next=>obtain ⟨σ',H',I,q⟩:=h;exact ⟨σ',H',I.unwish,q⟩
 | brk=>obtain ⟨σ',H',I,q⟩:=h;exact ⟨σ',H',I.unwish,q⟩
 | cont=>obtain ⟨σ',H',I,q⟩:=h;exact ⟨σ',H',I.unwish,q⟩
 | ret u=>obtain ⟨v,σ',H',I,r,q⟩:=h;exact ⟨v,σ',H',I.unwish,r,q⟩
theorem PSs.nox {st:List Stmt} {t:TS} (h:PSs X.nox st t):PSs X st t:=fun pins s σ H D I hw =>
 wpAny_mono (h pins s σ H D (I.wish _) hw) (fun _ _ q=>q.unwish) fun _ _ z=>False.elim z
end
section
variable {X:Cx} {st:Stmt} {rest:List Stmt} {t u:TS} {e:Expr} {te:TE} {pos:Pos}
def tNext:TS:=fun D σ H=>D.nx σ H
def tSeq (t u:TS):TS:=fun D σ H=>t { D with nx:=u D } σ H
theorem pss_nil:PSs X [] tNext:=fun _ _ σ H _ I h=>wpAny_execs_nil ⟨σ,H,I,h⟩
theorem pss_cons (h1:PS X st t) (h2:PSs X rest u):PSs X (st :: rest) (tSeq t u):=by
 intro pins s σ H D I h
 refine wpAny_execs_cons (thn (h1 pins s σ H { D with nx:=u D } I h) fun f s1 q => ?_)
 cases f with
 | next =>
  obtain ⟨σ',H',I',q⟩:=q
  exact h2 pins s1 σ' H' D I' q
 | ret v=>exact q
 | brk=>exact q
 | cont=>exact q
theorem pss_one (h1:PS X st t):PSs X [st] t:=by
 intro pins s σ H D I h
 refine wpAny_execs_cons (thn (h1 pins s σ H D I h) fun f s1 q => ?_)
 cases f with
 | next=>exact wpAny_execs_nil q
 | ret v=>exact q
 | brk=>exact q
 | cont=>exact q
theorem Inv.quiet {pins:List (Addr×Obj)} {σ:St} {H:Hp} {s:Shared} (I:Inv X pins σ H s):interactive X.env=false:=by simp [interactive,I.ok.kind]
def Qmv (te:TE):TS:=fun D σ H=>te σ H fun _ H1=>D.nx σ H1
theorem Xl (he:PE X e te) (hs:swapsWith e none pos.line X.env=pure false:=by rfl):PS X (.Expr e pos) (Qmv te):=by
 intro pins s σ H D I h
 exact wpAny_Expr_any (thn (he pins s σ H _ I h) fun v s1 ⟨x,H1,I1,r1,q1⟩=>⟨σ,H1,I1,q1⟩) I.quiet hs
def tRet (te:TE):TS:=fun D σ H=>te σ H D.rt
theorem Qke (he:PE X e te):PS X (.Return (some e) pos) (tRet te):=by
 intro pins s σ H D I h
 exact wpAny_Return_some (thn (he pins s σ H _ I h) fun v s1 ⟨x,H1,I1,r1,q1⟩=>⟨x,σ,H1,I1,r1,q1⟩)
def tIfS (c:TT) (t u:TS):TS:=fun D σ H=>c σ H fun b H1=>if b=true then t D σ H1 else u D σ H1
theorem ps_if {c:Expr} {a b:List Stmt} {tc:TT} (hc:PT X c tc) (ha:PSs X a t) (hb:PSs X b u):PS X (.If c a b pos) (tIfS tc t u):=by
 intro pins s σ H D I h
 refine wpAny_If (thn (hc pins s σ H _ I h) fun d s1 ⟨H1,I1,q1⟩ => ?_)
 cases d with
 | true=>exact ha pins s1 σ H1 D I1 q1
 | false=>exact hb pins s1 σ H1 D I1 q1
def tNever:TS:=fun _ _ _=>False
theorem ps_never:PS X st tNever:=fun _ _ _ _ _ _ h=>h.elim
end
abbrev TG:=V→St→Hp→(St→Hp→Prop)→Prop
abbrev TGs:=List V→St→Hp→(St→Hp→Prop)→Prop
def PG (X:Cx) (target:Expr) (t:TG):Prop :=
 ∀ (pins:List (Addr×Obj)) (s:Shared) (σ:St) (H:Hp) (v:V) (u:Value) (Q:St→Hp→Prop),Inv X pins σ H s→RelV v u→t v σ H Q →
  wpAny (model X.prog X.w) X.A (assign target X.env u) (fun _ s'=>∃ σ' H',Inv X pins σ' H' s'∧Q σ' H') X.xe s
def PGs (X:Cx) (ts:List Expr) (t:TGs):Prop :=
 ∀ (pins:List (Addr×Obj)) (s:Shared) (σ:St) (H:Hp) (vs:List V) (us:List Value) (Q:St→Hp→Prop),Inv X pins σ H s→Vals vs us→t vs σ H Q →
  wpAny (model X.prog X.w) X.A (assignInOrder ((assignEach ts X.env).map (·.2)) us) (fun _ s'=>∃ σ' H',Inv X pins σ' H' s'∧Q σ' H') X.xe s
abbrev TSet:=V→V→V→Hp→(Hp→Prop)→Prop
def PSet (X:Cx) (t:TSet):Prop :=
 ∀ (pins:List (Addr×Obj)) (s:Shared) (σ:St) (H:Hp) (o i v:V) (ov iv u:Value) (Q:Hp→Prop),Inv X pins σ H s→RelV o ov→RelV i iv→RelV v u→t o i v H Q →
  wpAny (model X.prog X.w) X.A (setItem ov iv u) (fun _ s'=>∃ H',Inv X pins σ H' s'∧Q H') X.xe s
section
variable {X:Cx} {pos:Pos}
def QjU (i:Nat):TG:=fun v σ H Q=>Q (σ.set i (some v)) H
theorem Qy {i:Nat} {x:Str} (hN:X.N.Nodup) (hi:X.N[i]?=some x) (hx:Loc X.env.scope x) (hf:X.fn x=true∨X.env.scope.names.lookup x=some .local:=by first | exact .inl rfl | exact .inr rfl | assumption):PG X (.Name x pos) (QjU i):=by
 intro pins s σ H v u Q I r h
 exact wpAny_assign_Name (Qiu I hN hi hx r (fun s' I'=>⟨_,H,I',h⟩) hf)
def gNil:TGs:=fun vs σ H Q=>vs=[]∧Q σ H
def gCons (t:TG) (u:TGs):TGs:=fun vs σ H Q=>∃ v r,vs=v :: r∧t v σ H fun σ' H'=>u r σ' H' Q
theorem QkI:PGs X [] gNil:=by
 intro pins s σ H vs us Q I r h
 obtain ⟨e,h⟩:=h
 subst e
 cases r
 exact assignInOrder_nil ⟨σ,H,I,h⟩
theorem QcT {e:Expr} {es:List Expr} {t:TG} {u:TGs} (h1:PG X e t) (h2:PGs X es u)
  (hs:(assignEach (e :: es) X.env).map (·.2)=assign e X.env :: (assignEach es X.env).map (·.2):=by rfl):PGs X (e :: es) (gCons t u):=by
 intro pins s σ H vs us Q I r h
 obtain ⟨v,vr,e1,h⟩:=h
 subst e1
 cases r with
 | cons r rr =>
  rw [hs]
  refine assignInOrder_cons (thn (h1 pins s σ H _ _ _ I r h) fun _ s1 ⟨σ1,H1,I1,q1⟩ => ?_)
  exact h2 pins s1 σ1 H1 _ _ Q I1 rr q1
def gTup (K:PySem.W.Frag) (n:Nat) (t:TGs):TG:=fun v σ H Q=>∃ a xs,v = .ref a∧SqT K H a xs∧xs.length=n∧t xs σ H Q
theorem pg_tup {es:List Expr} {k:Nat} {t:TGs} {n:Nat} (hc:X.calm=true) (h:PGs X es t)
  (hn:(assignEach es X.env).length=n:=by rfl) (hst:(assignEach es X.env).findIdx? (·.1)=none:=by rfl):PG X (.Tuple es k pos) (gTup X.K n t):=by
 intro pins s σ H v u Q I r hw
 obtain ⟨a,xs,e1,hq,hl,hw⟩:=hw
 subst e1
 cases r
 obtain ⟨its,rv,ht,hz⟩:=I.tuple hq
 refine assign_Tuple_tuple (I.ok.hd hc) ht (by simp [hn,← hl,rv.length]) hst fun h' hx => ?_
 have I1:Inv X pins σ H { s with heap:=h' }:=I.kept (t':=s.toks) fun b o e=>hx b o (Nat.ne_of_lt (Heap.lt_size e)) e
 exact h pins _ σ H xs _ Q I1 (by simpa using rv) hw
def gSub (to ti:TE) (t:TSet):TG:=fun v σ H Q=>to σ H fun o H1=>ti σ H1 fun i H2=>t o i v H2 fun H3=>Q σ H3
theorem pg_sub {o i:Expr} {to ti:TE} {t:TSet} (ho:PE X o to) (hi:PE X i ti) (hs:PSet X t)
  (ha:∀ v,assign (.Subscript o i pos) X.env v=(do
   let ov ← holding [v] (eval o X.env)
   let iv ← holding [v,ov] (eval i X.env)
   standAt pos
   holding [v,ov,iv] (setItem ov iv v)
   release [v,ov,iv] []):=by intro _;rfl):PG X (.Subscript o i pos) (gSub to ti t):=by
 intro pins s σ H v u Q I r h
 rw [ha]
 refine wpAny_bind (wpAny_holding (thn (ho pins s σ H _ I h) fun ov s1 ⟨x,H1,I1,r1,q1⟩ => ?_))
 refine wpAny_bind (wpAny_holding (thn (hi pins s1 σ H1 _ I1 q1) fun iv s2 ⟨y,H2,I2,r2,q2⟩ => ?_))
 refine wpAny_bind (wpAny_standAt (wpAny_bind (wpAny_holding (thn (hs pins s2 σ H2 x y v ov iv u _ I2 r1 r2 r q2) fun _ s3 ⟨H3,I3,q3⟩ => ?_))))
 exact wpAny_release ⟨σ,H3,I3,q3⟩
def tAsg (te:TE) (g:TG):TS:=fun D σ H=>te σ H fun x H1=>g x σ H1 D.nx
theorem ps_asg {tg e:Expr} {te:TE} {g:TG} (he:PE X e te) (hg:PG X tg g) (hs:swapsWithSole [tg] e pos.line X.env=pure false:=by rfl) (hw:swappedStores [tg] e X.env=pure none:=by rfl)
  (h1:(assignEach [tg] X.env).map (·.2)=[assign tg X.env]:=by rfl):PS X (.Assign [tg] e pos) (tAsg te g):=by
 intro pins s σ H D I h
 refine wpAny_Assign_stores (thn (he pins s σ H _ I h) fun v s1 ⟨x,H1,I1,r1,q1⟩ => ?_) hs hw
 rw [h1]
 exact thn (hg pins s1 σ H1 x v _ I1 r1 q1) fun _ s2 q=>q
theorem Qkd {i:Nat} {x:Str} {e:Expr} {te:TE} {pos':Pos} (hN:X.N.Nodup) (hi:X.N[i]?=some x) (hx:Loc X.env.scope x) (he:PE X e te) (hs:swapsWith e (some (.Name x pos')) pos.line X.env=pure false:=by rfl) (hf:X.fn x=true∨X.env.scope.names.lookup x=some .local:=by first | exact .inl rfl | exact .inr rfl | assumption) :
  PS X (.Assign [.Name x pos'] e pos) (tAsg te (QjU i)):=by
 intro pins s σ H D I h
 refine wpAny_Assign_Name (thn (he pins s σ H _ I h) fun v s1 ⟨y,H1,I1,r1,q1⟩ => ?_) hs
 exact Qiu I1 hN hi hx r1 (fun s2 I2=>⟨_,H1,I2,q1⟩) hf
end
structure It where
 go:Nat→Hp→Prop
 yld:Nat→Hp→V→Hp→Prop
 stop:Nat→Hp→Prop
def FpOk (X:Cx) (pins:List (Addr×Obj)) (H:Hp) (b:Addr):Prop :=
 H b=none∧b≠X.env.locals∧b∉X.fs∧(b∈X.ex∨X.s₀.heap.objs.size≤b)∧(∀ x c,X.env.cells.lookup x=some c→c≠b)∧∀ p∈X.pn++pins,p.1≠b
theorem Inv.fpOk {X:Cx} {pins:List (Addr×Obj)} {σ:St} {H H':Hp} {s:Shared} {b:Addr} (I:Inv X pins σ H s) (hb:s.heap.objs.size≤b) (hn:H' b=none):FpOk X pins H' b:=by
 refine ⟨hn,Nat.ne_of_gt (Nat.lt_of_lt_of_le I.lt hb),I.nofs hb,.inr (Nat.le_trans I.sz hb),fun x c e z => ?_,fun p hp z => ?_⟩
 ·obtain ⟨v,q⟩:=I.cell x c e
  exact absurd (Nat.lt_of_lt_of_le q.lt (by rw [z];exact hb)) (Nat.lt_irrefl _)
 ·exact absurd (Nat.lt_of_lt_of_le (Heap.lt_size (I.pin p hp).1) (by rw [z];exact hb)) (Nat.lt_irrefl _)
structure Turn (P:Program) (w:World) (K:PySem.W.Frag) (tg:Expr) (J:It) (fp:List Addr) (it:Addr) (tn:Nat→Heap→Prop):Prop where
 mem:it∈fp
 obj:∀ i h,tn i h→∀ b∈fp,∃ o,h.get? b=some o∧∀ v,o.data ≠ .cell v
 keep:∀ i h h',tn i h→(∀ b∈fp,∀ o,h.get? b=some o→h'.get? b=some o)→tn i h'
 item:∀ (X:Cx),X.prog=P→X.w=w→X.K=K→X.calm=true→∀ (i:Nat) (pins:List (Addr×Obj)) (s:Shared) (σ:St) (H:Hp) (E:Value→Shared→Prop),Inv X pins σ H s→(∀ b∈fp,FpOk X pins H b)→tn i s.heap→J.go i H →
  wpAny (model P w) X.A (pyNext (.ref it)) (fun r s1=>∃ u,r=some u ∧
   wpAny (model P w) X.A (letOwnedTupleGo tg (.ref it) u) (fun _ s2=>∃ x H',Inv X pins σ H' s2∧RelV x u∧J.yld i H x H'∧tn (i + 1) s2.heap∧∀ b∈fp,H' b=none) E s1) E s
 done:∀ (X:Cx),X.prog=P→X.w=w→X.K=K→X.calm=true→∀ (i:Nat) (pins:List (Addr×Obj)) (s:Shared) (σ:St) (H:Hp) (E:Value→Shared→Prop),Inv X pins σ H s→(∀ b∈fp,FpOk X pins H b)→tn i s.heap→J.stop i H →
  wpAny (model P w) X.A (pyNext (.ref it)) (fun r s1=>r=none∧Inv X pins σ H s1) E s
 self:∀ (A:Around) (i:Nat) (s:Shared) (Q:Value→Shared→Prop) (E:Value→Shared→Prop),tn i s.heap→Q (.ref it) s→wpAny (model P w) A (pyIter (.ref it)) Q E s
abbrev TI:=St→Hp→(It→Hp→Prop)→Prop
def PIE (X:Cx) (pins:List (Addr×Obj)) (σ:St) (tg:Expr) (R:It→Hp→Prop) (itv:Value) (s2:Shared):Prop :=
 ∃ (it:Addr) (fp:List Addr) (tn:Nat→Heap→Prop) (J:It) (H':Hp),itv = .ref it∧Inv X pins σ H' s2∧Turn X.prog X.w X.K tg J fp it tn∧tn 0 s2.heap∧(∀ b∈fp,FpOk X pins H' b)∧R J H'
def PI (X:Cx) (tg iter:Expr) (wi:TI):Prop :=
 ∀ (pins:List (Addr×Obj)) (s:Shared) (σ:St) (H:Hp) (R:It→Hp→Prop),Inv X pins σ H s→wi σ H R →
  wpAny (model X.prog X.w) X.A (eval iter X.env) (fun v s1=>wpAny (model X.prog X.w) X.A (pyIter v) (PIE X pins σ tg R) X.xe s1) X.xe s
theorem QjT {M:Model} {A:Around} {E:Value→Shared→Prop} {s:Shared} {tg:Expr} {it:Addr} {u:Value} {o:Obj} {n:String} {vs:Array Value} {Q:Unit→Shared→Prop} (ho:s.heap.get? it=some o) (hc:o.cls = .type n) (hd:o.data = .fields vs)
    (hn:["enumerate","zip","dict_itemiterator","dict_reverseitemiterator","odict_iterator","itertools.zip_longest","itertools.pairwise"].contains n=false) (hQ:Q () s):wpAny M A (letOwnedTupleGo tg (.ref it) u) Q E s:=by
  unfold letOwnedTupleGo
  cases tg <;> first
    | exact wpAny_pure hQ
    | (cases u <;> first
        | exact wpAny_pure hQ
        | (refine wpAny_bind (wpAny_load ho ?_)
           rw [hc,hd]
           show wpAny M A (if (["enumerate","zip","dict_itemiterator","dict_reverseitemiterator","odict_iterator","itertools.zip_longest","itertools.pairwise"].contains n&&vs[0]?==some (rawInt _))=true then _ else _) Q E s
           rw [if_neg (by intro h;rw [hn,Bool.false_and] at h;cases h)]
           exact wpAny_pure hQ))
def Itl (K:PySem.W.Frag) (a:Addr):It :=
 ⟨fun i H=>∃ xs x,SqL K H a xs∧xs[i]?=some x,fun i H x H'=>H'=H∧∀ xs,SqL K H a xs→xs[i]?=some x,fun i H=>∃ xs,SqL K H a xs∧xs.length≤i⟩
def Itt (K:PySem.W.Frag) (a:Addr):It :=
 ⟨fun i H=>∃ xs x,SqT K H a xs∧xs[i]?=some x,fun i H x H'=>H'=H∧∀ xs,SqT K H a xs→xs[i]?=some x,fun i H=>∃ xs,SqT K H a xs∧xs.length≤i⟩
def Itr (lo:Int) (n:Nat):It:=⟨fun i _=>i < n,fun i H x H'=>H'=H∧x = .int (lo + i),fun i _=>n≤i⟩
theorem Qly {P:Program} {w:World} {K:PySem.W.Frag} {tg:Expr} (a it:Addr):Turn P w K tg (Itl K a) [it] it (fun i h=>h.IsListIter it a i) where
 mem:=by simp
 obj:=fun i h st b hb=>by
  have e:b=it:=by simpa using hb
  subst e
  obtain ⟨o,e,c,d⟩:=st
  exact ⟨o,e,fun v z=>by rw [d] at z;cases z⟩
 keep:=fun i h h' st k=>st.at fun o e=>k it (by simp) o e
 item:=by
  intro X hP hw hK hc i pins s σ H E I hf st hg
  subst hP hw hK
  obtain ⟨xs,x,hq,hx⟩:=hg
  obtain ⟨its,rv,p,hz⟩:=I.list hq
  obtain ⟨u,hu,ru⟩:=rv.get hx
  obtain ⟨f0,f1,f2,f3,f4,f5⟩:=hf it (by simp)
  refine wpAny_pyNext_list_item st p.isList (x:=u) (by simpa using hu) fun h' st' sb => ?_
  have I1:Inv X pins σ H { s with heap:=h' }:=I.turned (t':=s.toks) (fun b o hb e=>(sb.2 b hb).trans e) f0 f1 f3 f4 f5
  obtain ⟨o,e,c,d⟩:=id st'
  exact ⟨u,rfl,QjT (s:={ s with heap:=h' }) e c d (by decide) ⟨x,H,I1,ru,⟨rfl,fun ys hy=>by rw [I.list_inj hy hq];exact hx⟩,st',fun b hb=>(hf b hb).1⟩⟩
 done:=by
  intro X hP hw hK hc i pins s σ H E I hf st hg
  subst hP hw hK
  obtain ⟨xs,hq,hx⟩:=hg
  obtain ⟨its,rv,p,hz⟩:=I.list hq
  obtain ⟨f0,f1,f2,f3,f4,f5⟩:=hf it (by simp)
  have hl:=rv.length
  exact wpAny_pyNext_list_end (I.ok.hd hc) st p.isList (by simp;omega) fun h' eb=>⟨rfl,I.turned (t':=s.toks) (fun b o hb e=>eb b o hb e) f0 f1 f3 f4 f5⟩
 self:=fun _ _ _ _ _ st h=>wpAny_pyIter_listiter st h
theorem Qjh {P:Program} {w:World} {K:PySem.W.Frag} {tg:Expr} (a it:Addr):Turn P w K tg (Itt K a) [it] it (fun i h=>h.IsTupleIter it a i) where
 mem:=by simp
 obj:=fun i h st b hb=>by
  have e:b=it:=by simpa using hb
  subst e
  obtain ⟨o,e,c,d⟩:=st
  exact ⟨o,e,fun v z=>by rw [d] at z;cases z⟩
 keep:=fun i h h' st k=>st.at fun o e=>k it (by simp) o e
 item:=by
  intro X hP hw hK hc i pins s σ H E I hf st hg
  subst hP hw hK
  obtain ⟨xs,x,hq,hx⟩:=hg
  obtain ⟨its,rv,p,hz⟩:=I.tuple hq
  obtain ⟨u,hu,ru⟩:=rv.get hx
  obtain ⟨f0,f1,f2,f3,f4,f5⟩:=hf it (by simp)
  refine wpAny_pyNext_tuple_item st (show s.heap.IsTuple a its.toArray from p) (x:=u) (by simpa using hu) fun h' st' sb => ?_
  have I1:Inv X pins σ H { s with heap:=h' }:=I.turned (t':=s.toks) (fun b o hb e=>(sb.2 b hb).trans e) f0 f1 f3 f4 f5
  obtain ⟨o,e,c,d⟩:=id st'
  exact ⟨u,rfl,QjT (s:={ s with heap:=h' }) e c d (by decide) ⟨x,H,I1,ru,⟨rfl,fun ys hy=>by rw [I.tuple_inj hy hq];exact hx⟩,st',fun b hb=>(hf b hb).1⟩⟩
 done:=by
  intro X hP hw hK hc i pins s σ H E I hf st hg
  subst hP hw hK
  obtain ⟨xs,hq,hx⟩:=hg
  obtain ⟨its,rv,p,hz⟩:=I.tuple hq
  obtain ⟨f0,f1,f2,f3,f4,f5⟩:=hf it (by simp)
  have hl:=rv.length
  exact wpAny_pyNext_tuple_end (I.ok.hd hc) st (show s.heap.IsTuple a its.toArray from p) (by simp;omega) fun h' eb=>⟨rfl,I.turned (t':=s.toks) (fun b o hb e=>eb b o hb e) f0 f1 f3 f4 f5⟩
 self:=fun _ _ _ _ _ st h=>wpAny_pyIter_tupleiter st h
theorem Qji {P:Program} {w:World} {K:PySem.W.Frag} {tg:Expr} (it:Addr) (lo:Int) (n:Nat):Turn P w K tg (Itr lo n) [it] it (fun i h=>IsRangeIter h it (lo + (i:Nat) * 1) ((n:Int) - (i:Nat)) 1) where
 mem:=by simp
 obj:=fun i h st b hb=>by
  have e:b=it:=by simpa using hb
  subst e
  exact ⟨_,st,fun v z=>by
   have z':Data.fields _=Data.cell v:=z
   cases z'⟩
 keep:=fun i h h' st k=>k it (by simp) _ st
 item:=by
  intro X hP hw hK hc i pins s σ H E I hf st hg
  subst hP hw hK
  obtain ⟨f0,f1,f2,f3,f4,f5⟩:=hf it (by simp)
  have W:=Walks.range (prog:=X.prog) (w:=X.w) (I.ok.hd hc) it lo 1 n
  refine W.item i s _ _ hg st fun v h' tk hv st' kk => ?_
  obtain ⟨t,rfl⟩:=hv
  have I1:Inv X pins σ H { s with heap:=h',toks:=tk }:=I.turned (fun b o hb e=>kk b o (by simpa using hb) e) f0 f1 f3 f4 f5
  refine ⟨_,rfl,QjT (s:={ s with heap:=h',toks:=tk }) (n := "range_iterator") st' rfl rfl (by decide) ⟨.int (lo + i),H,I1,⟨t,?_⟩,⟨rfl,rfl⟩,st',fun b hb=>(hf b hb).1⟩⟩
  rw [Int.mul_one]
 done:=by
  intro X hP hw hK hc i pins s σ H E I hf st hg
  subst hP hw hK
  obtain ⟨f0,f1,f2,f3,f4,f5⟩:=hf it (by simp)
  exact wpAny_pyNext_range_end (I.ok.hd hc) st (by have:n≤i:=hg;omega) fun h' eb=>⟨rfl,I.turned (t':=s.toks) (fun b o hb e=>eb b o hb e) f0 f1 f3 f4 f5⟩
 self:=fun _ _ _ _ _ st h=>wpAny_pyIter_rangeiter st h
section
variable {X:Cx} {tg:Expr}
def iList (K:PySem.W.Frag) (tl:TE):TI:=fun σ H R=>tl σ H fun x H1=>∃ a,x = .ref a∧(∃ xs,SqL K H1 a xs)∧R (Itl K a) H1
def iTup (K:PySem.W.Frag) (tl:TE):TI:=fun σ H R=>tl σ H fun x H1=>∃ a,x = .ref a∧(∃ xs,SqT K H1 a xs)∧R (Itt K a) H1
theorem pi_list {l:Expr} {tl:TE} (hl:PE X l tl):PI X tg l (iList X.K tl):=by
 intro pins s σ H R I h
 refine thn (hl pins s σ H _ I h) fun v s1 ⟨x,H1,I1,r1,q1⟩ => ?_
 obtain ⟨a,e,⟨xs,hq⟩,q⟩:=q1
 subst e
 cases r1
 obtain ⟨its,rv,p,hz⟩:=I1.list hq
 refine wpAny_pyIter_list p.isList ?_
 refine ⟨s1.heap.objs.size,[s1.heap.objs.size],_,_,H1,rfl,I1.kept (t':=s1.toks) fun b o e=>Heap.get?_push_of_some _ e,Qly a _,⟨_,Heap.get?_push_size _ rfl,rfl,rfl⟩,fun b hb => ?_,q⟩
 have e:b=s1.heap.objs.size:=by simpa using hb
 subst e
 exact I1.fpOk (Nat.le_refl _) (I1.hok.fresh (Nat.le_refl _))
theorem pi_tup {l:Expr} {tl:TE} (hl:PE X l tl):PI X tg l (iTup X.K tl):=by
 intro pins s σ H R I h
 refine thn (hl pins s σ H _ I h) fun v s1 ⟨x,H1,I1,r1,q1⟩ => ?_
 obtain ⟨a,e,⟨xs,hq⟩,q⟩:=q1
 subst e
 cases r1
 obtain ⟨its,rv,p,hz⟩:=I1.tuple hq
 refine wpAny_pyIter_tuple (show s1.heap.IsTuple a its.toArray from p) ?_
 refine ⟨s1.heap.objs.size,[s1.heap.objs.size],_,_,H1,rfl,I1.kept (t':=s1.toks) fun b o e=>Heap.get?_push_of_some _ e,Qjh a _,⟨_,Heap.get?_push_size _ rfl,rfl,rfl⟩,fun b hb => ?_,q⟩
 have e:b=s1.heap.objs.size:=by simpa using hb
 subst e
 exact I1.fpOk (Nat.le_refl _) (I1.hok.fresh (Nat.le_refl _))
theorem range_it {pins:List (Addr×Obj)} {σ:St} {H:Hp} {s:Shared} {R:It→Hp→Prop} {E:Value→Shared→Prop} {lo hi:Int} {t u v:Tok} {tk:Nat} (I:Inv X pins σ H s) (h1 : -(2 ^ 62)≤lo) (h2:lo < 2 ^ 62) (h3 : -(2 ^ 62)≤hi) (h4:hi < 2 ^ 62)
  (q:R (Itr lo (hi - lo).toNat) H):wpAny (model X.prog X.w) X.A (pyIter (.ref s.heap.objs.size)) (PIE X pins σ tg R) E { s with heap:=s.heap.push { cls := .type "range",data := .fields #[.int lo t,.int hi u,.int 1 v] },toks:=tk }:=by
 refine wpAny_pyIter_range (IsRange.new ..) (small_one h1 h2 h3 h4) ?_
 have I1:Inv X pins σ H { s with heap:=s.heap.push { cls := .type "range",data := .fields #[.int lo t,.int hi u,.int 1 v] },toks:=tk }:=I.kept fun b o e=>Heap.get?_push_of_some _ e
 refine ⟨(s.heap.push { cls := .type "range",data := .fields #[.int lo t,.int hi u,.int 1 v] }).objs.size,[(s.heap.push { cls := .type "range",data := .fields #[.int lo t,.int hi u,.int 1 v] }).objs.size],_,_,H,rfl,
  I1.kept (t':=tk) fun b o e=>Heap.get?_push_of_some _ e,Qji _ lo (hi - lo).toNat,?_,fun b hb => ?_,q⟩
 ·have e1:lo + ((0:Nat):Int) * 1=lo:=by simp
  have e2:(((hi - lo).toNat:Nat):Int) - ((0:Nat):Int)=Builtin.Range.rangeSize lo hi 1:=by rw [rangeSize_one];split <;> omega
  show IsRangeIter _ _ (lo + ((0:Nat):Int) * 1) ((((hi - lo).toNat:Nat):Int) - ((0:Nat):Int)) 1
  rw [e1,e2]
  exact Heap.get?_push_size _ rfl
 ·have e:b=(s.heap.push { cls := .type "range",data := .fields #[.int lo t,.int hi u,.int 1 v] }).objs.size:=by simpa using hb
  subst e
  exact I1.fpOk (Nat.le_refl _) (I1.hok.fresh (Nat.le_refl _))
def iRng1 (ta:TA):TI:=fun σ H R=>ta σ H fun vs H1=>∃ j:Int,vs=[.int j] ∧ -(2 ^ 62)≤j∧j < 2 ^ 62∧R (Itr 0 j.toNat) H1
theorem QlL {a:Expr} {ta:TA} {p pos:Pos} (hg:Gl X "range") (hm:X.mg "range"=none) (ha:PA X [a] ta) (hs:starEach [a] X.env=[(false,eval a X.env)]:=by rfl):PI X tg (.Call (.Name "range" p) [a] [] pos) (iRng1 ta):=by
 intro pins s σ H R I h
 refine Call_ (QfJ I hg hm boot_range (PyProof.Rows.callWith_type1 (thn (ha pos pins s σ H _ I h) fun us s1 ⟨vs,H1,I1,r1,q1⟩ => ?_) hs rfl))
 obtain ⟨j,e,q1,q2,q⟩:=q1
 subst e
 cases r1 with
 | cons r rr =>
  cases rr
  obtain ⟨t,rfl⟩:=r
  exact call_range_1 (range_it I1 (by omega) (by omega) q1 q2 (by simpa using q))
def tFor (wi:TI) (g:TG) (tb:TS):TS:=fun D σ H=>wi σ H fun J H1=>∃ W:Nat→Nat→St→Hp→Prop,(∃ m,W 0 m σ H1)∧∀ i m σ H,W i m σ H →
 (J.stop i H∧D.nx σ H)∨(J.go i H∧∃ N:St→Hp→Prop,(∀ σ' H',N σ' H'→∃ m',m' < m∧W (i + 1) m' σ' H')∧∀ x H',J.yld i H x H'→g x σ H' fun σ2 H2=>tb { D with nx:=N,ct:=N,bk:=D.nx } σ2 H2)
def QfB (fp:List Addr) (h:Heap):List (Addr×Obj):=fp.filterMap fun b=>(h.get? b).map fun o=>(b,o)
theorem QaM {fp:List Addr} {h:Heap} {b:Addr} {o:Obj} (hb:b∈fp) (e:h.get? b=some o):(b,o)∈QfB fp h:=List.mem_filterMap.mpr ⟨b,hb,by rw [e];rfl⟩
theorem QlS {fp:List Addr} {h:Heap} {p:Addr×Obj} (hp:p∈QfB fp h):p.1∈fp∧h.get? p.1=some p.2:=by
 obtain ⟨b,hb,e⟩:=List.mem_filterMap.mp hp
 cases q:h.get? b with
 | none=>rw [q] at e;cases e
 | some o =>
  rw [q] at e
  have e':(b,o)=p:=Option.some.inj e
  subst e'
  exact ⟨hb,q⟩
theorem Inv.pinned {pins:List (Addr×Obj)} {σ:St} {H:Hp} {s:Shared} {fp:List Addr} (I:Inv X pins σ H s) (hf:∀ b∈fp,FpOk X pins H b) (ho:∀ b∈fp,∃ o,s.heap.get? b=some o∧∀ v,o.data ≠ .cell v):Inv X (pins++QfB fp s.heap) σ H s :=
 I.pins_of fun p hp=>(List.mem_append.mp hp).elim (fun z=>I.pin p (List.mem_append_right _ z)) fun z=>by
  obtain ⟨hb,e⟩:=QlS z
  obtain ⟨f0,f1,f2,_⟩:=hf p.1 hb
  obtain ⟨o,e',d⟩:=ho p.1 hb
  rw [e] at e';cases e'
  exact ⟨e,f0,f1,f2,d⟩
theorem Inv.unpinned {pins pl:List (Addr×Obj)} {σ:St} {H:Hp} {s:Shared} (I:Inv X (pins++pl) σ H s):Inv X pins σ H s:=I.pins_of fun p hp=>I.pin p (List.mem_append_right _ (List.mem_append_left _ hp))
theorem ps_for {iter:Expr} {body:List Stmt} {wi:TI} {g:TG} {tb:TS} {pos:Pos} (hp:PassesOwn (model X.prog X.w) X.A X.env X.xe) (hc:X.calm=true) (hi:PI X tg iter wi) (hg:PG X tg g) (hb:PSs X body tb)
  (hs:∀ x,foldedSetIterable iter X.env x=pure x:=by intro _;rfl):PS X (.For tg iter body [] pos) (tFor wi g tb):=by
 intro pins s σ H D I h
 refine wpAny_For (thn (hi pins s σ H _ I h) fun v s1 h1=>thn h1 fun itv s2 h2 => ?_) hs
 obtain ⟨it,fp,tn,J,H2,e,I2,T,st2,f2,W,⟨m0,w0⟩,turn⟩:=h2
 subst e
 -- what stays true of the iterator's objects through the loop
 have stat:∀ {H':Hp},(∀ b∈fp,H' b=none)→∀ b∈fp,FpOk X pins H' b:=fun hn b hb=>⟨hn b hb,(f2 b hb).2⟩
 refine codeAny_forLoop_any (fun n s'=>∃ i σ' H',Inv X pins σ' H' s'∧tn i s'.heap∧(∀ b∈fp,H' b=none)∧W i n σ' H') ?_ m0 ⟨0,σ,H2,I2,st2,fun b hb=>(f2 b hb).1,w0⟩
 rintro n s3 ⟨i,σ3,H3,I3,st3,fr3,w3⟩
 rcases turn i n σ3 H3 w3 with ⟨stop,qn⟩ | ⟨go,N,hN,step⟩
 ·refine wpAny_passesOwn hp (thn (T.done X rfl rfl rfl hc i pins s3 σ3 H3 X.xe I3 (stat fr3) st3 stop) fun r s4 ⟨hr,I4⟩ => ?_)
  subst hr
  exact wpAny_execs_nil ⟨σ3,H3,I4,qn⟩
 ·refine wpAny_passesOwn hp (thn (T.item X rfl rfl rfl hc i pins s3 σ3 H3 X.xe I3 (stat fr3) st3 go) fun r s4 ⟨u,hr,h4⟩ => ?_)
  subst hr
  refine wpAny_passesOwn hp (thn h4 fun _ s5 ⟨x,H5,I5,r5,y5,st5,fr5⟩ => ?_)
  have I5':=I5.pinned (stat fr5) (T.obj _ _ st5)
  refine wpAny_passesOwn hp (thn (hg _ s5 σ3 H5 x u _ I5' r5 (step x H5 y5)) fun _ s6 ⟨σ6,H6,I6,q6⟩ => ?_)
  refine wpAny_passesOwn hp (thn (hb _ s6 σ6 H6 _ I6 q6) fun f s7 q7 => ?_)
  have again:∀ {σ7:St} {H7:Hp},Inv X (pins++QfB fp s5.heap) σ7 H7 s7→N σ7 H7→∃ m,m < n∧∃ i σ' H',Inv X pins σ' H' s7∧tn i s7.heap∧(∀ b∈fp,H' b=none)∧W i m σ' H':=fun {σ7 H7} I7 n7=>by
   obtain ⟨m',hm,w7⟩:=hN σ7 H7 n7
   refine ⟨m',hm,i + 1,σ7,H7,I7.unpinned,T.keep _ _ _ st5 fun b hb o e=>(I7.pin (b,o) (List.mem_append_right _ (List.mem_append_right _ (QaM hb e)))).1,fun b hb => ?_,w7⟩
   obtain ⟨o,e,d⟩:=T.obj _ _ st5 b hb
   exact (I7.pin (b,o) (List.mem_append_right _ (List.mem_append_right _ (QaM hb e)))).2.1
  cases f with
  | next=>obtain ⟨σ7,H7,I7,n7⟩:=q7;exact again I7 n7
  | cont=>obtain ⟨σ7,H7,I7,n7⟩:=q7;exact again I7 n7
  | brk=>obtain ⟨σ7,H7,I7,q7⟩:=q7;exact ⟨σ7,H7,I7.unpinned,q7⟩
  | ret v=>obtain ⟨x7,σ7,H7,I7,r7,q7⟩:=q7;exact ⟨x7,σ7,H7,I7.unpinned,r7,q7⟩
end
abbrev R2:=V→V→Hp→VK→Prop
def OpR (X:Cx) (f:Value→Value→Sem Value) (r:R2):Prop :=
 ∀ (pins:List (Addr×Obj)) (s:Shared) (σ:St) (H:Hp) (x y:V) (v u:Value) (Q:VK),Inv X pins σ H s→RelV x v→RelV y u→r x y H Q →
  wpAny (model X.prog X.w) X.A (f v u) (EP X pins σ Q) X.xe s
def UnR (X:Cx) (f:Value→Sem Value) (r:V→Hp→VK→Prop):Prop :=
 ∀ (pins:List (Addr×Obj)) (s:Shared) (σ:St) (H:Hp) (x:V) (v:Value) (Q:VK),Inv X pins σ H s→RelV x v→r x H Q →
  wpAny (model X.prog X.w) X.A (f v) (EP X pins σ Q) X.xe s
def QaR (X:Cx) (f:Value) (r:List V→Hp→VK→Prop):Prop :=
 ∀ (pins:List (Addr×Obj)) (s:Shared) (σ:St) (H:Hp) (xs:List V) (us:List Value) (Q:VK),Inv X pins σ H s→Vals xs us→r xs H Q →
  wpAny (model X.prog X.w) X.A (call f us) (EP X pins σ Q) X.xe s
def TruR (X:Cx) (r:V→Hp→(Bool→Hp→Prop)→Prop):Prop :=
 ∀ (pins:List (Addr×Obj)) (s:Shared) (σ:St) (H:Hp) (x:V) (v:Value) (Q:Bool→Hp→Prop),Inv X pins σ H s→RelV x v→r x H Q →
  wpAny (model X.prog X.w) X.A (truthy v) (TP X pins σ Q) X.xe s
def tOp (r:R2) (ta tb:TE):TE:=fun σ H Q=>ta σ H fun x H1=>tb σ H1 fun y H2=>r x y H2 Q
def tUn (r:V→Hp→VK→Prop) (ta:TE):TE:=fun σ H Q=>ta σ H fun x H1=>r x H1 Q
def rI (C:Int→Int→Prop) (g:Int→Int→V):R2:=fun x y H Q=>∃ i j,x = .int i∧y = .int j∧C i j∧Q (g i j) H
def rI0 (g:Int→Int→V):R2:=fun x y H Q=>∃ i j,x = .int i∧y = .int j∧Q (g i j) H
def rU (g:Int→V):V→Hp→VK→Prop:=fun x H Q=>∃ i,x = .int i∧Q (g i) H
section
variable {X:Cx} {a b c:Expr} {ta tb tc:TE} {pos:Pos}
theorem binT (ha:PE X a ta) (hb:PE X b tb) {pins:List (Addr×Obj)} {s:Shared} {σ:St} {H:Hp} {R:V→V→Hp→Prop} (I:Inv X pins σ H s)
  (h:ta σ H fun x H1=>tb σ H1 fun y H2=>R x y H2) {Q:Value→Shared→Prop} {f:Value→Value→Sem Value}
  (hf:∀ v u s2 x y H2,Inv X pins σ H2 s2→RelV x v→RelV y u→R x y H2→wpAny (model X.prog X.w) X.A (f v u) Q X.xe s2) :
  wpAny (model X.prog X.w) X.A (eval a X.env) (fun v s₁=>wpAny (model X.prog X.w) X.A (eval b X.env) (fun u s₂=>wpAny (model X.prog X.w) X.A (f v u) Q X.xe s₂) X.xe s₁) X.xe s:=by
 refine thn (ha pins s σ H _ I h) fun v s1 ⟨x,H1,I1,r1,q1⟩ => ?_
 refine thn (hb pins s1 σ H1 _ I1 q1) fun u s2 ⟨y,H2,I2,r2,q2⟩ => ?_
 exact hf v u s2 x y H2 I2 r1 r2 q2
theorem pe_op {op:Operator} {r:R2} (ho:OpR X (binaryOp op) r) (ha:PE X a ta) (hb:PE X b tb):PE X (.BinOp a op b pos) (tOp r ta tb):=by
 intro pins s σ H Q I h
 exact wpAny_BinOp (binT ha hb I h fun v u s2 x y H2 I2 rx ry q=>ho pins s2 σ H2 x y v u Q I2 rx ry q)
theorem pe_un {op:UnaryOp} {r:V→Hp→VK→Prop} (ho:UnR X (unaryOp op) r) (ha:PE X a ta):PE X (.UnaryOp op a pos) (tUn r ta):=by
 intro pins s σ H Q I h
 exact UnaryOp_ (thn (ha pins s σ H _ I h) fun v s1 ⟨x,H1,I1,r1,q1⟩=>ho pins s1 σ H1 x v Q I1 r1 q1)
theorem opI {f:Value→Value→Sem Value} {C:Int→Int→Prop} {g:Int→Int→Int}
  (rule:∀ (i j:Int) (t u:Tok) (s:Shared) (Q:Value→Shared→Prop) (E:Value→Shared→Prop),C i j→Q (.int (g i j) s.toks) { s with toks:=s.toks + 1 }→wpAny (model X.prog X.w) X.A (f (.int i t) (.int j u)) Q E s) :
  OpR X f (rI C fun i j => .int (g i j)):=by
 intro pins s σ H x y v u Q I rx ry h
 obtain ⟨i,j,rfl,rfl,hc,q⟩:=h
 obtain ⟨t,rfl⟩:=rx
 obtain ⟨t',rfl⟩:=ry
 exact rule i j t t' s _ _ hc ⟨.int (g i j),H,I.tok _,⟨_,rfl⟩,q⟩
theorem opI0 {f:Value→Value→Sem Value} {g:Int→Int→Int}
  (rule:∀ (i j:Int) (t u:Tok) (s:Shared) (Q:Value→Shared→Prop) (E:Value→Shared→Prop),Q (.int (g i j) s.toks) { s with toks:=s.toks + 1 }→wpAny (model X.prog X.w) X.A (f (.int i t) (.int j u)) Q E s) :
  OpR X f (rI0 fun i j => .int (g i j)):=by
 intro pins s σ H x y v u Q I rx ry h
 obtain ⟨i,j,rfl,rfl,q⟩:=h
 obtain ⟨t,rfl⟩:=rx
 obtain ⟨t',rfl⟩:=ry
 exact rule i j t t' s _ _ ⟨.int (g i j),H,I.tok _,⟨_,rfl⟩,q⟩
theorem opB0 {f:Value→Value→Sem Value} {g:Int→Int→Bool}
  (rule:∀ (i j:Int) (t u:Tok) (s:Shared) (Q:Value→Shared→Prop) (E:Value→Shared→Prop),Q (.bool (g i j)) s→wpAny (model X.prog X.w) X.A (f (.int i t) (.int j u)) Q E s) :
  OpR X f (rI0 fun i j => .bl (g i j)):=by
 intro pins s σ H x y v u Q I rx ry h
 obtain ⟨i,j,rfl,rfl,q⟩:=h
 obtain ⟨t,rfl⟩:=rx
 obtain ⟨t',rfl⟩:=ry
 exact rule i j t t' s _ _ ⟨.bl (g i j),H,I,rfl,q⟩
def CPow (i j:Int):Prop:=0≤j∧j≤1000000∧i.natAbs < 2 ^ 64
def CMul (i j:Int):Prop:=(-(2 ^ 64) < i∧i < 2 ^ 64)∨(-(2 ^ 64) < j∧j < 2 ^ 64)
theorem CMul.ok {i j:Int} (h:CMul i j):IntMulOk i j:=by
 rcases h with ⟨h1,h2⟩ | ⟨h1,h2⟩
 ·exact .of_left (intBits_le_64 h1 h2)
 ·exact .of_right (intBits_le_64 h1 h2)
theorem op_add:OpR X (binaryOp .Add) (rI0 fun i j => .int (i + j)):=opI0 fun _ _ _ _ _ _ _ q=>add_int q
theorem op_sub:OpR X (binaryOp .Sub) (rI0 fun i j => .int (i - j)):=opI0 fun _ _ _ _ _ _ _ q=>sub_int q
theorem op_mul:OpR X (binaryOp .Mult) (rI CMul fun i j => .int (i * j)):=opI fun _ _ _ _ _ _ _ hc q=>mul_int q hc.ok
theorem op_mod:OpR X (binaryOp .Mod) (rI (fun _ j=>0 < j) fun i j => .int (i % j)):=opI fun i j _ _ _ _ _ hc q=>by
 have h1:(0:Int) < j:=hc
 exact mod_int' (by omega) (by rw [Int.fmod_eq_emod_of_nonneg i (by omega)];exact q)
theorem op_pow:OpR X (binaryOp .Pow) (rI CPow fun i j => .int (i ^ j.toNat)):=opI fun _ _ _ _ _ _ _ hc q=>pow_int_small hc.1 hc.2.1 hc.2.2 q
theorem unI {f:Value→Sem Value} {g:Int→Int}
  (rule:∀ (i:Int) (t:Tok) (s:Shared) (Q:Value→Shared→Prop) (E:Value→Shared→Prop),Q (.int (g i) s.toks) { s with toks:=s.toks + 1 }→wpAny (model X.prog X.w) X.A (f (.int i t)) Q E s) :
  UnR X f (rU fun i => .int (g i)):=by
 intro pins s σ H x v Q I rx h
 obtain ⟨i,rfl,q⟩:=h
 obtain ⟨t,rfl⟩:=rx
 exact rule i t s _ _ ⟨.int (g i),H,I.tok _,⟨_,rfl⟩,q⟩
theorem un_neg:UnR X (unaryOp .USub) (rU fun i => .int (-i)):=unI fun _ _ _ _ _ q=>neg_int q
theorem fin_bl {pins:List (Addr×Obj)} {σ:St} {H:Hp} {s:Shared} {Q:VK} {k k':Bool} (I:Inv X pins σ H s) (q:Q (.bl k) H) (e:k=k'):EP X pins σ Q (.bool k') s:=by
 subst e
 exact ⟨.bl k,H,I,rfl,q⟩
theorem op_lt:OpR X (compareOp .Lt) (rI0 fun i j => .bl (decide (i < j))):=opB0 fun _ _ _ _ _ _ _ q=>lt_int q
theorem op_le:OpR X (compareOp .LtE) (rI0 fun i j => .bl (decide (i≤j))):=opB0 fun _ _ _ _ _ _ _ q=>le_int q
theorem op_gt:OpR X (compareOp .Gt) (rI0 fun i j => .bl (decide (j < i))):=opB0 fun _ _ _ _ _ _ _ q=>gt_int q
theorem QlP:OpR X (compareOp .Lt) (fun x y H Q=>∃ i j,x = .str i∧y = .str j∧Q (.bl (decide (i.cps.toList < j.cps.toList))) H):=by
 intro pins s σ H x y v u Q I rx ry h
 obtain ⟨i,j,rfl,rfl,q⟩:=h
 obtain ⟨t,rfl⟩:=rx
 obtain ⟨t',rfl⟩:=ry
 exact lt_str (fin_bl I q rfl)
theorem QC (b:Expr) {op:CmpOp} (h:op ≠ .In:=by decide) (h2:op ≠ .NotIn:=by decide):behindInMarks op b=false:=by
 have e1:(op==CmpOp.In)=false:=by cases op <;> first | rfl | exact absurd rfl h
 have e2:(op==CmpOp.NotIn)=false:=by cases op <;> first | rfl | exact absurd rfl h2
 cases b <;> simp [behindInMarks,e1,e2]
theorem pe_cmpR {op:CmpOp} {r:R2} (ho:OpR X (compareOp op) r) (ha:PE X a ta) (hb:PE X b tb) (hm:behindInMarks op b=false):PE X (.Compare a [op] [b] pos) (tOp r ta tb):=by
 intro pins s σ H Q I h
 exact wpAny_Compare1 (binT ha hb I h fun v u s2 x y H2 I2 rx ry q=>ho pins s2 σ H2 x y v u Q I2 rx ry q) hm
def tTest (t:TE):TT:=fun σ H Q=>t σ H fun x H'=>∃ k,x = .bl k∧Q k H'
theorem pt_cmpR {op:CmpOp} {r:R2} (ho:OpR X (compareOp op) r) (ha:PE X a ta) (hb:PE X b tb) (hm:behindInMarks op b=false):PT X (.Compare a [op] [b] pos) (tTest (tOp r ta tb)):=by
 intro pins s σ H Q I h
 refine wpAny_isTrue_Compare1 (thn (ha pins s σ H _ I h) fun v s1 ⟨x,H1,I1,r1,q1⟩=>thn (hb pins s1 σ H1 _ I1 q1) fun u s2 ⟨y,H2,I2,r2,q2⟩ =>
  thn (ho pins s2 σ H2 x y v u _ I2 r1 r2 q2) fun c s3 ⟨z,H3,I3,r3,k,e,q3⟩ => ?_) hm
 subst e
 cases r3
 exact wpAny_truthy_bool ⟨H3,I3,q3⟩
def Qka (r r':R2) (ta tb tc:TE):TE:=fun σ H Q=>ta σ H fun x H1=>tb σ H1 fun y H2=>r x y H2 fun z H3=>∃ k,z = .bl k ∧
 (if k=true then tc σ H3 fun w' H4=>r' y w' H4 Q else Q (.bl false) H3)
theorem pe_chain {op op':CmpOp} {r r':R2} (ho:OpR X (compareOp op) r) (ho':OpR X (compareOp op') r') (ha:PE X a ta) (hb:PE X b tb) (hc:PE X c tc)
  (hm:lastMarks [op,op'] [b,c]=false:=by with_unfolding_all rfl):PE X (.Compare a [op,op'] [b,c] pos) (Qka r r' ta tb tc):=by
 intro pins s σ H Q I h
 refine Compare_chain (thn (ha pins s σ H _ I h) fun v s1 ⟨x,H1,I1,r1,q1⟩=>chain_link (thn (hb pins s1 σ H1 _ I1 q1) fun u s2 ⟨y,H2,I2,r2,q2⟩ =>
  thn (ho pins s2 σ H2 x y v u _ I2 r1 r2 q2) fun d s3 ⟨z,H3,I3,r3,k,e,q3⟩ => ?_)) hm
 subst e
 cases r3
 refine wpAny_truthy_bool ?_
 cases k with
 | false=>exact ite_ff ⟨.bl false,H3,I3,rfl,q3⟩
 | true=>exact ite_tt (chain_last (thn (hc pins s3 σ H3 _ I3 q3) fun w' s4 ⟨z',H4,I4,r4,q4⟩=>ho' pins s4 σ H4 y z' u w' Q I4 r2 r4 q4))
theorem pt_chain {op op':CmpOp} {r r':R2} (ho:OpR X (compareOp op) r) (ho':OpR X (compareOp op') r') (ha:PE X a ta) (hb:PE X b tb) (hc:PE X c tc)
  (hm:lastMarks [op,op'] [b,c]=false:=by with_unfolding_all rfl):PT X (.Compare a [op,op'] [b,c] pos) (tTest (Qka r r' ta tb tc)):=by
 intro pins s σ H Q I h
 refine isTrue_chain (thn (ha pins s σ H _ I h) fun v s1 ⟨x,H1,I1,r1,q1⟩=>test_link (thn (hb pins s1 σ H1 _ I1 q1) fun u s2 ⟨y,H2,I2,r2,q2⟩ =>
  thn (ho pins s2 σ H2 x y v u _ I2 r1 r2 q2) fun d s3 ⟨z,H3,I3,r3,k,e,q3⟩ => ?_)) hm
 subst e
 cases r3
 refine wpAny_truthy_bool ?_
 cases k with
 | false =>
  obtain ⟨k',e',q'⟩:=q3
  cases e'
  exact ite_ff ⟨H3,I3,q'⟩
 | true =>
  refine ite_tt (test_last (thn (hc pins s3 σ H3 _ I3 q3) fun w' s4 ⟨z',H4,I4,r4,q4⟩=>thn (ho' pins s4 σ H4 y z' u w' _ I4 r2 r4 q4) fun d' s5 ⟨z2,H5,I5,r5,k2,e2,q5⟩ => ?_))
  subst e2
  cases r5
  exact wpAny_truthy_bool ⟨H5,I5,q5⟩
def TruV (K:PySem.W.Frag) (x:V) (H:Hp) (k:Bool):Prop :=
 match x with
 | .non=>k=false
 | .bl b=>k=b
 | .int i=>k=(i != 0)
 | .str y=>y.length≤sizeLine∧k=((y.length:Int) != 0)
 | .byt y=>y.size≤sizeLine∧k=((y.size:Int) != 0)
 | .ref p=>(∃ xs,SqL K H p xs∧k = !xs.isEmpty)∨(∃ xs,SqT K H p xs∧k = !xs.isEmpty)∨∃ kvs,H p=some (.dK kvs)∧k = !kvs.isEmpty
 | _=>False
theorem Qjx {κ:Type} {kvs:List (κ×V)} {vs:List (κ×Value)} (r:KV kvs vs):(!vs.isEmpty) = !kvs.isEmpty:=by
 cases r <;> rfl
theorem Qew {xs:List V} {its:List Value} (r:Vals xs its):(!its.toArray.isEmpty) = !xs.isEmpty:=by
 cases r <;> simp
theorem Qeh:(sizeLine:Nat) < 2 ^ 63:=by rw [sizeLine_eq];decide
theorem tru_ok:TruR X (fun x H Q=>∃ k,TruV X.K x H k∧Q k H):=by
 intro pins s σ H x v Q I rx h
 obtain ⟨k,e,q⟩:=h
 have hl:=Qeh
 have hs:sizeLine=16777216:=sizeLine_eq
 cases x with
 | non =>
  cases rx
  have e':k=false:=e
  subst e'
  exact truthy_none ⟨H,I,q⟩
 | bl b =>
  cases rx
  have e':k=b:=e
  subst e'
  exact wpAny_truthy_bool ⟨H,I,q⟩
 | int i =>
  obtain ⟨t,rfl⟩:=rx
  have e':k=(i != 0):=e
  subst e'
  exact PySem.P.truthy_int ⟨H,I,q⟩
 | str y =>
  obtain ⟨t,rfl⟩:=rx
  obtain ⟨hy,e'⟩:y.length≤sizeLine∧k=((y.length:Int) != 0):=e
  subst e'
  exact PySem.P.truthy_str (by omega) ⟨H,I.tok _,q⟩
 | byt y =>
  obtain ⟨t,rfl⟩:=rx
  obtain ⟨hy,e'⟩:y.size≤sizeLine∧k=((y.size:Int) != 0):=e
  subst e'
  exact PySem.W.truthy_bytes (by omega) ⟨H,I.tok _,q⟩
 | ref p =>
  cases rx
  have e':(∃ xs,SqL X.K H p xs∧k = !xs.isEmpty)∨(∃ xs,SqT X.K H p xs∧k = !xs.isEmpty)∨∃ kvs,H p=some (.dK kvs)∧k = !kvs.isEmpty:=e
  rcases e' with ⟨xs,hx,e'⟩ | ⟨xs,hx,e'⟩ | ⟨kvs,hx,e'⟩
  ·subst e'
   obtain ⟨its,r,pl,hz⟩:=I.list hx
   have hlen:=r.length
   exact wpAny_truthy_list pl.isList (by simp only [List.size_toArray];omega) ⟨H,I.tok _,by rw [Qew r];exact q⟩
  ·subst e'
   obtain ⟨its,r,pl,hz⟩:=I.tuple hx
   have hlen:=r.length
   exact truthy_tuple pl (by simp only [List.size_toArray];omega) ⟨H,I.tok _,by rw [Qew r];exact q⟩
  ·subst e'
   obtain ⟨hz,hS,vs,r,m⟩:kvs.length≤sizeLine∧(p==sysModules)=false∧∃ vs,KV kvs vs∧s.heap.DictOf (ZQ X.prog X.w) p vs:=I.hok p _ hx
   have hlen:kvs.length=vs.length:=Paired.length r
   exact wpAny_truthy_dict hS m (by omega) ⟨H,I.tok _,by rw [Qjx r];exact q⟩
 | _=>exact (show False from e).elim
theorem pt_truth (ha:PE X a ta) (he:∀ whole,isTrue a X.env whole=(do let v ← whole;standAt a.pos;holding [v] (truthy v))) :
  PT X a (fun σ H Q=>ta σ H fun x H'=>∃ k,TruV X.K x H' k∧Q k H'):=by
 intro pins s σ H Q I h
 exact isTrue_plain (thn (ha pins s σ H _ I h) fun v s1 ⟨x,H1,I1,r1,q1⟩=>tru_ok pins s1 σ H1 x v Q I1 r1 q1) (he _)
theorem Qjn:OpR X (binaryOp .Add) (fun x y H Q=>∃ i j,x = .str i∧y = .str j∧i.length + j.length≤sizeLine∧Q (.str (i++j)) H):=by
 intro pins s σ H x y v u Q I rx ry h
 obtain ⟨i,j,rfl,rfl,hz,q⟩:=h
 obtain ⟨t,rfl⟩:=rx
 obtain ⟨t',rfl⟩:=ry
 exact add_str (fun t' tk=>⟨.str (i++j),H,I.tok _,⟨_,rfl⟩,q⟩) hz
theorem XH {x:V} {us:List Value} (r:Vals [x] us):∃ u,us=[u]∧RelV x u:=by
 cases r with
 | cons r1 r2=>cases r2;exact ⟨_,rfl,r1⟩
theorem vals2 {x y:V} {us:List Value} (r:Vals [x,y] us):∃ u w',us=[u,w']∧RelV x u∧RelV y w':=by
 cases r with
 | cons r1 r2 =>
  cases r2 with
  | cons r3 r4=>cases r4;exact ⟨_,_,rfl,r1,r3⟩
theorem Qms (hc:X.calm=true):QaR X (.builtin "min") (fun xs H Q=>∃ i j,xs=[.int i,.int j]∧Q (.int (if j < i then j else i)) H):=by
 intro pins s σ H xs us Q I r h
 obtain ⟨i,j,rfl,q⟩:=h
 obtain ⟨u,w',rfl,⟨t,rfl⟩,⟨t',rfl⟩⟩:=vals2 r
 refine min_two_ints (I.ok.hd hc) fun h' tk k=>⟨_,H,I.kept k,?_,q⟩
 by_cases hj:j < i
 ·rw [if_pos hj,if_pos hj];exact ⟨_,rfl⟩
 ·rw [if_neg hj,if_neg hj];exact ⟨_,rfl⟩
def LenV (K:PySem.W.Frag) (x:V) (H:Hp) (n:Nat):Prop :=
 match x with
 | .str y=>y.length≤sizeLine∧n=y.length
 | .byt y=>y.size≤sizeLine∧n=y.size
 | .ref p=>(∃ xs,SqL K H p xs∧n=xs.length)∨∃ xs,SqT K H p xs∧n=xs.length
 | _=>False
theorem call_len:QaR X (.builtin "len") (fun xs H Q=>∃ x n,xs=[x]∧LenV X.K x H n∧Q (.int n) H):=by
 intro pins s σ H xs us Q I r h
 obtain ⟨x,n,rfl,e,q⟩:=h
 obtain ⟨u,rfl,rx⟩:=XH r
 have hl:=Qeh
 have hs:sizeLine=16777216:=sizeLine_eq
 cases x with
 | str y =>
  obtain ⟨t,rfl⟩:=rx
  obtain ⟨hy,e'⟩:y.length≤sizeLine∧n=y.length:=e
  subst e'
  exact len_str (by omega) ⟨.int _,H,I.tok _,⟨_,rfl⟩,q⟩
 | byt y =>
  obtain ⟨t,rfl⟩:=rx
  obtain ⟨hy,e'⟩:y.size≤sizeLine∧n=y.size:=e
  subst e'
  exact PySem.W.len_bytes (by omega) ⟨.int _,H,I.tok _,⟨_,rfl⟩,q⟩
 | ref p =>
  cases rx
  have e':(∃ xs,SqL X.K H p xs∧n=xs.length)∨∃ xs,SqT X.K H p xs∧n=xs.length:=e
  rcases e' with ⟨xs,hx,e'⟩ | ⟨xs,hx,e'⟩
  ·subst e'
   obtain ⟨its,r',pl,hz⟩:=I.list hx
   have hlen:=r'.length
   exact Calls.call_len_list pl.isList (by simp only [List.size_toArray];omega) ⟨.int xs.length,H,I.tok _,⟨_,by simp only [List.size_toArray];rw [hlen]⟩,q⟩
  ·subst e'
   obtain ⟨its,r',pl,hz⟩:=I.tuple hx
   have hlen:=r'.length
   exact len_tuple pl (by simp only [List.size_toArray];omega) ⟨.int xs.length,H,I.tok _,⟨_,by simp only [List.size_toArray];rw [hlen]⟩,q⟩
 | _=>exact (show False from e).elim
end
theorem RelO.some_of {v:V} {o:Option Value} (r:RelO (some v) o):∃ u,o=some u∧RelV v u:=by
 cases o with
 | none=>exact (show False from r).elim
 | some u=>exact ⟨u,rfl,r⟩
structure Room (k:Nat) (A:Around):Prop where
 hd:A.handled=none
 dp:A.depth + 3 * k + 5 < recursionLimit
 un:A.units + 16 * k + 200 < cLine
theorem Room.mono {j k:Nat} {A:Around} (r:Room k A) (h:j≤k):Room j A:=⟨r.hd,by have:=r.dp;omega,by have:=r.un;omega⟩
theorem Room.deeper {k:Nat} {A:Around} (r:Room (k + 1) A) (env:Env):Room k (A.deeper env) :=
 ⟨r.hd,by have:=r.dp;show A.depth + 1 + 3 * k + 5 < _;omega,by have:=r.un;show A.units + 3 + 16 * k + 200 < _;omega⟩
theorem Room.depth {k:Nat} {A:Around} (r:Room k A):A.depth < recursionLimit:=by have:=r.dp;omega
theorem Room.units {k:Nat} {A:Around} (r:Room k A):A.units + 64 < cLine:=by have:=r.un;omega
def tNil:TA:=fun _ H Q=>Q [] H
def QjM (ta:TE) (tr:TA):TA:=fun σ H Q=>ta σ H fun x H1=>tr σ H1 fun xs H2=>Q (x :: xs) H2
section
variable {X:Cx} {e:Expr} {es:List Expr} {te:TE} {t:TA} {pos:Pos}
theorem Qef:PA X [] tNil:=fun _ _ _ _ H Q I h=>Calls.spliced_nil ⟨[],H,I,.nil,h⟩
theorem Qal (ha:PE X e te) (hr:PA X es t) (hs:starEach (e :: es) X.env=(false,eval e X.env) :: starEach es X.env:=by rfl):PA X (e :: es) (QjM te t):=by
 intro pos pins s σ H Q I h
 rw [hs]
 show wpAny _ _ (spliced ((false,eval e X.env) :: backTo pos (starEach es X.env))) _ _ s
 refine Calls.spliced_cons (thn (ha pins s σ H _ I h) fun u s1 ⟨x,H1,I1,r1,q1⟩ => ?_)
 exact thn (hr pos pins s1 σ H1 _ I1 q1) fun us s2 ⟨xs,H2,I2,r2,q2⟩=>⟨x :: xs,H2,I2,.cons r1 r2,q2⟩
def tTup (t:TA):TE:=fun σ H Q=>t σ H fun xs H1=>xs.length≤sizeLine∧∀ p,H1 p=none→Q (.ref p) (upd H1 p (.tup xs))
def tLst (t:TA):TE:=fun σ H Q=>t σ H fun xs H1=>xs.length≤sizeLine∧∀ p,H1 p=none→Q (.ref p) (upd H1 p (.lst xs))
theorem pe_tup {x1} (h:PA X es t):PE X (.Tuple es x1 pos) (tTup t):=by
 intro pins s σ H Q I hq
 refine wpAny_Tuple_spliced (thn (h pos pins s σ H _ I hq) fun us s1 ⟨xs,H1,I1,r,z,q⟩=>⟨by rw [← r.length];exact z,?_⟩)
 have hf:H1 s1.heap.objs.size=none:=I1.hok.fresh (Nat.le_refl _)
 refine ⟨.ref s1.heap.objs.size,upd H1 s1.heap.objs.size (.tup xs),I1.laid (t':=s1.toks) (fun b u e=>Heap.get?_push_of_some _ e) (Nat.le_refl _) ?_,rfl,q _ hf⟩
 exact ⟨z,us,r,⟨_,Heap.get?_push_size _ rfl,rfl,.inl rfl,_,rfl⟩⟩
theorem pe_lst (h:PA X es t):PE X (.List es pos) (tLst t):=by
 intro pins s σ H Q I hq
 refine wpAny_List_spliced (thn (h pos pins s σ H _ I hq) fun us s1 ⟨xs,H1,I1,r,z,q⟩=>⟨by rw [← r.length];exact z,?_⟩)
 have hf:H1 s1.heap.objs.size=none:=I1.hok.fresh (Nat.le_refl _)
 refine ⟨.ref s1.heap.objs.size,upd H1 s1.heap.objs.size (.lst xs),I1.laid (t':=s1.toks) (fun b u e=>Heap.get?_push_of_some _ e) (Nat.le_refl _) ?_,rfl,q _ hf⟩
 exact ⟨z,us,0,r,Heap.get?_push_size _ rfl⟩
end
abbrev Sp:=List V→Hp→VK→XK→Prop
abbrev CXT:=List Env→Hp→Shared→XK→Value→Shared→Prop
structure Env0 (P:Program) (w:World) (K:PySem.W.Frag) (mg:Str→Option Value) (base:Heap) (A:Around) (outer:List Env) (s:Shared) (H:Hp):Prop where
 frames:A.frames=some outer
 mod:Mod K mg base
 bs:∀ b o,base.get? b=some o→s.heap.get? b=some o∧H b=none
 bsz:base.objs.size≤s.heap.objs.size
 funs:s.heap.FunFrames base outer
 frf:∀ b∈frs outer,H b=none
 hok:HOk P w H s.heap
 bare:AllBare s.gens
def CE (outer:List Env) (P:Program) (w:World) (H:Hp) (s:Shared) (Q:VK) (u:Value) (s':Shared):Prop :=
 ∃ v H',s'.os=s.os∧AllBare s'.gens∧Un (frs outer) [] H H' s.heap s'.heap∧HOk P w H' s'.heap∧RelV v u∧Q v H'
def CR (CX:CXT) (outer:List Env) (P:Program) (w:World) (H:Hp) (s:Shared) (Q:VK) (E:XK) (r:Result) (s':Shared):Prop :=
 match r with
 | .ok (.ret u)=>CE outer P w H s Q u s'
 | .ok _=>False
 | .error e=>CX outer H s E e s'
structure FnOk (P:Program) (w:World) (K:PySem.W.Frag) (mg:Str→Option Value) (base:Heap) (CX:CXT) (k:Nat) (f:Addr) (fd:FuncData) (ps:List Str) (sp:Sp):Prop where
 len:∀ vs H Q E,sp vs H Q E→vs.length=ps.length
 run:∀ (A:Around) (outer:List Env) (s:Shared) (H:Hp) (args:Args) (us:List Value) (vs:List V) (Q:VK) (E:XK),Room k A→Env0 P w K mg base A outer s H→BindsTo s fd args (ps.zip us)→Vals vs us→sp vs H Q E →
  codeAny (model P w) A (.call (.ref f) args) (CR CX outer P w H s Q E) s
section
variable {X:Cx} {pins:List (Addr×Obj)} {σ:St} {H:Hp} {s s':Shared}
theorem Inv.env0 (I:Inv X pins σ H s):Env0 X.prog X.w X.K X.mg X.base X.A X.stack s H :=
 ⟨I.ok.frames,I.ok.mod,I.bs,Nat.le_trans I.ok.bsz I.sz,I.stack,I.stkFree,I.hok,I.bare⟩
theorem Inv.after {Q:VK} {u:Value} (I:Inv X pins σ H s) (h:CE X.stack X.prog X.w H s Q u s'):EP X pins σ Q u s':=by
 obtain ⟨v,H',os,bare,un,hok,r,q⟩:=h
 obtain ⟨hh,g,d,t,os'⟩:=s'
 obtain rfl:os'=s.os:=os
 exact ⟨v,H',I.call (h':=hh) (g':=g) (d':=d) (t':=t) (ch:=[]) un hok bare (fun b z=>absurd z (by simp)),r,q⟩
end
def tCall (sp:Sp) (dvs:List V) (E:XK) (t:TA):TE:=fun σ H Q=>t σ H fun vs H1=>sp (vs++dvs) H1 Q E
def Qbx (K:PySem.W.Frag) (fd:FuncData) (ps:List Str) (ds:List Value):Prop :=
 ∀ (s:Shared) (us:List Value),K.In s.heap→(us++ds).length=ps.length→BindsTo s fd ⟨us,[]⟩ (ps.zip (us++ds))
theorem Qbx.all {K:PySem.W.Frag} {fd:FuncData} {ps:List Str} (h:∀ us:List Value,us.length=ps.length→bindArgs fd ⟨us,[]⟩=pure (ps.zip us)):Qbx K fd ps []:=fun s us _ hl=>by
 rw [List.append_nil] at hl ⊢
 exact .of_eq (h us hl)
def Qkp (CX:CXT) (X:Cx) (E:XK):Prop:=∀ (pins:List (Addr×Obj)) (σ:St) (H:Hp) (s:Shared) (e:Value) (s':Shared),Inv X pins σ H s→CX X.stack H s E e s'→X.xe e s'
section
variable {X:Cx} {CX:CXT} {k:Nat} {f C:Addr} {fd:FuncData} {ps:List Str} {sp:Sp} {dvs:List V} {ds:List Value} {E:XK} {x m:Str} {p pos apos:Pos} {e o:Expr} {es:List Expr} {ta:TE} {t:TA}
theorem run_fn {pins:List (Addr×Obj)} {σ:St} {H:Hp} {s:Shared} {Q:VK} {us:List Value} {vs:List V} (F:FnOk X.prog X.w X.K X.mg X.base CX k f fd ps sp) (hr:Room k X.A) (hb:Qbx X.K fd ps ds) (hd:Vals dvs ds) (hx:Qkp CX X E)
  (I:Inv X pins σ H s) (r:Vals vs us) (h:sp (vs++dvs) H Q E):wpAny (model X.prog X.w) X.A (call (.ref f) us) (EP X pins σ Q) X.xe s:=by
 have r2:Vals (vs++dvs) (us++ds):=r.append hd
 have hl:(us++ds).length=ps.length:=by rw [← r2.length];exact F.len _ _ _ _ h
 refine wpAny_call (codeAny_mono (F.run X.A X.stack s H ⟨us,[]⟩ (us++ds) (vs++dvs) Q E hr I.env0 (hb s us I.kIn hl) r2 h) fun r s' hq => ?_)
 cases r with
 | error e=>exact hx pins σ H s e s' I hq
 | ok fl =>
  cases fl with
  | ret u=>exact I.after hq
  | next=>exact False.elim hq
  | brk=>exact False.elim hq
  | cont=>exact False.elim hq
theorem QkK (F:FnOk X.prog X.w X.K X.mg X.base CX k f fd ps sp) (hr:Room k X.A) (hg:Gl X x) (hm:X.mg x=some (.ref f)) (hk:PySem.W.keepIn X.K (.ref f)=true) (hb:Qbx X.K fd ps ds) (hd:Vals dvs ds) (hx:Qkp CX X E)
  (ha:PA X (e :: es) t) (hdb:(x==("__debug__":Str))=false:=by decide) (he:starEach (e :: es) X.env=(false,eval e X.env) :: starEach es X.env:=by rfl) (hpl:(backTo pos (starEach es X.env)).any (·.1)=false:=by rfl) :
  PE X (.Call (.Name x p) (e :: es) [] pos) (tCall sp dvs E t):=by
 intro pins s σ H Q I h
 refine wpAny_Call_Name_kw (QkT I hg hm ?_ hdb)
 refine PySem.W.callWith_K (h₀:=X.base) I.ok.mod.kin hk (thn (ha pos pins s σ H _ I h) fun us s1 ⟨vs,H1,I1,r,q⟩=>⟨I1.kIn,?_⟩) he hpl
 exact run_fn F hr hb hd hx I1 r q
end
structure FnScope (N P:List Str) (sc:Scope):Prop where
 kind:sc.kind = .function
 co:sc.isCoroutine=false
 gen:sc.isGenerator=false
 nd:N.Nodup
 pre:N.take P.length=P
 par:∀ x∈P,sc.names.lookup x=some .local∨sc.names.lookup x=some .cell
 nofree:∀ y∈sc.names,y.2 ≠ .free
theorem Qgu {kindOf:Str→Option NameKind} {x:Str}:∀ {binds:List (Str×Value)} {m:Str→Option Value},(∀ v,(x,v)∉binds)→bindL kindOf binds m x=m x
 | [],_,_=>rfl
 | (n,v) :: r,m,h=>by
  unfold bindL
  rw [Qgu fun w hw=>h w (List.mem_cons_of_mem _ hw)]
  split
  ·have:x≠n:=by rintro rfl;exact h v List.mem_cons_self
   simp [this]
  ·rfl
theorem Qgw {kindOf:Str→Option NameKind} {x:Str}:∀ {binds:List (Str×Value)} {m:Str→Option Value},(∀ v,(x,v)∉binds)→bindC kindOf binds m x=m x
 | [],_,_=>rfl
 | (n,v) :: r,m,h=>by
  unfold bindC
  rw [Qgw fun w hw=>h w (List.mem_cons_of_mem _ hw)]
  split
  ·rfl
  ·have:x≠n:=by rintro rfl;exact h v List.mem_cons_self
   simp [this]
theorem Qgv {kindOf:Str→Option NameKind} {x:Str} {v:Value}:∀ {P:List Str} {vs:List Value} {i:Nat} {m:Str→Option Value},P.Nodup→P[i]?=some x→vs[i]?=some v→kindOf x=some .local →
  bindL kindOf (P.zip vs) m x=some v
 | [],_,_,_,_,h,_,_=>by simp at h
 | _ :: _,[],_,_,_,_,h,_=>by simp at h
 | p :: P,w :: vs,0,m,nd,h1,h2,hk=>by
  simp at h1 h2;subst h1;subst h2
  show bindL kindOf ((p,w) :: P.zip vs) m p=_
  unfold bindL
  rw [Qgu fun v hv=>(List.nodup_cons.mp nd).1 (List.of_mem_zip hv).1,if_pos hk]
  simp
 | p :: P,w :: vs,i + 1,m,nd,h1,h2,hk=>by
  show bindL kindOf ((p,w) :: P.zip vs) m x=_
  unfold bindL
  exact Qgv (i:=i) (List.nodup_cons.mp nd).2 (by simpa using h1) (by simpa using h2) hk
theorem Qgx {kindOf:Str→Option NameKind} {x:Str} {v:Value}:∀ {P:List Str} {vs:List Value} {i:Nat} {m:Str→Option Value},P.Nodup→P[i]?=some x→vs[i]?=some v→kindOf x≠some .local →
  bindC kindOf (P.zip vs) m x=some v
 | [],_,_,_,_,h,_,_=>by simp at h
 | _ :: _,[],_,_,_,_,h,_=>by simp at h
 | p :: P,w :: vs,0,m,nd,h1,h2,hk=>by
  simp at h1 h2;subst h1;subst h2
  show bindC kindOf ((p,w) :: P.zip vs) m p=_
  unfold bindC
  rw [Qgw fun v hv=>(List.nodup_cons.mp nd).1 (List.of_mem_zip hv).1,if_neg hk]
  simp
 | p :: P,w :: vs,i + 1,m,nd,h1,h2,hk=>by
  show bindC kindOf ((p,w) :: P.zip vs) m x=_
  unfold bindC
  exact Qgx (i:=i) (List.nodup_cons.mp nd).2 (by simpa using h1) (by simpa using h2) hk
def Qaa (N:List Str) (vs:List V):St:=vs.map some++List.replicate (N.length - vs.length) none
def cxOf (CX:CXT) (P:Program) (w:World) (K:PySem.W.Frag) (mg:Str→Option Value) (base:Heap) (N:List Str) (qual:Str) (scope:Scope) (f:Addr) (cd:Value) (A:Around) (outer:List Env) (s:Shared) (H:Hp) (E:XK):Cx where
 prog:=P
 w:=w
 K:=K
 mg:=mg
 base:=base
 A:=A.deeper (envOfC qual scope s.heap.objs.size f cd)
 N:=N
 s₀:=s
 H₀:=H
 env:=envOfC qual scope s.heap.objs.size f cd
 outer:=outer
 stack:=envOfC qual scope s.heap.objs.size f cd :: outer
 ex:=[]
 calm:=true
 fn:=fun _=>true
 pn:=[]
 xe:=fun e s'=>wpAny (model P w) (A.deeper (envOfC qual scope s.heap.objs.size f cd)) (leaving (envOfC qual scope s.heap.objs.size f cd) e) (fun _ s''=>CX outer H s E e s'') (fun e' s''=>CX outer H s E e' s'') s'
theorem Qjb {sc:Scope} {n:Nat} {x:Str} (h:sc.names.lookup x=some .cell):∃ c,(cellsFrom n sc.names []).lookup x=some c:=by
 have q:=PySem.W.cellsFrom_some sc.names n [] (.inl h)
 exact Option.isSome_iff_exists.mp q
theorem Qma {CX:CXT} {P:Program} {w:World} {K:PySem.W.Frag} {mg:Str→Option Value} {base:Heap} {N ps:List Str} {qual:Str} {scope:Scope} {f:Addr} {cd:Value} {A:Around} {outer:List Env} {s s1:Shared} {H:Hp} {E:XK} {us:List Value} {vs:List V}
  (S:FnScope N ps scope) (hd:A.handled=none) (e0:Env0 P w K mg base A outer s H) (hl:vs.length=ps.length) (r:Vals vs us)
  (x:InCallC s s.heap.objs.size (bindL (envOfC qual scope s.heap.objs.size f cd).kindOf (ps.zip us) fun _=>none) (cellsFrom (s.heap.objs.size + 1) scope.names []) (bindC (envOfC qual scope s.heap.objs.size f cd).kindOf (ps.zip us) fun _=>none) s1) :
  Inv (cxOf CX P w K mg base N qual scope f cd A outer s H E) [] (Qaa N vs) H s1:=by
 have hpl:ps.length≤N.length:=by have:=congrArg List.length S.pre;rw [List.length_take] at this;omega
 obtain ⟨h1,tk,rfl,hk⟩:=x.done
 have noA:∀ b:Addr,b∉(cxOf CX P w K mg base N qual scope f cd A outer s H E).ex:=fun b z=>absurd (show b∈([]:List Addr) from z) (by simp)
 refine ⟨⟨e0.mod,S.kind,rfl,rfl,Nat.le_refl _,fun y z c h1 h2 => ?_,fun y hy => ?_,fun y c _ h => ?_,fun _=>hd,Around.frames_deeper e0.frames,.inr ⟨rfl,rfl⟩,fun b z=>absurd z (noA b),e0.bs,e0.bsz,fun b _ _=>noA b,fun b z=>absurd z (noA b),e0.funs,e0.frf⟩,
  rfl,e0.bare,Un.kept hk,⟨_,x.toInCall.ns,fun i y v h1 h2 h3 => ?_⟩,fun y c h=>⟨_,x.cell y c h⟩,e0.hok.fresh (Nat.le_refl _),fun y c h => ?_,fun p hp=>absurd (show p∈([]:List (Addr×Obj)) from hp) (by simp),e0.hok.kept hk,?_⟩
 ·exact name_of_addr x.apart (PySem.mem_of_lookup h1) (PySem.mem_of_lookup h2)
 ·have hy:scope.names.lookup y=some .cell∨scope.names.lookup y=some .free:=hy
  rcases hy with hy | hy
  ·exact Qjb hy
  ·exact absurd rfl (S.nofree _ (PySem.mem_of_lookup hy))
 ·exact Nat.le_of_lt (x.above y c (PySem.mem_of_lookup h))
 ·have hi:i < vs.length:=by
   unfold Qaa at h2
   by_cases hi:i < vs.length
   ·exact hi
   ·rw [List.getElem?_append_right (by simpa using hi)] at h2
    rw [List.getElem?_replicate] at h2
    split at h2 <;> cases h2
  have ha:vs[i]?=some v:=by
   unfold Qaa at h2
   rw [List.getElem?_append_left (by simpa using hi),List.getElem?_map] at h2
   cases e:vs[i]? with
   | none=>rw [e] at h2;cases h2
   | some a=>rw [e] at h2;cases h2;rfl
  obtain ⟨u,hu,rv⟩:=r.get ha
  have hp:ps[i]?=some y:=by
   rw [← S.pre,List.getElem?_take_of_lt (by omega)];exact h1
  have ndP:ps.Nodup:=by rw [← S.pre];exact S.nd.sublist (List.take_sublist _ _)
  refine ⟨u,rv,?_⟩
  rcases S.par y (List.mem_of_getElem? hp) with k | k
  ·exact .inl ⟨k,Qgv ndP hp hu k⟩
  ·obtain ⟨c,e⟩:=Qjb (n:=s.heap.objs.size + 1) k
   refine .inr ⟨.inl k,c,e,?_⟩
   have q:=x.cell y c e
   rw [Qgx ndP hp hu (by show scope.names.lookup y≠_;rw [k];decide)] at q
   exact q
 ·exact e0.hok.fresh (Nat.le_of_lt (x.above y c (PySem.mem_of_lookup h)))
 ·unfold Qaa
  show _=N.length
  rw [List.length_append,List.length_map,List.length_replicate]
  omega
theorem fn_of {CX:CXT} {P:Program} {w:World} {K:PySem.W.Frag} {mg:Str→Option Value} {base:Heap} {k:Nat} {f:Addr} {name qual:Str} {params:Arguments} {body:List Stmt} {scope:Scope} {dV kV doc pm cdv ct oc:Value} {an od:Option Addr}
  {osl:Array (Option Value)} {N ps:List Str} {sp:Sp} (lk:K.lookup f=some ⟨oc,od,.func (PySem.W.fnOf name qual params body scope dV kV doc pm an cdv ct),osl⟩) (hcd:PySem.W.codeIn K cdv qual=true) (S:FnScope N ps scope)
  (len:∀ vs H Q E,sp vs H Q E→vs.length=ps.length)
  (hbody:∀ (A:Around) (outer:List Env) (s:Shared) (H:Hp) (vs:List V) (Q:VK) (E:XK),Room k (A.deeper (envOfC qual scope s.heap.objs.size f cdv))→sp vs H Q E →
   ∃ t,PSs (cxOf CX P w K mg base N qual scope f cdv A outer s H E) body t∧t { nx:=fun _ H'=>Q .non H',rt:=Q } (Qaa N vs) H) :
  FnOk P w K mg base CX (k + 1) f (PySem.W.fnOf name qual params body scope dV kV doc pm an cdv ct) ps sp:=by
 refine ⟨len,fun A outer s H args us vs Q E hr e0 hb r hsp => ?_⟩
 have hl:=len _ _ _ _ hsp
 have KX:K.In s.heap:=e0.mod.kin.keeps fun b o e=>(e0.bs b o e).1
 have lim:s.heap.NoLimit:=e0.mod.nolimit.keeps fun b o e=>(e0.bs b o e).1
 have hkind:∀ y∈ps.zip us,scope.names.lookup y.1=some .local∨(scope.names.lookup y.1=some .cell∧((cellsFrom (s.heap.objs.size + 1) scope.names []).lookup y.1).isSome=true):=fun ⟨n,v⟩ hy=>by
  rcases S.par n (List.of_mem_zip hy).1 with q | q
  ·exact .inl q
  ·exact .inr ⟨q,PySem.W.cellsFrom_some _ _ _ (.inl q)⟩
 refine codeAny_call_function hr.depth (KX _ _ lk) rfl S.co S.gen rfl (PySem.W.codeRec_of KX hcd) (hb _ _ _ _ ?_)
 refine wpAny_newFunctionEnv_cells S.kind hkind fun env he s1 x => ?_
 subst he
 refine ⟨lim.keeps x.toInCall.keep,codeAny_func ?_⟩
 obtain ⟨t,ht,hq⟩:=hbody A outer s H vs Q E (hr.deeper _) hsp
 have I:Inv (cxOf CX P w K mg base N qual scope f cdv A outer s H E) [] (Qaa N vs) H s1:=Qma S hr.hd e0 hl r x
 refine wpAny_mono (ht [] s1 (Qaa N vs) H _ I hq) (fun fl s' hs => ?_) fun e s' hs=>hs
 have fin:∀ {σ':St} {H':Hp} {v:V} {u:Value},Inv (cxOf CX P w K mg base N qual scope f cdv A outer s H E) [] σ' H' s'→RelV v u→Q v H'→CE outer P w H s Q u s' :=
  fun {σ' H' v u} J rv q=>⟨v,H',J.os,J.bare,J.base,J.hok,rv,q⟩
 cases fl with
 | ret u =>
  obtain ⟨v,σ',H',J,rv,q⟩:=hs
  exact fin J rv q
 | next =>
  obtain ⟨σ',H',J,q⟩:=hs
  exact fin (v:=V.non) (u:=Value.none) J rfl q
 | brk =>
  obtain ⟨_,_,_,q⟩:=hs
  exact False.elim q
 | cont =>
  obtain ⟨_,_,_,q⟩:=hs
  exact False.elim q
section
variable {X:Cx} {x:Str} {p pos:Pos} {e:Expr} {es:List Expr} {t:TA} {id T:String} {r:List V→Hp→VK→Prop}
def tCB (r:List V→Hp→VK→Prop) (t:TA):TE:=fun σ H Q=>t σ H fun vs H1=>r vs H1 Q
theorem Qav (hc:QaR X (.builtin id) r) (hg:Gl X x) (hm:X.mg x=none) (hv:bootBuiltins x=some (.builtin id)) (ha:PA X (e :: es) t) (hn:x ≠ "__name__":=by decide) (hdb:(x==("__debug__":Str))=false:=by decide)
  (he:starEach (e :: es) X.env=(false,eval e X.env) :: starEach es X.env:=by rfl) (hpl:(backTo pos (starEach es X.env)).any (·.1)=false:=by rfl):PE X (.Call (.Name x p) (e :: es) [] pos) (tCB r t):=by
 intro pins s σ H Q I h
 refine wpAny_Call_Name_kw (QfJ I hg hm hv ?_ hn hdb)
 exact PyProof.Rows.callWith_builtin1 (thn (ha pos pins s σ H _ I h) fun us s1 ⟨vs,H1,I1,r1,q1⟩=>hc pins s1 σ H1 vs us Q I1 r1 q1) he hpl
theorem XM (hc:QaR X (.type T) r) (hg:Gl X x) (hm:X.mg x=none) (hv:bootBuiltins x=some (.type T)) (ha:PA X (e :: es) t) (hn:x ≠ "__name__":=by decide) (hdb:(x==("__debug__":Str))=false:=by decide)
  (he:starEach (e :: es) X.env=(false,eval e X.env) :: starEach es X.env:=by rfl) (hpl:(backTo pos (starEach es X.env)).any (·.1)=false:=by rfl):PE X (.Call (.Name x p) (e :: es) [] pos) (tCB r t):=by
 intro pins s σ H Q I h
 refine wpAny_Call_Name_kw (QfJ I hg hm hv ?_ hn hdb)
 exact PyProof.Rows.callWith_type1 (thn (ha pos pins s σ H _ I h) fun us s1 ⟨vs,H1,I1,r1,q1⟩=>hc pins s1 σ H1 vs us Q I1 r1 q1) he hpl
end
end L2
namespace HT
open PySem PyProof.Rows
section
variable {prog:Program} {w:World} {A:Around} {E:Value→Shared→Prop} {s:Shared}
def sIx (n d:Nat):Option Int→Nat
 | none=>d
 | some v=>if v < 0 then (v + (n:Int)).toNat else min v.toNat n
theorem sIx_none (n d:Nat):sIx n d none=d:=rfl
theorem sIx_nat (n d k:Nat):sIx n d (some (k:Int))=min k n:=by
 show (if (k:Int) < 0 then ((k:Int) + (n:Int)).toNat else min (k:Int).toNat n)=min k n
 rw [if_neg (by omega),Int.toNat_natCast]
end
end HT
namespace L2
open PySem PySem.Spec PyProof.Rows
abbrev TO:=St→Hp→(Option Int→Hp→Prop)→Prop
def PO (X:Cx) (e:Option Expr) (t:TO):Prop :=
 ∀ (pins:List (Addr×Obj)) (s:Shared) (σ:St) (H:Hp) (Q:Option Int→Hp→Prop),Inv X pins σ H s→t σ H Q →
  wpAny (model X.prog X.w) X.A (evalPart e X.env) (fun u s'=>∃ o H',Inv X pins σ H' s'∧IsPart u o∧Q o H') X.xe s
def tNoPart:TO:=fun _ H Q=>Q none H
def tPart (t:TE):TO:=fun σ H Q=>t σ H fun x H1=>∃ i,x = .int i∧Q (some i) H1
theorem Qjy {ns:List Int}:∀ {us:List Value},Vals (ns.map V.int) us→IntsAre us ns:=by
 induction ns with
 | nil=>intro us r;rw [List.map_nil] at r;cases r;exact .nil
 | cons n ns ih =>
  intro us r
  rw [List.map_cons] at r
  cases r with
  | cons r1 r2 =>
   obtain ⟨t,e⟩:=r1
   subst e
   exact .cons n t (ih r2)
section
variable {X:Cx} {e:Expr} {te:TE} {lo hi:Option Expr} {tl th:TO} {pos p2:Pos}
theorem po_none:PO X none tNoPart:=by
 intro pins s σ H Q I h
 rw [evalPart_none]
 exact wpAny_pure ⟨none,H,I,.none,h⟩
theorem po_some (h:PE X e te):PO X (some e) (tPart te):=by
 intro pins s σ H Q I hw
 rw [evalPart_some]
 refine thn (h pins s σ H _ I hw) fun u s1 ⟨x,H1,I1,r1,q1⟩ => ?_
 obtain ⟨i,rfl,q⟩:=q1
 obtain ⟨t,rfl⟩:=r1
 exact ⟨some i,H1,I1,.int i t,q⟩
def SlR (X:Cx) (r:V→Option Int→Option Int→Hp→VK→Prop):Prop :=
 ∀ (pins:List (Addr×Obj)) (s:Shared) (σ:St) (H:Hp) (x:V) (v vl vu:Value) (lo hi:Option Int) (sl:Addr) (Q:VK),Inv X pins σ H s→RelV x v→s.heap.IsSliceOf sl vl vu .none→IsPart vl lo→IsPart vu hi→r x lo hi H Q →
  ∃ T id,typeLookup (.type T) "__getitem__"=pure (some (.builtin id))∧s.TypeIs v T∧wpAny (model X.prog X.w) X.A (getItem v (.ref sl)) (EP X pins σ Q) X.xe s
def tSl (r:V→Option Int→Option Int→Hp→VK→Prop) (te:TE) (tl th:TO):TE:=fun σ H Q=>te σ H fun x H1=>tl σ H1 fun l H2=>th σ H2 fun u H3=>r x l u H3 Q
theorem QiB {r:V→Option Int→Option Int→Hp→VK→Prop} (hr:SlR X r) (he:PE X e te) (hl:PO X lo tl) (hu:PO X hi th):PE X (.Subscript e (.Slice lo hi none p2) pos) (tSl r te tl th):=by
 intro pins s σ H Q I h
 refine Subscript_ (thn (he pins s σ H _ I h) fun v s1 ⟨x,H1,I1,r1,q1⟩ => ?_)
 refine wpAny_Slice (thn (hl pins s1 σ H1 _ I1 q1) fun vl s2 ⟨l,H2,I2,pl,q2⟩=>thn (hu pins s2 σ H2 _ I2 q2) fun vu s3 ⟨u,H3,I3,pu,q3⟩ => ?_)
 rw [evalPart_none]
 refine wpAny_pure ?_
 have I4:Inv X pins σ H3 { s3 with heap:=s3.heap.push { cls := .type "slice",data := .fields #[vl,vu,.none] } }:=I3.kept (t':=s3.toks) fun b ob q=>Heap.get?_push_of_some _ q
 obtain ⟨T,id,hT,ht,hg⟩:=hr pins { s3 with heap:=s3.heap.push { cls := .type "slice",data := .fields #[vl,vu,.none] } } σ H3 x v vl vu l u s3.heap.objs.size Q I4 r1 (Heap.IsSliceOf.new ..) pl pu q3
 show wpAny (model X.prog X.w) X.A (subscriptTail e (.Slice lo hi none p2) v (.ref s3.heap.objs.size)) (EP X pins σ Q) X.xe { s3 with heap:=s3.heap.push { cls := .type "slice",data := .fields #[vl,vu,.none] } }
 exact tail_any (ops:=[.ref s3.heap.objs.size,v]) ht hT hg (by with_unfolding_all rfl)
def cutV (xs:List V) (lo hi:Option Int):List V:=(xs.drop (HT.sIx xs.length 0 lo)).take (HT.sIx xs.length xs.length hi - HT.sIx xs.length 0 lo)
theorem Qij (xs:List V) (lo hi:Option Int):(cutV xs lo hi).length≤xs.length:=by
 unfold cutV
 rw [List.length_take,List.length_drop]
 omega
end
def ixN (n:Nat) (i:Int):Option Nat:=if 0≤i then (if i < n then some i.toNat else none) else if -(n:Int)≤i then some (i + n).toNat else none
def atI {α:Type} (xs:List α) (i:Int):Option α:=(ixN xs.length i).bind fun j=>xs[j]?
theorem QkV {n:Nat} {i:Int} {j:Nat} (h:ixN n i=some j):seqIndex? i n=some j∧j < n ∧ -(n:Int)≤i∧i < n:=by
 unfold ixN at h
 by_cases h0:0≤i
 ·rw [if_pos h0] at h
  by_cases h1:i < n
  ·rw [if_pos h1] at h
   have e:i.toNat=j:=Option.some.inj h
   exact ⟨by rw [seqIndex_of h0 h1,e],by omega,by omega,h1⟩
  ·rw [if_neg h1] at h;cases h
 ·rw [if_neg h0] at h
  by_cases h1 : -(n:Int)≤i
  ·rw [if_pos h1] at h
   have e:(i + n).toNat=j:=Option.some.inj h
   exact ⟨by rw [seqIndex_neg (by omega) h1,e],by omega,h1,by omega⟩
  ·rw [if_neg h1] at h;cases h
theorem Qhg {α:Type} {xs:List α} {i:Int} {v:α} (h:atI xs i=some v):∃ j,seqIndex? i xs.length=some j∧xs[j]?=some v∧j < xs.length ∧ -(xs.length:Int)≤i∧i < xs.length:=by
 unfold atI at h
 cases e:ixN xs.length i with
 | none=>rw [e] at h;cases h
 | some j =>
  rw [e] at h
  obtain ⟨h1,h2,h3,h4⟩:=QkV e
  exact ⟨j,h1,h,h2,h3,h4⟩
theorem atI_nat {α:Type} {xs:List α} {j:Nat} {v:α} (h:xs[j]?=some v):atI xs (j:Int)=some v:=by
 have hj:j < xs.length:=(List.getElem?_eq_some_iff.mp h).1
 have e:ixN xs.length (j:Int)=some j:=by
  unfold ixN
  rw [if_pos (by omega),if_pos (by omega)];simp
 unfold atI;rw [e];exact h
theorem atI_last {α:Type} (xs:List α) (v:α):atI (xs++[v]) (-1)=some v:=by
 have hl:(xs++[v]).length=xs.length + 1:=by simp
 have e:ixN (xs++[v]).length (-1)=some xs.length:=by
  unfold ixN
  rw [hl,if_neg (by decide),if_pos (by omega)]
  congr 1
  omega
 unfold atI
 rw [e]
 show (xs++[v])[xs.length]?=some v
 simp
def Qlu (b:Expr):Prop:=∀ o i,subscripted b false o i=operate [o,i] (getItem o i)
def IxR (X:Cx) (r:R2):Prop :=
 ∀ (value slice:Expr) (pins:List (Addr×Obj)) (s:Shared) (σ:St) (H:Hp) (x y:V) (v u:Value) (Q:VK),Inv X pins σ H s→RelV x v→RelV y u→r x y H Q →
  subscripted slice false v u=operate [v,u] (getItem v u)→wpAny (model X.prog X.w) X.A (subscriptTail value slice v u) (EP X pins σ Q) X.xe s
def MtR (X:Cx) (id:String) (r:V→List V→Hp→VK→Prop):Prop :=
 ∀ (pins:List (Addr×Obj)) (s:Shared) (σ:St) (H:Hp) (x:V) (xs:List V) (v:Value) (us:List Value) (Q:VK),Inv X pins σ H s→RelV x v→Vals xs us→r x xs H Q →
  wpAny (model X.prog X.w) X.A (call (.builtin id) (v :: us)) (EP X pins σ Q) X.xe s
section
variable {X:Cx} {a b:Expr} {ta tb:TE} {pos:Pos}
theorem pe_ix {r:R2} (hr:IxR X r) (ha:PE X a ta) (hb:PE X b tb) (hs:Qlu b):PE X (.Subscript a b pos) (tOp r ta tb):=by
 intro pins s σ H Q I h
 exact Subscript_ (binT ha hb I h fun v u s2 x y H2 I2 rx ry q=>hr a b pins s2 σ H2 x y v u Q I2 rx ry q (hs _ _))
def rIxL (K:PySem.W.Frag):R2:=fun x y H Q=>∃ p xs i v,x = .ref p∧y = .int i∧SqL K H p xs∧atI xs i=some v∧Q v H
def rIxT (K:PySem.W.Frag):R2:=fun x y H Q=>∃ p xs i v,x = .ref p∧y = .int i∧SqT K H p xs∧atI xs i=some v∧Q v H
def rIxS:R2:=fun x y H Q=>∃ z i c,x = .str z∧y = .int i∧z.length≤sizeLine∧atI z.cps.toList i=some c∧Q (.str ⟨#[c]⟩) H
theorem ix_list:IxR X (rIxL X.K):=by
 intro value slice pins s σ H x y v u Q I rx ry h hs
 obtain ⟨p,xs,i,z,rfl,rfl,hq,he,q⟩:=h
 cases rx
 obtain ⟨t,rfl⟩:=ry
 obtain ⟨its,r,pl,hz⟩:=I.list hq
 obtain ⟨j,h1,h2,h3,h4,h5⟩:=Qhg he
 obtain ⟨w,ew,rw'⟩:=r.get h2
 have hl:=r.length
 have hn:=Qeh
 have fin:EP X pins σ Q w s:=⟨z,H,I,rw',q⟩
 by_cases h0:0≤i
 ·have hj:i.toNat=j:=by
   rw [seqIndex_of h0 h5] at h1
   exact Option.some.inj h1
  exact item_listR pl.isList h0 (by omega) (by rw [hj];simpa using ew) fin hs
 ·have hj:(i + (its.toArray.size:Int)).toNat=j:=by
   rw [seqIndex_neg (by omega) h4] at h1
   rw [List.size_toArray,← hl]
   exact Option.some.inj h1
  exact subscriptTail_builtinR (x:=w) pl.isList.typeIs slot_list_getitem.lookup
   (wpAny_getItem_list_neg (Q:=fun r s'=>r=w∧EP X pins σ Q r s') pl.isList (by omega) (by rw [List.size_toArray] <;> omega) (by omega) (by rw [hj];simpa using ew) ⟨rfl,fin⟩) hs
theorem ix_tup:IxR X (rIxT X.K):=by
 intro value slice pins s σ H x y v u Q I rx ry h hs
 obtain ⟨p,xs,i,z,rfl,rfl,hq,he,q⟩:=h
 cases rx
 obtain ⟨t,rfl⟩:=ry
 obtain ⟨its,r,pl,hz⟩:=I.tuple hq
 obtain ⟨j,h1,h2,h3,h4,h5⟩:=Qhg he
 obtain ⟨w,ew,rw'⟩:=r.get h2
 have hl:=r.length
 have hn:=Qeh
 have fin:EP X pins σ Q w s:=⟨z,H,I,rw',q⟩
 exact subscriptTail_builtinR (x:=w) pl.typeIs slot_tuple_getitem.lookup
  (getItem_tuple (j:=j) (Q:=fun r s'=>r=w∧EP X pins σ Q r s') pl (by omega) (by omega) (by rw [List.size_toArray,← hl];exact h1) (by simpa using ew) ⟨rfl,fin⟩) hs
theorem ix_str:IxR X rIxS:=by
 intro value slice pins s σ H x y v u Q I rx ry h hs
 obtain ⟨z,i,c,rfl,rfl,hz,he,q⟩:=h
 obtain ⟨t,rfl⟩:=rx
 obtain ⟨t',rfl⟩:=ry
 obtain ⟨j,h1,h2,h3,h4,h5⟩:=Qhg he
 have hl:z.cps.toList.length=z.length:=by simp [Str.length]
 rw [hl] at h1 h4 h5
 have hn:=Qeh
 exact tail_any (typeIs_str s z t) slot_str_getitem.lookup (getItem_str (c:=c) (by
  have e1:decide (i < -(2 ^ 63:Int))=false:=decide_eq_false (by omega)
  have e2:decide (i ≥ 2 ^ 63)=false:=decide_eq_false (by omega)
  rw [e1,e2,Bool.or_false]) (by rw [h1];simpa using h2) ⟨.str ⟨#[c]⟩,H,I.tok _,⟨_,rfl⟩,q⟩) hs
theorem Qjr (its:List Value) (n j:Nat) (u:Value):Obj.mapSeq (·.setIfInBounds j u) { cls := .type "list",data := .seq its.toArray n }={ cls := .type "list",data := .seq (its.set j u).toArray n }:=by
 simp [Obj.mapSeq]
theorem Inv.lst {pins:List (Addr×Obj)} {σ:St} {H:Hp} {s:Shared} {p:Addr} {xs:List V} (I:Inv X pins σ H s) (h:H p=some (.lst xs)) :
  ∃ (its:List Value) (n:Nat),Vals xs its∧s.heap.get? p=some { cls := .type "list",data := .seq its.toArray n }∧xs.length≤sizeLine:=by
 obtain ⟨z,its,n,r,e⟩:=I.hok p _ h
 exact ⟨its,n,r,e,z⟩
theorem Inv.lstUpd {pins:List (Addr×Obj)} {σ:St} {H:Hp} {s:Shared} {p:Addr} {xs ys:List V} {its its':List Value} {n n':Nat} {f:Obj→Obj} (I:Inv X pins σ H s) (h:H p=some (.lst xs))
  (ho:s.heap.get? p=some { cls := .type "list",data := .seq its.toArray n }) (hf:f { cls := .type "list",data := .seq its.toArray n }={ cls := .type "list",data := .seq its'.toArray n' }) (r:Vals ys its') (hz:ys.length≤sizeLine) (t:Nat) :
  Inv X pins σ (upd H p (.lst ys)) { s with heap:=s.heap.update p f,toks:=t }:=by
 have e:(s.heap.update p f).get? p=some { cls := .type "list",data := .seq its'.toArray n' }:=by
  rw [Heap.get?_update_self f ho (by rw [hf] <;> rfl),hf]
 refine I.write (x:=p) (e:=p) (by rw [h];trivial) (.inl rfl) (fun b u hb q=>(Heap.get?_update_other _ _ (Ne.symm hb)).trans q) ⟨_,e⟩ ?_
 exact ⟨hz,its',n',r,e⟩
def rSetL:V→V→V→Hp→(Hp→Prop)→Prop:=fun o i v H Q=>∃ p xs k j,o = .ref p∧i = .int k∧H p=some (.lst xs)∧ixN xs.length k=some j∧Q (upd H p (.lst (xs.set j v)))
theorem set_list:PSet X rSetL:=by
 intro pins s σ H o i v ov iv u Q I ro ri rv h
 obtain ⟨p,xs,k,j,rfl,rfl,hp,hj,q⟩:=h
 cases ro
 obtain ⟨t,rfl⟩:=ri
 obtain ⟨its,n,r,ho,hz⟩:=I.lst hp
 obtain ⟨h1,h2,h3,h4⟩:=QkV hj
 have hl:=r.length
 have hn:=Qeh
 have I':Inv X pins σ (upd H p (.lst (xs.set j v))) { s with heap:=s.heap.update p (Obj.mapSeq (·.setIfInBounds j u)) } :=
  I.lstUpd hp ho (Qjr its n j u) (r.set rv j) (by rw [List.length_set];exact hz) s.toks
 by_cases h0:0≤k
 ·have hk:k.toNat=j:=by
   rw [seqIndex_of h0 h4] at h1
   exact Option.some.inj h1
  exact PySem.W.ki_setAt ho h0 (by omega) (by rw [List.size_toArray,← hl];exact h4) (by rw [hk];exact ⟨_,I',q⟩)
 ·have hk:(k + (its.toArray.size:Int)).toNat=j:=by
   rw [seqIndex_neg (by omega) h3] at h1
   rw [List.size_toArray,← hl]
   exact Option.some.inj h1
  exact PySem.W.ki_setBack ho (by omega) (by rw [List.size_toArray,← hl];exact h3) (by omega) (by rw [hk];exact ⟨_,I',q⟩)
theorem QgE (lo hi:Option Int) (n:Nat):(sliceBounds lo hi none n).1=((HT.sIx n 0 lo:Nat):Int)∧(sliceBounds lo hi none n).2.1=((HT.sIx n n hi:Nat):Int)∧(sliceBounds lo hi none n).2.2=1:=by
 refine ⟨?_,?_,rfl⟩
 ·cases lo with
  | none=>simp [sliceBounds,HT.sIx]
  | some i =>
   simp only [sliceBounds,HT.sIx,Option.getD_none,show (1:Int) > 0 by decide,if_true]
   by_cases h:i < 0
   ·simp only [h,if_true] <;> omega
   ·simp only [h,if_false] <;> omega
 ·cases hi with
  | none=>simp [sliceBounds,HT.sIx]
  | some i =>
   simp only [sliceBounds,HT.sIx,Option.getD_none,show (1:Int) > 0 by decide,if_true]
   by_cases h:i < 0
   ·simp only [h,if_true] <;> omega
   ·simp only [h,if_false] <;> omega
theorem Qfs (its:List Value) (lo hi:Option Int):slicePick its.toArray lo hi none=((its.drop (HT.sIx its.length 0 lo)).take (HT.sIx its.length its.length hi - HT.sIx its.length 0 lo)).toArray:=by
 obtain ⟨h1,h2,h3⟩:=QgE lo hi its.toArray.size
 unfold slicePick
 rw [h1,h2,h3]
 simp only [sliceRange_one,pick_run,List.size_toArray] <;> rfl
def rSlL (K:PySem.W.Frag):V→Option Int→Option Int→Hp→VK→Prop:=fun x lo hi H Q=>∃ a xs,x = .ref a∧SqL K H a xs∧∀ p,H p=none→Q (.ref p) (upd H p (.lst (cutV xs lo hi)))
theorem sl_list:SlR X (rSlL X.K):=by
 intro pins s σ H x v vl vu lo hi sl Q I rx hs pl pu h
 obtain ⟨a,xs,rfl,hx,q⟩:=h
 cases rx
 obtain ⟨its,r,ht,hz⟩:=I.list hx
 have hlen:=r.length
 refine ⟨"list",_,slot_list_getitem.lookup,ht.isList.typeIs,?_⟩
 refine wpAny_getItem_list_slice ht.isList hs pl pu .none (by simp) ?_ (by rw [List.size_toArray] <;> omega)
 rw [Qfs,← hlen]
 refine ⟨.ref s.heap.objs.size,_,I.laid (t':=s.toks) (o := .lst (cutV xs lo hi)) (fun b ob q=>Heap.get?_push_of_some _ q) (Nat.le_refl _) ?_,rfl,q _ (I.hok.fresh (Nat.le_refl _))⟩
 exact ⟨Nat.le_trans (Qij xs lo hi) hz,_,0,(r.drop (HT.sIx xs.length 0 lo)).take (HT.sIx xs.length xs.length hi - HT.sIx xs.length 0 lo),Heap.get?_push_size _ rfl⟩
theorem QgQ:QaR X (.type "list") (fun xs H Q=>∃ p ys,xs=[.ref p]∧(SqL X.K H p ys∨SqT X.K H p ys)∧∀ l,H l=none→Q (.ref l) (upd H l (.lst ys))):=by
 intro pins s σ H xs us Q I r h
 obtain ⟨p,ys,rfl,hq,q⟩:=h
 obtain ⟨u,rfl,rx⟩:=XH r
 cases rx
 have fin:∀ (its:List Value),Vals ys its→ys.length≤sizeLine→∀ (h':Heap) (c':Nat),(∀ b o',s.heap.get? b=some o'→h'.get? b=some o') →
   h'.get? s.heap.objs.size=some { cls := .type "list",dict:=none,data := .seq its.toArray c',slots := #[] }→EP X pins σ Q (.ref s.heap.objs.size) { s with heap:=h' }:=fun its r' hz h' c' kp e =>
  ⟨.ref s.heap.objs.size,_,I.laid (t':=s.toks) kp (Nat.le_refl _) (show YK X.prog X.w _ h' _ (.lst ys) from ⟨hz,its,c',r',e⟩),rfl,q _ (I.hok.fresh (Nat.le_refl _))⟩
 rcases hq with hq | hq
 ·obtain ⟨its,r',pl,hz⟩:=I.list hq
  have hlen:=r'.length
  obtain ⟨o,ho,hc,n,hd⟩:=pl.isList
  exact call_list_seq p (.inl rfl) ho hc hd (fun h' c' kp e=>fin its r' hz h' c' kp e) (by simp only [List.size_toArray] <;> omega)
 ·obtain ⟨its,r',pl,hz⟩:=I.tuple hq
  have hlen:=r'.length
  obtain ⟨o,ho,hc,n,hd⟩:=pl
  exact call_list_seq p (.inr rfl) ho hc hd (fun h' c' kp e=>fin its r' hz h' c' kp e) (by simp only [List.size_toArray] <;> omega)
theorem Qfz:QaR X (.type "tuple") (fun xs H Q=>∃ p ys,xs=[.ref p]∧((SqL X.K H p ys∧∀ l,H l=none→Q (.ref l) (upd H l (.tup ys)))∨(SqT X.K H p ys∧Q (.ref p) H))):=by
 intro pins s σ H xs us Q I r h
 obtain ⟨p,ys,rfl,h⟩:=h
 obtain ⟨u,rfl,rx⟩:=XH r
 cases rx
 rcases h with ⟨hq,q⟩ | ⟨hq,q⟩
 ·obtain ⟨its,r',pl,hz⟩:=I.list hq
  have hlen:=r'.length
  refine call_tuple_list pl.isList (fun h' kp => ?_) (by simp only [List.size_toArray] <;> omega)
  have I1:Inv X pins σ H { s with heap:=h' }:=I.kept (t':=s.toks) kp
  have I2:Inv X pins σ (upd H h'.objs.size (.tup ys)) { s with heap:=h'.push { cls := .type "tuple",data := .seq its.toArray } } :=
   I1.laid (t':=s.toks) (fun b o e=>Heap.get?_push_of_some _ e) (Nat.le_refl _) (show YK X.prog X.w _ _ _ (.tup ys) from ⟨hz,its,r',QaB.new _ _ _⟩)
  exact ⟨.ref h'.objs.size,_,I2,rfl,q _ (I1.hok.fresh (Nat.le_refl _))⟩
 ·obtain ⟨its,r',pl,hz⟩:=I.tuple hq
  exact call_tuple_same pl ⟨.ref p,H,I,rfl,q⟩
def tyV (K:PySem.W.Frag) (T:String) (x:V) (H:Hp):Prop:=match x with
 | .str _=>T = "str"
 | .int _=>T = "int"
 | .ref p=>(T = "list"∧∃ xs,SqL K H p xs)∨(T = "tuple"∧∃ o,K.lookup p=some o∧o.cls = .type "tuple"∧o.dict=none) ∨
   (T = "dict"∧((∃ kvs,H p=some (.dK kvs))∨∃ kvs,H p=some (.dT kvs)))∨(T = "set"∧∃ S n,H p=some (.set S n))
 | _=>False
theorem tyV_is {pins:List (Addr×Obj)} {σ:St} {H:Hp} {s:Shared} {T:String} {x:V} {v:Value} (I:Inv X pins σ H s) (r:RelV x v) (ty:tyV X.K T x H) :
  s.TypeIs v T∧∀ a,v = .ref a→∃ ob,s.heap.get? a=some ob∧ob.dict=none:=by
 cases x with
 | str z =>
  obtain ⟨t,rfl⟩:=r
  cases (show T = "str" from ty)
  exact ⟨typeIs_str s z t,fun _ e=>nomatch e⟩
 | int i =>
  obtain ⟨t,rfl⟩:=r
  cases (show T = "int" from ty)
  exact ⟨typeIs_int s i t,fun _ e=>nomatch e⟩
 | ref p =>
  cases r
  rcases ty with ⟨rfl,xs,hq⟩ | ⟨rfl,o,hk,hc,hd⟩ | ⟨rfl,hk⟩ | ⟨rfl,S,n,hk⟩
  ·obtain ⟨its,_,pl,_⟩:=I.list hq
   refine ⟨pl.isList.typeIs,fun a e => ?_⟩
   cases e
   obtain ⟨o,n,e,c,hd,_⟩:=pl
   exact ⟨o,e,hd⟩
  ·refine ⟨⟨o,I.kIn p o hk,hc⟩,fun a e => ?_⟩
   cases e
   exact ⟨o,I.kIn _ o hk,hd⟩
  ·have z:∃ o,s.heap.get? p=some o∧o.ExactDict:=by
    rcases hk with ⟨kvs,hk⟩ | ⟨kvs,hk⟩
    ·obtain ⟨_,_,_,_,o,_,_,e,ex,_⟩:=I.hok p _ hk
     exact ⟨o,e,ex⟩
    ·obtain ⟨_,_,_,_,o,_,_,e,ex,_⟩:=I.hok p _ hk
     exact ⟨o,e,ex⟩
   obtain ⟨o,e,ex⟩:=z
   refine ⟨⟨o,e,ex.1⟩,fun a e2 => ?_⟩
   cases e2
   exact ⟨o,e,ex.2.1⟩
  ·obtain ⟨o,_,_,_,e,ex,_⟩:=I.hok p _ hk
   refine ⟨⟨o,e,ex.1⟩,fun a e2 => ?_⟩
   cases e2
   exact ⟨o,e,ex.2.1⟩
 | _=>exact False.elim ty
def tBM (K:PySem.W.Frag) (T:String) (r:V→List V→Hp→VK→Prop) (to:TE) (t:TA):TE:=fun σ H Q=>to σ H fun x H1=>tyV K T x H1∧t σ H1 fun xs H2=>r x xs H2 Q
variable {o e:Expr} {es:List Expr} {to:TE} {t:TA} {name:Str} {apos cpos:Pos} {T id:String} {r:V→List V→Hp→VK→Prop}
theorem Qbq (pa:PlainAttrs T) (slot:Slot T name id) (hty:typeOf (.builtin id)=pure (.type "method_descriptor")) (hm:MtR X id r) (ho:PE X o to) (ha:PA X (e :: es) t)
  (hbase:attributeBase o name X.env (eval o X.env)=eval o X.env:=by rfl)
  (hfew:((backTo cpos (starEach (e :: es) X.env)).all (fun x => !x.1)&&(backToKw cpos (keywordEach [] X.env)).all (fun x=>x.1.isSome)
   && decide ((e :: es).length + ([]:List Keyword).length + (if ([]:List Keyword).isEmpty then 0 else 1) < 30))=true:=by rfl)
  (hline:(apos.endLine==cpos.line)=true:=by rfl) (hs:starEach (e :: es) X.env=(false,eval e X.env) :: starEach es X.env:=by rfl) (hplain:(backTo cpos (starEach es X.env)).any (·.1)=false:=by rfl) :
  PE X (.Call (.Attribute o name apos) (e :: es) [] cpos) (tBM X.K T r to t):=by
 intro pins s σ H Q I h
 refine wpAny_Call_method_late hbase hfew hline rfl (thn (ho pins s σ H _ I h) fun v s1 ⟨x,H1,I1,r1,ty,q1⟩ => ?_)
 obtain ⟨h1,h2⟩:=tyV_is I1 r1 ty
 refine ⟨T,id,pa,slot,hty,h1,h2,?_⟩
 have hA:=ha cpos pins s1 σ H1 _ I1 q1
 rw [hs] at hA ⊢
 refine Calls.callWith_builtin (by show (false||(backTo cpos (starEach es X.env)).any (·.1))=false;rw [hplain] <;> rfl) (Calls.evalArgs_plain ?_)
 exact thn hA fun us s2 ⟨vs,H2,I2,r2,q2⟩=>hm pins s2 σ H2 x vs v us Q I2 r1 r2 q2
/- xs.append(e),list.index on a module's tuple .. are MtR facts of 06m -/
end
def MtM (X:Cx) (id:String) (r:V→List V→Hp→VK→Prop):Prop :=
 ∀ (pins:List (Addr×Obj)) (s:Shared) (σ:St) (H:Hp) (x:V) (xs:List V) (v:Value) (us:List Value) (Q:VK),Inv X pins σ H s→RelV x v→Vals xs us→r x xs H Q →
  wpAny (model X.prog X.w) X.A (call (.builtin id) (v :: us)) (EP X pins σ Q) X.xe s
theorem Vals.one:∀ {x:V} {us:List Value},Vals [x] us→∃ u,us=[u]∧RelV x u
 | _,_,.cons r .nil=>⟨_,rfl,r⟩
theorem Vals.rep {xs:List V} {us:List Value} (h:Vals xs us):∀ k:Nat,Vals (List.replicate k xs).flatten (List.replicate k us).flatten
 | 0 => .nil
 | k + 1=>by
  rw [List.replicate_succ,List.replicate_succ,List.flatten_cons,List.flatten_cons]
  exact Vals.append h (Vals.rep h k)
section
variable {X:Cx} {pins:List (Addr×Obj)} {σ:St} {H:Hp} {s:Shared} {l b:Addr} {xs ys zs:List V}
theorem Inv.lset {its its':List Value} {n:Nat} {f:Array Value→Array Value} {t':Nat} (I:Inv X pins σ H s) (hH:H l=some (.lst xs))
  (e:s.heap.get? l=some { cls := .type "list",data := .seq its.toArray n }) (hf:f its.toArray=its'.toArray) (hv:Vals ys its') (hz:ys.length≤sizeLine) :
  Inv X pins σ (upd H l (.lst ys)) { s with heap:=s.heap.update l (Obj.mapSeq f),toks:=t' }:=by
 have q:=PySem.IsL.update e f
 rw [hf] at q
 refine I.write (x:=l) (e:=l) (by rw [hH];exact trivial) (.inl rfl) (fun b' u hb hu=>(Heap.get?_update_other s.heap (Obj.mapSeq f) (Ne.symm hb)).trans hu) ⟨_,q⟩ ?_
 exact ⟨hz,its',_,hv,q⟩
theorem Inv.lnew {its:List Value} {t':Nat} (I:Inv X pins σ H s) (hv:Vals ys its) (hz:ys.length≤sizeLine) :
  Inv X pins σ (upd H s.heap.objs.size (.lst ys)) { s with heap:=s.heap.push { cls := .type "list",data := .seq its.toArray },toks:=t' } :=
 I.laid (fun _ _ q=>Heap.get?_push_of_some _ q) (Nat.le_refl _) ⟨hz,its,0,hv,Heap.get?_push_size _ rfl⟩
theorem Inv.fresh (I:Inv X pins σ H s):H s.heap.objs.size=none:=I.hok.fresh (Nat.le_refl _)
theorem Inv.lstM (I:Inv X pins σ H s) (hH:H l=some (.lst xs)):xs.length≤sizeLine∧∃ (its:List Value) (n:Nat),Vals xs its∧xs.length=its.length∧s.heap.get? l=some { cls := .type "list",data := .seq its.toArray n }:=by
 obtain ⟨z,its,n,r,e⟩:=I.hok l _ hH
 exact ⟨z,its,n,r,r.length,e⟩
theorem QiI {n:Nat} (h:n≤sizeLine):Builtin.List.listTooLong n=false:=by
 unfold Builtin.List.listTooLong
 exact decide_eq_false (by omega)
end
section
variable {X:Cx}
def QkF:V→List V→Hp→VK→Prop:=fun x vs H Q=>∃ l xs y,x = .ref l∧vs=[y]∧H l=some (.lst xs)∧xs.length < sizeLine∧Q .non (upd H l (.lst (xs++[y])))
theorem Yz:MtM X "list.append" QkF:=by
 intro pins s σ H x vs v us Q I rx rv h
 obtain ⟨l,xs,y,rfl,rfl,hH,hz,q⟩:=h
 cases rx
 obtain ⟨u,rfl,ru⟩:=rv.one
 obtain ⟨z,its,n,r,hl,e⟩:=I.lstM hH
 refine call_meets F.slot_list_append ⟨_,e,rfl⟩ F.entry_list_append (F.args_list_append_2 _ _) (PySem.list_append l its.toArray n u (by rw [List.size_toArray];omega)) ⟨e,?_⟩
 refine ⟨.non,_,I.lset (its':=its++[u]) hH e (by simp) (r.append (.cons ru .nil)) ?_,rfl,q⟩
 rw [List.length_append,List.length_singleton]
 omega
theorem len_rep {α:Type} (xs:List α) (k:Nat):(List.replicate k xs).flatten.length=k * xs.length:=by
 induction k with
 | zero=>simp
 | succ k ih=>rw [List.replicate_succ,List.flatten_cons,List.length_append,ih,Nat.succ_mul,Nat.add_comm]
end
end L2
namespace Att
open PySem PySem.W PySem.Calls PyProof.Rows
theorem QdY {P:Params} {h:Heap}:∀ (ns:List Int) (vs:List Value),WellAll P h vs (ns.map WData.int)→IntsAre vs ns:=by
 intro ns
 induction ns with
 | nil =>
  intro vs w
  rw [List.map_nil] at w
  cases w
  exact .nil
 | cons n ns ih =>
  intro vs w
  rw [List.map_cons] at w
  cases w with
  | cons a b =>
   cases a
   exact .cons _ _ (ih _ b)
theorem QlF {l:OpenLaw} {n:Nat} (hn:l.most=some n) {P:Params} {h:Heap} {args:List WData} {vals:List Value}
  (hpre:l.row.toRowW.claim.pre args=true) (hwl:WellAll P h vals args) :
  ∃ a vs ns,vals=[Value.ref a]∧args=[WData.list (ns.map WData.int)]∧h.get? a=some { cls := .type "list",data := .seq vs.toArray }∧IntsAre vs ns∧ns.length≤n:=by
 have hsh:WShape.hasAll [] args [.list .int]=true:=(pre_splitW hpre).1
 have hc:l.pre.holds [] { args:=args }=true:=(pre_splitW hpre).2
 obtain ⟨d,r,rfl,h1,h2⟩:=hasAllW_cons hsh
 obtain rfl:=hasAllW_nil h2
 obtain ⟨xs,rfl,h3⟩:=hasW_list h1
 obtain ⟨ns,rfl⟩:=items_int h3
 have hlen:ns.length≤n:=by
  unfold OpenLaw.pre at hc
  have h4:(WTm.not (.lt (.lit (.int (n:Int))) (.len (.arg 0)))).holds [] { args:=[.list (ns.map .int)] }=true:=by
   have h4:=(holds_andW hc).1
   rw [hn] at h4
   exact h4
  have h5:=condW_of h4 (w_not (w_lt w_lit (w_len_list (w_arg rfl))))
  rw [List.length_map] at h5
  refine Nat.le_of_not_lt fun q => ?_
  have q':(n:Int) < ((ns.length:Nat):Int):=by omega
  first
   | (rw [decide_eq_true q'] at h5;exact absurd h5 (by decide))
   | (simp at h5;omega)
 cases hwl with
 | cons w1 w2 =>
  cases w2
  cases w1 with
  | list ho hall=>exact ⟨_,_,ns,rfl,rfl,ho,QdY ns _ hall,hlen⟩
theorem QlK (l:OpenLaw) (args:List WData):l.row.toRowW.claim.post args (.bool true) args=true :=
 postW_of (r:=l.row.toRowW) (X:=(true==true))
  (show WShape.has [] (.bool true) .bool=true by first | rfl | decide | simp [WShape.has,WShape.arms,WShape.armsAll])
  (show (WTm.eq .res (.lit (.bool true))).value [] { args:=args,res:=some (.bool true),after:=args }=some (.bool (true==true)) from w_eq_bool (w_res rfl) w_lit) rfl
theorem attach_call {l:OpenLaw} {n:Nat} {q:Program} {loose:List Str} {XP:(Str→Option Value)→Heap→Prop} {YP:World→Heap→Prop} {d:DefRec}
  (hn:l.most=some n) (hdf:d.params.defaults=[])
  (call:∀ (w:World) (s₀ s₁:Shared) (mg mb:Str→Option Value) (fa:Addr) (o:Obj) (pm cd doc:Value) (a:Addr) (vs:List Value) (ns:List Int),
   Ground q loose [] XP w s₀ mg mb s₁.heap→YP w s₁.heap →
   s₁.heap.get? fa=some o→o.data = .func (docDef d.name d.params d.body d.scope pm cd doc)→s₁.heap.CodeRec cd d.name→mg d.name=some (.ref fa) →
   s₁.heap.get? a=some { cls := .type "list",data := .seq vs.toArray }→IntsAre vs ns→ns.length≤n→s₁.gens = #[] →
   codeAny (model l.prog w) callerA (.call (.ref fa) ⟨[.ref a],[]⟩) (fun r s'=>r = .ok (.ret (.bool true))∧OldK s₁.heap s'.heap∧s'.os=s₁.os∧AllBare s'.gens) s₁) :
  WalkO q loose XP YP l.row.toRowW d [] (fun f vs=>PySem.call f vs):=by
 intro w s₀ s₁ mg mb G Y fa o pm cd doc dV kV ho hd hcd hD hmg hg args vals as hpre hlay hrd hwl hlo
 obtain rfl:dV = .none:=Dflts.none hD hdf
 obtain rfl:kV = .none:=Dflts.noKw hD
 obtain ⟨a,vs,ns,rfl,rfl,hobj,hints,hlen⟩:=QlF hn hpre hwl
 refine enter_call (codeAny_mono (call w s₀ s₁ mg mb fa o pm cd doc a vs ns G Y ho (fd_plain hd) hcd hmg hobj hints hlen hg) fun r s' hq => ?_)
 obtain ⟨rfl,h2,h3,h4⟩:=hq
 exact ⟨.inl ⟨.bool true,.bool true,[],rfl,fun _=>rfl,.bool true,QlK l _,fun _=>⟨List.Pairwise.nil,fun _ hm=>(nomatch hm)⟩⟩,h2,h3,h4⟩
end Att
namespace L2
open PySem PySem.Spec PyProof.Rows
theorem Qdo:∀ {vs:List Value} {ns:List Int},IntsAre vs ns→Vals (ns.map V.int) vs
 | _,_,.nil => .nil
 | _,_,.cons n t h => .cons ⟨t,rfl⟩ (Qdo h)
def Only (H:Hp):Prop:=∀ b,H b=none∨∃ o xs,H b=some (.frz o (.lst xs))
theorem law_call {P:Program} {w:World} {K:PySem.W.Frag} {mg mb:Str→Option Value} {CX:CXT} {k:Nat} {fa a:Addr} {fd:FuncData} {x:Str} {sp:Sp} {s₁:Shared} {vs:List Value} {ns:List Int}
  (KX:K.In s₁.heap) (hns:s₁.heap.Ns mainGlobals mg) (hb:s₁.heap.Ns builtinsNs mb) (hbb:∀ x:Str,x ≠ "__name__"→mb x=bootBuiltins x) (hlim:s₁.heap.NoLimit) (hg:s₁.gens = #[])
  (ha:s₁.heap.get? a=some { cls := .type "list",data := .seq vs.toArray }) (hi:IntsAre vs ns) (hl:ns.length≤sizeLine) (hr:Room k callerA)
  (F:∀ base:Heap,K.In base→base.Ns mainGlobals mg→FnOk P w K mg base CX k fa fd [x] sp) (hbind:∀ (s:Shared) (u:Value),BindsTo s fd ⟨[u],[]⟩ [(x,u)])
  (hsp:∀ H:Hp,Only H→SqL K H a (ns.map V.int)→sp [.ref a] H (fun v _=>v = .bl true) fun _ _ _=>False)
  (hCX:∀ H e s',CX [] H s₁ (fun _ _ _=>False) e s'→False) :
  codeAny (model P w) callerA (.call (.ref fa) ⟨[.ref a],[]⟩) (fun r s'=>r = .ok (.ret (.bool true))∧OldK s₁.heap s'.heap∧s'.os=s₁.os∧AllBare s'.gens) s₁:=by
 have rv:=Qdo hi
 have lenV:=hi.length
 -- from an abstract heap in which nothing but the script may be tracked
 have core:∀ H:Hp,Only H→SqL K H a (ns.map V.int)→HOk P w H s₁.heap→(∀ b,H b≠none→b=a)→(H a≠none→K.lookup a=none) →
   codeAny (model P w) callerA (.call (.ref fa) ⟨[.ref a],[]⟩) (fun r s'=>r = .ok (.ret (.bool true))∧OldK s₁.heap s'.heap∧s'.os=s₁.os∧AllBare s'.gens) s₁:=by
  intro H hO hS hok hA hK
  have base_of:∀ {b:Addr} {o:Obj},s₁.heap.get? b=some o→H b=none→(hidT s₁.heap H).get? b=some o:=fun e n=>hidT_get e n
  have noA:∀ {b:Addr} {o:Obj} {es:Array DictEntry} {ep:Nat},s₁.heap.get? b=some o→o.data = .dict es ep→H b=none:=fun {b o es ep} e d=>by
   cases q:H b with
   | none=>rfl
   | some u =>
    have e':b=a:=hA b (by rw [q];simp)
    subst e'
    rw [ha] at e;cases e
    have d':Data.seq vs.toArray _=Data.dict es ep:=d
    cases d'
  have nsK:∀ {b:Addr} {m:Str→Option Value},s₁.heap.Ns b m→(hidT s₁.heap H).Ns b m:=fun {b m} ⟨o,es,ep,e,d,r⟩=>⟨o,es,ep,base_of e (noA e d),d,r⟩
  have hKb:K.In (hidT s₁.heap H):=fun b o e=>base_of (KX b o e) (by
   cases q:H b with
   | none=>rfl
   | some u =>
    have e':b=a:=hA b (by rw [q];simp)
    subst e'
    rw [hK (by rw [q];simp)] at e;cases e)
  have hM:Mod K mg (hidT s₁.heap H):=⟨hKb,nsK hns,⟨mb,nsK hb,hbb⟩,let ⟨mc,h1,h2⟩:=hlim;⟨mc,nsK h1,h2⟩⟩
  have e0:Env0 P w K mg (hidT s₁.heap H) callerA [] s₁ H:=⟨rfl,hM,fun b o e=>of_hidT e,Nat.le_of_eq (Qmd _ _),trivial,fun b hb=>absurd (show b∈([]:List Addr) from hb) (by simp),hok,.of_eq hg⟩
  refine codeAny_mono ((F _ hKb (nsK hns)).run callerA [] s₁ H ⟨[.ref a],[]⟩ [.ref a] [.ref a] _ _ hr e0 (hbind s₁ (.ref a)) (.cons rfl .nil) (hsp H hO hS)) fun r s' h => ?_
  cases r with
  | error e=>exact (hCX H e s' h).elim
  | ok fl =>
   cases fl with
   | next=>exact False.elim h
   | brk=>exact False.elim h
   | cont=>exact False.elim h
   | ret u =>
    obtain ⟨v,H',os,bare,un,hok',r',q⟩:=h
    have q':v = .bl true:=q
    subst q'
    obtain rfl:u=Value.bool true:=r'
    refine ⟨rfl,OldK.of_keep fun b o e => ?_,os,bare⟩
    cases q:H b with
    | none=>exact un.keep b o e q (by intro z;exact absurd (show b∈([]:List Addr) from z) (by simp)) (by simp)
    | some u =>
     rcases hO b with z | ⟨ob,xs,z⟩
     ·rw [q] at z;cases z
     ·have z2:=un.frzs b ob _ z
      obtain ⟨e1,_⟩:=hok b _ z
      obtain ⟨e2,_⟩:=hok' b _ z2
      rw [e] at e1;cases e1
      exact e2
 cases hk:K.lookup a with
 | some o =>
  -- the script is one of the module's own objects
  have e:=KX a o hk
  rw [ha] at e
  cases e
  refine core (fun _=>none) (fun _ => .inl rfl) (.inr ⟨_,vs.toArray,_,hk,rfl,rfl,rfl,by rw [List.size_toArray,lenV];exact hl,by simpa using rv⟩) (fun b u z=>by have z':(none:Option HO)=some u:=z;cases z') (fun b z=>absurd rfl z) fun z=>absurd rfl z
 | none =>
  refine core (fun b=>if b=a then some (.frz { cls := .type "list",data := .seq vs.toArray } (.lst (ns.map V.int))) else none) (fun b => ?_) (.inl (.inr ⟨{ cls := .type "list",data := .seq vs.toArray },if_pos rfl⟩)) (fun b u z => ?_) (fun b z => ?_) fun _=>hk
  ·by_cases hb:b=a
   ·exact .inr ⟨_,_,if_pos hb⟩
   ·exact .inl (if_neg hb)
  ·by_cases hb:b=a
   ·have z':=(if_pos hb).symm.trans z
    cases z'
    subst hb
    exact ⟨ha,by rw [List.length_map];exact hl,vs,_,rv,ha⟩
   ·have z':=(if_neg hb).symm.trans z
    cases z'
  ·by_cases hb:b=a
   ·exact hb
   ·exact absurd (if_neg hb) z
abbrev KOf {K:PySem.W.Frag} {h:Heap} (_:K.In h):PySem.W.Frag:=K
theorem walk_of {l:PySem.W.OpenLaw} {n k:Nat} {q:Program} {loose:List Str} {XP:(Str→Option Value)→Heap→Prop} {YP:World→Heap→Prop} {d:DefRec} {K:Params→PySem.W.Frag} {CX:World→CXT} {sp:World→Sp} {x:Str}
  (hn:l.most=some n) (hn2:n≤sizeLine) (hdf:d.params.defaults=[]) (hr:Room k callerA)
  (hY:∀ (w:World) (h:Heap),YP w h→(K w.params).In h)
  (F:∀ (w:World) (mg:Str→Option Value) (fa:Addr) (h:Heap),(K w.params).In h→h.Ns mainGlobals mg→mg d.name=some (.ref fa) →
   ∃ fd:FuncData,(∀ (s:Shared) (u:Value),BindsTo s fd ⟨[u],[]⟩ [(x,u)]) ∧
    ∀ base:Heap,(K w.params).In base→base.Ns mainGlobals mg→FnOk l.prog w (K w.params) mg base (CX w) k fa fd [x] (sp w))
  (hsp:∀ (w:World) (H:Hp) (a:Addr) (ns:List Int),ns.length≤n→Only H→SqL (K w.params) H a (ns.map V.int)→sp w [.ref a] H (fun v _=>v = .bl true) fun _ _ _=>False)
  (hCX:∀ (w:World) (H:Hp) (s:Shared) (e:Value) (s':Shared),CX w [] H s (fun _ _ _=>False) e s'→False) :
  PySem.W.WalkO q loose XP YP l.row.toRowW d [] (fun f vs=>PySem.call f vs):=by
 refine Att.attach_call hn hdf fun w s₀ s₁ mg mb fa o pm cd doc a vs ns G Y ho hd hcd hmg hobj hints hlen hg => ?_
 have KX:=hY w _ Y
 obtain ⟨fd,hb,hF⟩:=F w mg fa _ KX G.T.g hmg
 exact law_call KX G.T.g G.T.b G.T.builtins G.T.nolimit hg hobj hints (Nat.le_trans hlen hn2) hr hF hb (fun H hO hS=>hsp w H a ns hlen hO hS) fun H e s'=>hCX w H s₁ e s'
end L2
/- THE LAST THEOREM (shape;LID,My.* are yours):
   My.Adr: a structure of the addresses that your layer names (classes,functions);My.Txt K t: a structure (Prop) of the equations over K;
   My.txt_mk:{K} {implicit addresses ..} (e1:nsIn K mainGlobals "law"=some (some (.ref f))) (e2:K.lookup f=some ⟨oc,od,.func (fnOf "law" "law" params body scope dV kV doc pm an cdv ct),sl⟩) (e3:codeIn K cdv "law"=true) ..:∃ t,My.Txt K t
set_option maxRecDepth 100000 in
set_option maxHeartbeats 0 in
theorem PySem.Challenge.cw_LID_holds : PySem.Challenge.rw_LID.Holds := by
 w_on;o_law;k_head;(case hw=>w_witness2)
 k_fill
 refine L2.walk_of (l:=PySem.Challenge.rw_LID) (n:=63) (k:=40) (x := "script") (CX:=fun w => ..) (sp:=fun _=>My.sp_law) rfl (by decide) rfl ⟨rfl,by decide,by decide⟩ (fun w h Y=>PySem.W.kIn_of Y) ?F ?S ?C
 case F =>
  intro w mg fa h KX G hmg
  have T:∃ t,My.Txt (L2.KOf KX) t:=by
   dsimp only [L2.KOf]                          -- K must stand as «<heap const> w.params» for k_is
   refine' My.txt_mk ?e1 ?e2 ?e3 ..
   (case e1=>PySem.W.k_is)                    -- in the order: a name -> its address -> its object -> its parts
   (case e2=>PySem.W.k_is)
   ..
  obtain ⟨t,T⟩:=T
  have e0:=hmg.symm.trans (PySem.W.mg_of KX G T.law)
  cases e0                                       -- fa is the law's own address
  exact ⟨_,fun s u => .of_eq rfl,fun base kb nb=>My.law_fn T kb nb⟩     -- if «.of_eq rfl» comes too early: refine' ⟨_,?b,fun base kb nb=>My.law_fn T kb nb⟩;exact fun s u => .of_eq rfl
 case S=>exact fun w H a ns hl hO hS => ..
 case C=>exact ..
(the tactic k_is has no namespace: write k_is) -/
namespace L2
open PySem PySem.Spec PyProof.Rows
def inClass (s:Stmt) (j:Nat):Stmt:=match s with
 | .ClassDef _ _ _ body _ _ _ _ _ _ _=>body.getD j (.Pass ⟨0,0,0,0⟩)
 | _ => .Pass ⟨0,0,0,0⟩
def Qp (s:Stmt):Arguments:=match s with
 | .FunctionDef _ a _ _ _ _ _ _ _ _=>a
 | _=>{ posonlyargs:=[],args:=[],vararg:=none,kwonlyargs:=[],kw_defaults:=[],kwarg:=none,defaults:=[] }
def Qm (s:Stmt):List Stmt:=match s with
 | .FunctionDef _ _ b _ _ _ _ _ _ _=>b
 | _=>[]
def Qe (s:Stmt):Scope:=match s with
 | .FunctionDef _ _ _ _ _ _ sc _ _ _=>sc
 | _=>{ kind := .function,names:=[],isGenerator:=false,isCoroutine:=false }
abbrev CX0:CXT:=fun _ _ _ _ _ _=>False
abbrev E0:XK:=fun _ _ _=>False
theorem pass0 {X:Cx}:Qkp CX0 X E0:=fun _ _ _ _ _ _ _ h=>h.elim
structure Fun (K:PySem.W.Frag) (x qual:Str) (st:Stmt) (f:Addr) (fd:FuncData):Prop where
 ex:∃ (oc:Value) (od:Option Addr) (kV doc pm:Value) (an:Option Addr) (cdv ct:Value) (osl:Array (Option Value)),
  fd=PySem.W.fnOf x qual (Qp st) (Qm st) (Qe st) .none kV doc pm an cdv ct∧K.lookup f=some ⟨oc,od,.func fd,osl⟩∧PySem.W.codeIn K cdv qual=true
 kp:PySem.W.keepIn K (.ref f)=true
section
variable {P:Program} {w:World} {K:PySem.W.Frag} {mg:Str→Option Value} {base:Heap}
theorem Fun.ok {x qual:Str} {st:Stmt} {f:Addr} {fd:FuncData} {N ps:List Str} {k:Nat} {sp:Sp} (F:Fun K x qual st f fd) (S:FnScope N ps (Qe st)) (len:∀ vs H Q E,sp vs H Q E→vs.length=ps.length)
  (hbody:∀ (cdv:Value) (A:Around) (outer:List Env) (s:Shared) (H:Hp) (vs:List V) (Q:VK) (E:XK),Room k (A.deeper (envOfC qual (Qe st) s.heap.objs.size f cdv))→sp vs H Q E →
   ∃ t,PSs (cxOf CX0 P w K mg base N qual (Qe st) f cdv A outer s H E).nox (Qm st) t∧t { nx:=fun _ H'=>Q .non H',rt:=Q } (Qaa N vs) H):FnOk P w K mg base CX0 (k + 1) f fd ps sp:=by
 obtain ⟨oc,od,kV,doc,pm,an,cdv,ct,osl,rfl,lk,hcd⟩:=F.ex
 refine fn_of lk hcd S len fun A outer s H vs Q E hr hsp => ?_
 obtain ⟨t,h,q⟩:=hbody cdv A outer s H vs Q E hr hsp
 exact ⟨t,h.nox,q⟩
theorem Fun.binds {x qual:Str} {st:Stmt} {f:Addr} {fd:FuncData} {ps:List Str} (F:Fun K x qual st f fd)
  (h:∀ (kV doc pm:Value) (an:Option Addr) (cdv ct:Value) (us:List Value),us.length=ps.length→bindArgs (PySem.W.fnOf x qual (Qp st) (Qm st) (Qe st) .none kV doc pm an cdv ct) ⟨us,[]⟩=pure (ps.zip us)):Qbx K fd ps []:=by
 obtain ⟨oc,od,kV,doc,pm,an,cdv,ct,osl,rfl,lk,hcd⟩:=F.ex
 exact .all (h kV doc pm an cdv ct)
theorem QX {x qual:Str} {st:Stmt} {f:Addr} {oc:Value} {od an:Option Addr} {osl:Array (Option Value)} {kV doc pm cdv ct:Value} (l:K.lookup f=some ⟨oc,od,.func (PySem.W.fnOf x qual (Qp st) (Qm st) (Qe st) .none kV doc pm an cdv ct),osl⟩)
  (c:PySem.W.codeIn K cdv qual=true) (k:PySem.W.keepIn K (.ref f)=true):Fun K x qual st f (PySem.W.fnOf x qual (Qp st) (Qm st) (Qe st) .none kV doc pm an cdv ct):=⟨⟨oc,od,kV,doc,pm,an,cdv,ct,osl,rfl,l,c⟩,k⟩
end
section
variable {X:Cx}
theorem pv (i:Nat) {x:Str} {pos:Pos} (hN:X.N[i]?=some x:=by rfl) (hv:Vis X.env.scope x:=by first | exact Or.inl rfl | exact Or.inr (Or.inl rfl) | exact Or.inr (Or.inr rfl)) (hd:(x==("__debug__":Str))=false:=by decide)
  (hcd:(x==("__classdict__":Str))=false:=by decide):PE X (.Name x pos) (tVar i):=pe_var hN hv hd hcd
end
def Same (H H':Hp):Prop:=∀ b o,H b=some o→H' b=some o
theorem Same.refl (H:Hp):Same H H:=fun _ _ h=>h
theorem Same.trans {H H1 H2:Hp} (a:Same H H1) (b:Same H1 H2):Same H H2:=fun c o h=>b c o (a c o h)
theorem Same.free {H H':Hp} (e:Same H H') {l:Addr} (h:H' l=Option.none):H l=Option.none:=by
 cases q:H l with
 | none=>rfl
 | some o =>
  rw [e l o q] at h
  cases h
theorem Same.seq {K:PySem.W.Frag} {H H':Hp} {a:Addr} {xs:List V} (e:Same H H') (h:SqL K H a xs):SqL K H' a xs:=by
 rcases h with (h | ⟨o,h⟩) | h
 ·exact .inl (.inl (e _ _ h))
 ·exact .inl (.inr ⟨o,e _ _ h⟩)
 ·exact .inr h
end L2
namespace L2.PM
open PySem PySem.Spec PyProof.Rows
def clos (env:Env):List (Str×NameKind)→List (Str×Addr)→List (Str×Addr)
 | [],acc=>acc
 | (n,k) :: r,acc=>if k==NameKind.free then clos env r ((n,(env.cells.lookup n).getD 0) :: acc) else clos env r acc
theorem Qfo {env:Env}:∀ (l:List (Str×NameKind)) (acc:List (Str×Addr)),(∀ x∈l,x.2=NameKind.free→∃ c,env.cells.lookup x.1=some c) →
  (forIn l acc fun (x:Str×NameKind) (cs:List (Str×Addr))=>if (x.2==NameKind.free)=true then (do let a ← cellOf env x.1;pure (ForInStep.yield ((x.1,a) :: cs)):Sem _) else pure (ForInStep.yield cs))=(pure (clos env l acc):Sem _)
 | [],acc,_=>rfl
 | (n,k) :: r,acc,h=>by
  have hr:∀ x∈r,x.2=NameKind.free→∃ c,env.cells.lookup x.1=some c:=fun x hx=>h x (List.mem_cons_of_mem _ hx)
  by_cases hk:k=NameKind.free
  ·subst hk
   obtain ⟨c,hc⟩:=h (n,NameKind.free) List.mem_cons_self rfl
   have hcell:cellOf env n=pure c:=by unfold cellOf;rw [hc]
   simp only [List.forIn_cons,beq_self_eq_true,if_true,clos,hcell,hc,Option.getD_some]
   rw [show ((pure c:Sem Addr) >>= fun a=>(pure (ForInStep.yield ((n,a) :: acc)):Sem _))=pure (ForInStep.yield ((n,c) :: acc)) from rfl]
   exact Qfo r ((n,c) :: acc) hr
  ·have hb:(k==NameKind.free)=false:=by simpa using hk
   simp only [List.forIn_cons,hb,Bool.false_eq_true,if_false,clos]
   exact Qfo r acc hr
theorem QbO {scope:Scope} {env:Env} (h:∀ x∈scope.names,x.2=NameKind.free→∃ c,env.cells.lookup x.1=some c):closureFor scope env=pure (clos env scope.names []):=by
 have e:=Qfo scope.names [] h
 have f:(fun (x:Str×NameKind) (cs:List (Str×Addr))=>(match x with
   | (name,kind)=>if (kind==NameKind.free)=true then (do let a ← cellOf env name;pure (ForInStep.yield ((name,a) :: cs)):Sem _) else pure (ForInStep.yield cs))) =
   (fun (x:Str×NameKind) (cs:List (Str×Addr))=>if (x.2==NameKind.free)=true then (do let a ← cellOf env x.1;pure (ForInStep.yield ((x.1,a) :: cs)):Sem _) else pure (ForInStep.yield cs)):=by
  funext x cs
  cases x
  rfl
 unfold closureFor
 dsimp only
 rw [f,e]
 rfl
theorem QcZ {env:Env} {x:Str}:∀ (l:List (Str×NameKind)) (acc:List (Str×Addr)),(x,NameKind.free)∈l∨acc.lookup x=env.cells.lookup x→(∀ y∈l,y.2=NameKind.free→∃ c,env.cells.lookup y.1=some c) →
  (clos env l acc).lookup x=env.cells.lookup x
 | [],acc,h,_=>by
  rcases h with h | h
  ·cases h
  ·exact h
 | (n,k) :: r,acc,h,hc=>by
  have hr:∀ y∈r,y.2=NameKind.free→∃ c,env.cells.lookup y.1=some c:=fun y hy=>hc y (List.mem_cons_of_mem _ hy)
  by_cases hk:k=NameKind.free
  ·subst hk
   obtain ⟨c,hcn⟩:=hc (n,NameKind.free) List.mem_cons_self rfl
   have hcn:env.cells.lookup n=some c:=hcn
   simp only [clos,beq_self_eq_true,if_true]
   refine QcZ r _ ?_ hr
   by_cases hx:x=n
   ·subst hx
    right
    simp [hcn]
   ·have hb:(x==n)=false:=by simpa using hx
    rcases h with h | h
    ·rcases List.mem_cons.mp h with h | h
     ·injection h with h1 _
      exact absurd h1 hx
     ·exact .inl h
    ·right
     simp only [List.lookup_cons,hb]
     exact h
  ·have hb:(k==NameKind.free)=false:=by simpa using hk
   simp only [clos,hb,Bool.false_eq_true,if_false]
   refine QcZ r acc ?_ hr
   rcases h with h | h
   ·rcases List.mem_cons.mp h with h | h
    ·injection h with _ h2
     exact absurd h2.symm hk
    ·exact .inl h
   ·exact .inr h
theorem Qhf {env:Env} {x:Str} {c:Addr}:∀ (l:List (Str×NameKind)) (acc:List (Str×Addr)),(acc.lookup x=some c→env.cells.lookup x=some c)→(∀ y∈l,y.2=NameKind.free→∃ c,env.cells.lookup y.1=some c) →
  (clos env l acc).lookup x=some c→env.cells.lookup x=some c
 | [],acc,h,_,e=>h e
 | (n,k) :: r,acc,h,hc,e=>by
  have hr:∀ y∈r,y.2=NameKind.free→∃ c,env.cells.lookup y.1=some c:=fun y hy=>hc y (List.mem_cons_of_mem _ hy)
  by_cases hk:k=NameKind.free
  ·subst hk
   obtain ⟨d,hcn⟩:=hc (n,NameKind.free) List.mem_cons_self rfl
   have hcn:env.cells.lookup n=some d:=hcn
   simp only [clos,beq_self_eq_true,if_true] at e
   refine Qhf r _ (fun q => ?_) hr e
   by_cases hx:x=n
   ·subst hx
    simp [hcn] at q
    rw [hcn,q]
   ·have hb:(x==n)=false:=by simpa using hx
    simp only [List.lookup_cons,hb] at q
    exact h q
  ·have hb:(k==NameKind.free)=false:=by simpa using hk
   simp only [clos,hb,Bool.false_eq_true,if_false] at e
   exact Qhf r acc h hr e
def blkEnv (env:Env) (sc':Scope) (cl:List (Str×Addr)) (C:Addr):Env :=
 {scope:=sc',locals:=C,globals:=env.globals,cells:=cl,qual:=env.qual,func:=none,code:=env.code,frame:=env.frame,builtins:=env.builtins }
def QaQ (X:Cx) (pins:List (Addr×Obj)) (N':List Str) (sc':Scope) (cl:List (Str×Addr)) (C:Addr) (s:Shared) (H:Hp) (fp:List Addr):Cx where
 prog:=X.prog
 w:=X.w
 K:=X.K
 mg:=X.mg
 base:=X.base
 A:=X.A
 N:=N'
 s₀:=s
 H₀:=H
 env:=blkEnv X.env sc' cl C
 outer:=X.stack
 stack:=X.stack
 ex:=fp
 fn:=fun _=>false
 calm:=X.calm
 pn:=X.pn++pins
 xe:=fun _ _=>False
def Zu (osc scope:Scope):Scope :=
 {scope with names:=scope.names.map fun (n,k)=>if (k == .free&&osc.kind == .function&&osc.names.lookup n==some .cell) then (n,.cell) else (n,k) }
structure CompOk (N:List Str) (osc scope:Scope) (N':List Str) (nt:Nat) (caps:List Nat):Prop where
 kind:scope.kind = .function
 nocell:∀ x∈scope.names,x.2≠NameKind.cell
 locs:∀ x∈scope.names,x.2=NameKind.local→scope.names.lookup x.1=some .local
 free:∀ x∈scope.names,x.2=NameKind.free→osc.names.lookup x.1=some .cell∨osc.names.lookup x.1=some .free
 len:N'.length=nt + caps.length
 cap:∀ p∈caps.zip (N'.drop nt),N[p.1]?=some p.2∧scope.names.lookup p.2=some NameKind.free
def Qac (nt:Nat) (caps:List Nat) (σ:St):St:=List.replicate nt none++caps.map fun j=>(σ[j]?).getD none
section
variable {X:Cx} {pins:List (Addr×Obj)} {σ:St} {H:Hp} {s:Shared} {scope:Scope} {N':List Str} {nt:Nat} {caps:List Nat} {fp:List Addr}
theorem Qmh (I:Inv X pins σ H s) (ck:CompOk X.N X.env.scope scope N' nt caps):∀ x∈scope.names,x.2=NameKind.free→∃ c,X.env.cells.lookup x.1=some c:=fun x hx hf =>
 I.ok.has x.1 (ck.free x hx hf)
theorem Qcj {osc:Scope} {x:Str} {k:NameKind}:∀ {names:List (Str×NameKind)},names.lookup x=some NameKind.free →
  (names.map fun (p:Str×NameKind)=>if (p.2==NameKind.free&&osc.kind == .function&&osc.names.lookup p.1==some .cell) then (p.1,NameKind.cell) else (p.1,p.2)).lookup x=some k→k = .cell∨k = .free
 | [],h,_=>by cases h
 | (n,q) :: r,h,e=>by
  by_cases hx:x=n
  ·subst hx
   simp at h
   subst h
   simp only [List.map_cons] at e
   split at e <;> simp at e <;> simp [e.symm]
  ·have hb:(x==n)=false:=by simpa using hx
   simp only [List.lookup_cons,hb] at h
   simp only [List.map_cons] at e
   split at e
   ·simp only [List.lookup_cons,hb] at e
    exact Qcj h e
   ·simp only [List.lookup_cons,hb] at e
    exact Qcj h e
end
def PIfs (X:Cx) (ifs:List Expr) (t:TT):Prop :=
 ∀ (pins:List (Addr×Obj)) (s:Shared) (σ:St) (H:Hp) (Q:Bool→Hp→Prop),Inv X pins σ H s→t σ H Q →
  wpAny (model X.prog X.w) X.A (forIn ifs true fun c r=>if r=true then do let ok ← isTrue c X.env (eval c X.env);pure (ForInStep.yield ok) else pure (ForInStep.yield r)) (TP X pins σ Q) X.xe s
def tYes:TT:=fun _ H Q=>Q true H
theorem pifs_nil {X:Cx}:PIfs X [] tYes:=fun _ _ _ H _ I h=>wpAny_tests_nil ⟨H,I,h⟩
theorem pifs_one {X:Cx} {c:Expr} {t:TT} (h:PT X c t):PIfs X [c] t:=fun pins s σ H Q I hq=>wpAny_tests_one (h pins s σ H Q I hq)
theorem Qik {prog:Program} {w:World} {A:Around} {R:Result→Shared→Prop} {s:Shared} {elt target iter:Expr} {ifs:List Expr} {scope:Scope} {pos:Pos} {it acc:Value} {env:Env} (I:Nat→Shared→Prop)
  (turn:∀ n s,I n s→wpAny (model prog w) A (pyNext it) (fun r s₁=>match r with
   | none=>R (.ok .next) s₁
   | some v=>wpAny (model prog w) A (letOwnedTupleGo target it v) (fun _ s₁'=>wpAny (model prog w) A (assign target env v) (fun _ s₂ =>
     wpAny (model prog w) A (forIn ifs true fun c r=>if r=true then do let ok ← isTrue c env (eval c env);pure (ForInStep.yield ok) else pure (ForInStep.yield r)) (fun ok s₃ =>
      if ok=true then wpAny (model prog w) A (eval elt env) (fun x s₄ =>
       wpAny (model prog w) A (call (.builtin "list.append") [acc,x]) (fun _ s₅=>∃ m,m < n∧I m s₅) (fun _ _=>False) s₄) (fun _ _=>False) s₃
      else ∃ m,m < n∧I m s₃) (fun _ _=>False) s₂) (fun _ _=>False) s₁') (fun _ _=>False) s₁) (fun _ _=>False) s)
  (n:Nat) (h:I n s) :
  codeAny (model prog w) A (.compLoop (.ListComp elt [⟨target,iter,ifs,0⟩] scope pos) 0 it acc env) R s:=by
 refine codeAny_loop rfl I (fun n s hI => ?_) n h
 show wpAny _ A ((compTurn (.ListComp elt [⟨target,iter,ifs,0⟩] scope pos) 0 it acc env).onRaise (fun x=>do noteFrame x env;theTreesLotGoes x)) _ _ s
 refine wpAny_noted ?_
 rw [compTurn_list]
 refine wpAny_bind (wpAny_standAt (wpAny_bind (wpAny_mono (turn n s hI) (fun r s₁ h₁ => ?_) fun _ _ h'=>h'.elim)))
 cases r with
 | none=>exact wpAny_pure h₁
 | some v =>
  refine wpAny_bind (wpAny_mono h₁ (fun _ s₁' h₁' => ?_) fun _ _ h'=>h'.elim)
  refine wpAny_bind (wpAny_mono h₁' (fun _ s₂ h₂=>wpAny_bind (wpAny_mono h₂ (fun ok s₃ h₃ => ?_) fun _ _ h'=>h'.elim)) fun _ _ h'=>h'.elim)
  cases ok with
  | false=>exact wpAny_pure ⟨rfl,h₃⟩
  | true =>
   exact wpAny_bind (wpAny_bind (wpAny_mono h₃ (fun x s₄ h₄=>wpAny_bind (wpAny_mono h₄ (fun _ s₅ h₅=>wpAny_pure (wpAny_pure ⟨rfl,h₅⟩)) fun _ _ h'=>h'.elim)) fun _ _ h'=>h'.elim))
def StExt (σ σ':St):Prop:=σ'.length=σ.length∧∀ (i:Nat) (v:V),σ[i]?=some (some v)→σ'[i]?=some (some v)
def QfQ (J:It) (nt:Nat) (caps:List Nat) (g:TG) (tc:TT) (te:TE) (σ:St) (H1:Hp) (Qd:Addr→Hp→Prop):Prop :=
 ∀ D,H1 D=none→∃ W:Nat→Nat→List V→Hp→Prop,(∃ m,W 0 m [] (upd H1 D (.lst []))) ∧
  ∀ i m xs H2,W i m xs H2→(J.stop i H2∧Qd D H2)∨(J.go i H2∧∀ x H3,J.yld i H2 x H3→g x (Qac nt caps σ) H3 fun σ4 H4=>StExt (Qac nt caps σ) σ4 ∧
   tc σ4 H4 fun b H5=>if b=true then te σ4 H5 fun v H6=>H6 D=some (.lst xs)∧xs.length < sizeLine∧∃ m',m' < m∧W (i + 1) m' (xs++[v]) (upd H6 D (.lst (xs++[v]))) else ∃ m',m' < m∧W (i + 1) m' xs H5)
theorem Qkl {x:Str}:∀ (names:List (Str×NameKind)) (n:Nat) (acc:List (Str×Addr)),(x,NameKind.cell)∉names→(cellsFrom n names acc).lookup x=acc.lookup x
 | [],_,_,_=>rfl
 | (y,k) :: r,n,acc,h=>by
  have hr:(x,NameKind.cell)∉r:=fun z=>h (List.mem_cons_of_mem _ z)
  unfold cellsFrom
  split
  ·rename_i hk
   have hk:k=NameKind.cell:=beq_iff_eq.mp hk
   subst hk
   rw [Qkl r _ _ hr,List.lookup_cons]
   have:(x==y)=false:=by
    rw [beq_eq_false_iff_ne]
    rintro rfl
    exact h List.mem_cons_self
   rw [this]
  ·exact Qkl r _ _ hr
theorem Qkn {x:Str} {c:Addr}:∀ (names:List (Str×NameKind)) (h:Heap) (acc:List (Str×Addr)),(cellsFrom h.objs.size names acc).lookup x=some c→acc.lookup x=some c∨(h.objs.size≤c∧(pushCells h names).IsCell c none)
 | [],_,_,e => .inl e
 | (y,k) :: r,h,acc,e=>by
  unfold cellsFrom at e
  unfold pushCells
  split at e
  ·rename_i hk
   rw [if_pos hk]
   have e:(cellsFrom (h.push { cls := .type "cell",data := .cell none }).objs.size r ((y,h.objs.size) :: acc)).lookup x=some c:=by rw [Heap.size_push];exact e
   rcases Qkn r _ _ e with z | ⟨z1,z2⟩
   ·rw [List.lookup_cons] at z
    cases q:x==y with
    | true =>
     rw [q] at z
     cases z
     exact .inr ⟨Nat.le_refl _,_,pushCells_keeps r _ _ _ (Heap.get?_push_size _ rfl),rfl⟩
    | false=>rw [q] at z;exact .inl z
   ·rw [Heap.size_push] at z1
    exact .inr ⟨by omega,z2⟩
  ·rename_i hk
   rw [if_neg hk]
   exact Qkn r h acc e
theorem Qkm:∀ (names:List (Str×NameKind)) (n:Nat) (acc:List (Str×Addr)),(∀ x c,acc.lookup x=some c→c < n)→(∀ x y c,acc.lookup x=some c→acc.lookup y=some c→x=y)→∀ x y c,(cellsFrom n names acc).lookup x=some c→(cellsFrom n names acc).lookup y=some c→x=y
 | [],_,_,_,h2,x,y,c,e1,e2=>h2 x y c e1 e2
 | (z,k) :: r,n,acc,h1,h2,x,y,c,e1,e2=>by
  unfold cellsFrom at e1 e2
  split at e1
  ·rename_i hk
   rw [if_pos hk] at e2
   refine Qkm r (n + 1) ((z,n) :: acc) (fun x c e => ?_) (fun x y c e1 e2 => ?_) x y c e1 e2
   ·rw [List.lookup_cons] at e
    cases q:x==z with
    | true=>rw [q] at e;cases e;exact Nat.lt_succ_self _
    | false=>rw [q] at e;exact Nat.lt_succ_of_lt (h1 x c e)
   ·rw [List.lookup_cons] at e1 e2
    cases q1:x==z with
    | true =>
     cases q2:y==z with
     | true=>rw [beq_iff_eq.mp q1,beq_iff_eq.mp q2]
     | false =>
      rw [q1] at e1;rw [q2] at e2
      cases e1
      exact absurd (h1 y _ e2) (Nat.lt_irrefl _)
    | false =>
     cases q2:y==z with
     | true =>
      rw [q1] at e1;rw [q2] at e2
      cases e2
      exact absurd (h1 x _ e1) (Nat.lt_irrefl _)
     | false =>
      rw [q1] at e1;rw [q2] at e2
      exact h2 x y c e1 e2
  ·rename_i hk
   rw [if_neg hk] at e2
   exact Qkm r n acc h1 h2 x y c e1 e2
theorem newEnvC {M:Model} {A:Around} {E:Value→Shared→Prop} {s:Shared} {scope:Scope} {globals:Addr} {closure:List (Str×Addr)} {qual:Str} {func:Option Addr} {code:Value} {outer:Env} {builtins:Addr} {Q:Env→Shared→Prop}
  (hQ:Q (newEnv scope s.heap.objs.size globals (cellsFrom (s.heap.objs.size + 1) scope.names closure) qual func code (some outer) builtins) { s with heap:=pushCells (s.heap.push { cls := .type "dict",data := .dict #[] }) scope.names }) :
  wpAny M A (newFunctionEnv scope globals closure [] qual func code (some outer) builtins) Q E s:=by
 simp only [newFunctionEnv,Option.isSome_some,if_true]
 refine wpAny_bind (wpAny_alloc ?_)
 refine wpAny_bind (wpAny_layCells _ (fun name kind cells=>by cases hkc:kind==NameKind.cell <;> simp [hkc]) _ _ _ _ ?_)
 rw [show ({ s with heap:=s.heap.push { cls := .type "dict",data := .dict #[] } }:Shared).heap.objs.size=s.heap.objs.size + 1 from Heap.size_push ..]
 simp only [List.forIn_nil]
 exact wpAny_bind (wpAny_pure (wpAny_pure hQ))
def ownC (scope:Scope):Str→Bool:=fun x=>scope.names.lookup x==some NameKind.cell
def XQ (X:Cx) (fn:Str→Bool) (pins:List (Addr×Obj)) (N':List Str) (sc':Scope) (cl:List (Str×Addr)) (C:Addr) (s:Shared) (H:Hp) (fp:List Addr):Cx:={ QaQ X pins N' sc' cl C s H fp with fn:=fn }
structure CompOkC (N:List Str) (osc scope:Scope) (N':List Str) (nt:Nat) (caps:List Nat):Prop where
 kind:scope.kind = .function
 nd:∀ x,(x,NameKind.cell)∈scope.names→(x,NameKind.free)∉scope.names
 locs:∀ x∈scope.names,x.2=NameKind.local→scope.names.lookup x.1=some .local
 free:∀ x∈scope.names,x.2=NameKind.free→osc.names.lookup x.1=some .cell∨osc.names.lookup x.1=some .free
 len:N'.length=nt + caps.length
 cap:∀ p∈caps.zip (N'.drop nt),N[p.1]?=some p.2∧scope.names.lookup p.2=some NameKind.free
section
variable {X:Cx} {pins:List (Addr×Obj)} {σ:St} {H:Hp} {s:Shared} {scope:Scope} {N':List Str} {nt:Nat} {caps:List Nat} {fp:List Addr}
theorem Qex (I:Inv X pins σ H s) (ck:CompOkC X.N X.env.scope scope N' nt caps):∀ x∈scope.names,x.2=NameKind.free→∃ c,X.env.cells.lookup x.1=some c:=fun x hx hf =>
 I.ok.has x.1 (ck.free x hx hf)
theorem Qfp {env:Env} {x:Str} {c:Addr}:∀ (l:List (Str×NameKind)) (acc:List (Str×Addr)),(clos env l acc).lookup x=some c→(x,NameKind.free)∈l∨acc.lookup x=some c
 | [],_,e => .inr e
 | (n,k) :: r,acc,e=>by
  by_cases hk:k=NameKind.free
  ·subst hk
   simp only [clos,beq_self_eq_true,if_true] at e
   rcases Qfp r _ e with z | z
   ·exact .inl (List.mem_cons_of_mem _ z)
   ·rw [List.lookup_cons] at z
    cases q:x==n with
    | true=>exact .inl (by rw [beq_iff_eq.mp q];exact List.mem_cons_self)
    | false=>rw [q] at z;exact .inr z
  ·have hb:(k==NameKind.free)=false:=by simpa using hk
   simp only [clos,hb,Bool.false_eq_true,if_false] at e
   rcases Qfp r acc e with z | z
   ·exact .inl (List.mem_cons_of_mem _ z)
   ·exact .inr z
theorem Qdt {osc:Scope} {x:Str}:∀ (names:List (Str×NameKind)) (k:NameKind),(k=NameKind.cell∨k=NameKind.free) →
  (names.map fun (p:Str×NameKind)=>if (p.2==NameKind.free&&osc.kind == .function&&osc.names.lookup p.1==some .cell) then (p.1,NameKind.cell) else (p.1,p.2)).lookup x=some k→names.lookup x=some NameKind.cell∨names.lookup x=some NameKind.free
 | [],_,_,e=>by cases e
 | (n,q) :: r,k,hk,e=>by
  by_cases hx:x=n
  ·subst hx
   simp only [List.map_cons] at e
   split at e
   ·rename_i hcnd
    simp only [Bool.and_eq_true,beq_iff_eq] at hcnd
    exact .inr (by simp [hcnd.1.1])
   ·simp at e
    subst e
    rcases hk with hk | hk
    ·exact .inl (by simp [hk])
    ·exact .inr (by simp [hk])
  ·have hb:(x==n)=false:=by simpa using hx
   simp only [List.lookup_cons,hb]
   refine Qdt (osc:=osc) r k hk ?_
   simp only [List.map_cons] at e
   split at e <;> (simp only [List.lookup_cons,hb] at e;exact e)
theorem blk_invC (I:Inv X pins σ H s) (hc:X.calm=true) (ck:CompOkC X.N X.env.scope scope N' nt caps) (hf:∀ b∈fp,FpOk X pins H b) (hlt:∀ b∈fp,b < s.heap.objs.size) {tk:Nat} :
  Inv (XQ X (ownC scope) pins N' (Zu X.env.scope scope) (cellsFrom (s.heap.objs.size + 1) scope.names (clos X.env scope.names [])) s.heap.objs.size s H fp) [] (Qac nt caps σ) H { s with heap:=pushCells (s.heap.push { cls := .type "dict",data := .dict #[] }) scope.names,toks:=tk }:=by
 have fc:=Qex I ck
 have cof:∀ x c,(clos X.env scope.names []).lookup x=some c→X.env.cells.lookup x=some c:=fun x c e=>Qhf scope.names [] (fun q=>by cases q) fc e
 have old:∀ b u,s.heap.get? b=some u→(pushCells (s.heap.push { cls := .type "dict",data := .dict #[] }) scope.names).get? b=some u:=fun b u e=>pushCells_keeps _ _ b u (Heap.get?_push_of_some _ e)
 have hn:(pushCells (s.heap.push { cls := .type "dict",data := .dict #[] }) scope.names).Ns s.heap.objs.size (fun _=>none):=(Heap.Ns.new s.heap (.type "dict")).keeps (pushCells_keeps _ _)
 have clt:∀ x c,(clos X.env scope.names []).lookup x=some c→c < s.heap.objs.size:=fun x c e=>by
  obtain ⟨v,hv⟩:=I.cell x c (cof x c e)
  exact hv.lt
 have getC:∀ x c,(cellsFrom (s.heap.objs.size + 1) scope.names (clos X.env scope.names [])).lookup x=some c→(clos X.env scope.names []).lookup x=some c∨(s.heap.objs.size + 1≤c∧(pushCells (s.heap.push { cls := .type "dict",data := .dict #[] }) scope.names).IsCell c none):=fun x c e=>by
  have:=Qkn (x:=x) (c:=c) scope.names (s.heap.push { cls := .type "dict",data := .dict #[] }) (clos X.env scope.names [])
  rw [Heap.size_push] at this
  exact this e
 have injC:=Qkm scope.names (s.heap.objs.size + 1) (clos X.env scope.names []) (fun x c e=>Nat.lt_succ_of_lt (clt x c e)) (fun x y c h1 h2=>I.ok.inj x y c (cof x c h1) (cof y c h2))
 have fsub:∀ b∈frs X.stack,b∈X.env.locals :: X.fs:=I.stkSub
 refine ⟨⟨I.ok.mod,ck.kind,I.ok.glob,I.ok.blt,Nat.le_refl _,injC,fun x hx => ?_,fun x c hx e => ?_,fun z=>I.ok.hd z,I.ok.frames,.inl rfl,fun b hb => ?_,I.bs,Nat.le_trans I.ok.bsz I.sz,fun b u e hb => ?_,fun b hb z => ?_,I.stack,I.stkFree⟩,
  rfl,I.bare,Un.kept old,⟨_,hn,fun i x v h1 h2 h3 => ?_⟩,fun x c e => ?_,I.hok.fresh (Nat.le_refl _),fun x c e => ?_,fun p hp => ?_,I.hok.kept old,?_⟩
 ·-- has
  have hx:(Zu X.env.scope scope).names.lookup x=some .cell∨(Zu X.env.scope scope).names.lookup x=some .free:=hx
  have hm:scope.names.lookup x=some NameKind.cell∨scope.names.lookup x=some NameKind.free:=by
   rcases hx with hx | hx
   ·exact Qdt scope.names _ (.inl rfl) hx
   ·exact Qdt scope.names _ (.inr rfl) hx
  rcases hm with hm | hm
  ·exact Option.isSome_iff_exists.mp (PySem.W.cellsFrom_some scope.names _ _ (.inl hm))
  ·have hmem:=PySem.mem_of_lookup hm
   obtain ⟨c,hcx⟩:=fc _ hmem rfl
   exact Option.isSome_iff_exists.mp (PySem.W.cellsFrom_some scope.names _ _ (.inr (by rw [QcZ scope.names [] (.inl hmem) fc,hcx];rfl)))
 ·-- cab
  have hx:(scope.names.lookup x==some NameKind.cell)=true:=hx
  have hx:=beq_iff_eq.mp hx
  rcases getC x c e with z | z
  ·exfalso
   rcases Qfp scope.names [] z with q | q
   ·exact ck.nd _ (PySem.mem_of_lookup hx) q
   ·cases q
  ·exact Nat.le_of_succ_le z.1
 ·-- exf
  obtain ⟨_,f1,f2,f3,f4,_⟩:=hf b hb
  refine ⟨Nat.ne_of_lt (hlt b hb),fun x c e => ?_⟩
  rcases getC x c e with z | z
  ·exact f4 x c (cof x c z)
  ·exact fun q=>by
    have:=hlt b hb
    rw [← q] at this
    exact absurd (Nat.lt_of_lt_of_le (Nat.lt_succ_self _) z.1) (Nat.not_lt.mpr (Nat.le_of_lt this))
 ·-- noex
  obtain ⟨_,f1,f2,f3,f4,_⟩:=hf b hb
  rcases f3 with z | z
  ·exact I.ok.noex b u e z
  ·exact absurd (Nat.lt_of_lt_of_le (Heap.lt_size e) (Nat.le_trans I.ok.bsz z)) (Nat.lt_irrefl _)
 ·-- exfs
  obtain ⟨_,f1,f2,_⟩:=hf b hb
  rcases List.mem_cons.mp (fsub b z) with q | q
  ·exact f1 q
  ·exact f2 q
 ·-- loc
  have h2:(Qac nt caps σ)[i]?=some (some v):=h2
  have h1:N'[i]?=some x:=h1
  unfold Qac at h2
  by_cases hi:i < nt
  ·rw [List.getElem?_append_left (by simpa using hi),List.getElem?_replicate,if_pos hi] at h2
   cases h2
  ·rw [List.getElem?_append_right (by simpa using hi),List.length_replicate,List.getElem?_map] at h2
   cases ej:caps[i - nt]? with
   | none=>rw [ej] at h2;cases h2
   | some j =>
    rw [ej] at h2
    have h2:(σ[j]?).getD none=some v:=Option.some.inj h2
    have h2':σ[j]?=some (some v):=by
     cases eq:σ[j]? with
     | none=>rw [eq] at h2;cases h2
     | some y=>rw [eq] at h2;exact congrArg some h2
    have hz:(j,x)∈caps.zip (N'.drop nt):=by
     refine List.mem_of_getElem? (i:=i - nt) ?_
     rw [List.getElem?_zip_eq_some]
     refine ⟨ej,?_⟩
     rw [List.getElem?_drop,show nt + (i - nt)=i by omega]
     exact h1
    obtain ⟨hN,hfr⟩:=ck.cap _ hz
    have hfr:scope.names.lookup x=some NameKind.free:=hfr
    have hmem:=PySem.mem_of_lookup hfr
    have hk:=ck.free _ hmem rfl
    have hk:X.env.scope.names.lookup x=some .cell∨X.env.scope.names.lookup x=some .free:=hk
    have hnc:(x,NameKind.cell)∉scope.names:=fun q=>ck.nd _ q hmem
    obtain ⟨m0,hn0,hl0⟩:=I.loc
    obtain ⟨u,ru,lk⟩:=hl0 j x v hN h2' (.inr hk)
    refine ⟨u,ru,?_⟩
    rcases lk with ⟨k0,_⟩ | ⟨_,c,ec,zc⟩
    ·have k0:X.env.scope.names.lookup x=some .local:=k0
     rcases hk with hk | hk <;> (rw [k0] at hk;cases hk)
    ·refine .inr ⟨?_,c,((Qkl scope.names _ _ hnc).trans (QcZ scope.names [] (.inl hmem) fc)).trans ec,?_⟩
     ·have h3:(Zu X.env.scope scope).names.lookup x=some .local∨(Zu X.env.scope scope).names.lookup x=some .cell∨(Zu X.env.scope scope).names.lookup x=some .free:=h3
      rcases h3 with h3 | h3 | h3
      ·rcases Qcj hfr h3 with z | z <;> cases z
      ·exact .inl h3
      ·exact .inr h3
     ·obtain ⟨ob,ho,hd⟩:=zc
      exact ⟨ob,old c ob ho,hd⟩
 ·-- cell
  rcases getC x c e with z | z
  ·obtain ⟨v,ob,ho,hd⟩:=I.cell x c (cof x c z)
   exact ⟨v,ob,old c ob ho,hd⟩
  ·exact ⟨none,z.2⟩
 ·-- freeC
  rcases getC x c e with z | z
  ·exact I.freeC x c (cof x c z)
  ·exact I.hok.fresh (Nat.le_of_succ_le z.1)
 ·-- pin
  have hp':p∈X.pn++pins:=by
   rcases List.mem_append.mp hp with z | z
   ·exact z
   ·cases z
  obtain ⟨e,n,ne,nf,d⟩:=I.pin p hp'
  refine ⟨old _ _ e,n,Nat.ne_of_lt (Heap.lt_size e),fun z => ?_,d⟩
  rcases List.mem_cons.mp (fsub p.1 z) with q | q
  ·exact ne q
  ·exact nf q
 ·-- len
  show (Qac nt caps σ).length=N'.length
  unfold Qac
  rw [ck.len]
  simp
end
section
variable {X:Cx} {pins:List (Addr×Obj)} {σ:St} {H:Hp} {s:Shared} {scope:Scope} {N':List Str} {nt:Nat} {caps:List Nat} {fp:List Addr} {tg iter elt:Expr} {ifs:List Expr} {pos:Pos}
theorem Qgs {J:It} {it:Addr} {tn:Nat→Heap→Prop} {g:TG} {tc:TT} {te:TE} {Qd:Addr→Hp→Prop} {RR:Value→Addr→Result→Shared→Prop} {E:Value→Shared→Prop}
  (I:Inv X pins σ H s) (hc:X.calm=true) (ck:CompOkC X.N X.env.scope scope N' nt caps) (hrel:relabel scope X.env=Zu X.env.scope scope)
  (T:Turn X.prog X.w X.K tg J fp it tn) (h0:tn 0 s.heap) (hf:∀ b∈fp,FpOk X pins H b)
  (hg:∀ pins cl C s H fp,PG (XQ X (ownC scope) pins N' (Zu X.env.scope scope) cl C s H fp) tg g)
  (ht:∀ pins cl C s H fp,PIfs (XQ X (ownC scope) pins N' (Zu X.env.scope scope) cl C s H fp) ifs tc)
  (he:∀ pins cl C s H fp,PE (XQ X (ownC scope) pins N' (Zu X.env.scope scope) cl C s H fp) elt te)
  (rd:QfQ J nt caps g tc te σ H Qd)
  (hRR:∀ D C s' H',Inv X pins σ H' s'→(∃ m,s'.heap.Ns C m)→FpOk X pins H' C→Qd D H'→RR (.ref D) C (.ok .next) s') :
  wpAny (model X.prog X.w) X.A (newList []) (fun acc s₃=>wpAny (model X.prog X.w) X.A (newFunctionEnv scope X.env.globals (clos X.env scope.names []) [] X.env.qual none .none (some X.env)) (fun cenv s₄ =>
   codeAny (model X.prog X.w) X.A (.compStart (.ListComp elt [⟨tg,iter,ifs,0⟩] scope pos) 0 (.ref it) acc { cenv with scope:=relabel scope X.env }) (RR acc cenv.locals) s₄) E s₃) E s:=by
 have hD:H s.heap.objs.size=none:=I.fresh
 obtain ⟨W,⟨m0,w0⟩,turn⟩:=rd s.heap.objs.size hD
 refine wpAny_newObj_type (newEnvC ?_)
 rw [hrel]
 dsimp only
 have I3:Inv X pins σ (upd H s.heap.objs.size (.lst [])) { s with heap:=s.heap.push { cls := .type "list",data := .seq ([]:List Value).toArray } }:=I.lnew (t':=s.toks) .nil (Nat.zero_le _)
 have hlt:∀ b∈fp,b < s.heap.objs.size:=fun b hb=>by
  obtain ⟨o,e,_⟩:=T.obj 0 _ h0 b hb
  exact Heap.lt_size e
 have hf3:∀ b∈fp,FpOk X pins (upd H s.heap.objs.size (.lst [])) b:=fun b hb=>by
  obtain ⟨f0,f⟩:=hf b hb
  exact ⟨by rw [Qr (Nat.ne_of_lt (hlt b hb))];exact f0,f⟩
 have hlt3:∀ b∈fp,b < (s.heap.push { cls := .type "list",data := .seq ([]:List Value).toArray }).objs.size:=fun b hb=>by
  rw [Heap.size_push]
  exact Nat.lt_succ_of_lt (hlt b hb)
 have IB:=blk_invC (tk:=s.toks) I3 hc ck hf3 hlt3
 have keep1:∀ b o,s.heap.get? b=some o→(pushCells ((s.heap.push { cls := .type "list",data := .seq ([]:List Value).toArray }).push { cls := .type "dict",data := .dict #[] }) scope.names).get? b=some o:=fun b o e=>pushCells_keeps _ _ b o (Heap.get?_push_of_some _ (Heap.get?_push_of_some _ e))
 have st1:tn 0 (pushCells ((s.heap.push { cls := .type "list",data := .seq ([]:List Value).toArray }).push { cls := .type "dict",data := .dict #[] }) scope.names):=T.keep _ _ _ h0 fun b _ o e=>keep1 b o e
 have hg':=hg pins (cellsFrom ((s.heap.push { cls := .type "list",data := .seq ([]:List Value).toArray }).objs.size + 1) scope.names (clos X.env scope.names [])) (s.heap.push { cls := .type "list",data := .seq ([]:List Value).toArray }).objs.size { s with heap:=s.heap.push { cls := .type "list",data := .seq ([]:List Value).toArray } } (upd H s.heap.objs.size (.lst [])) fp
 have ht':=ht pins (cellsFrom ((s.heap.push { cls := .type "list",data := .seq ([]:List Value).toArray }).objs.size + 1) scope.names (clos X.env scope.names [])) (s.heap.push { cls := .type "list",data := .seq ([]:List Value).toArray }).objs.size { s with heap:=s.heap.push { cls := .type "list",data := .seq ([]:List Value).toArray } } (upd H s.heap.objs.size (.lst [])) fp
 have he':=he pins (cellsFrom ((s.heap.push { cls := .type "list",data := .seq ([]:List Value).toArray }).objs.size + 1) scope.names (clos X.env scope.names [])) (s.heap.push { cls := .type "list",data := .seq ([]:List Value).toArray }).objs.size { s with heap:=s.heap.push { cls := .type "list",data := .seq ([]:List Value).toArray } } (upd H s.heap.objs.size (.lst [])) fp
 have hY:∃ Y:Cx,Y=XQ X (ownC scope) pins N' (Zu X.env.scope scope) (cellsFrom ((s.heap.push { cls := .type "list",data := .seq ([]:List Value).toArray }).objs.size + 1) scope.names (clos X.env scope.names [])) (s.heap.push { cls := .type "list",data := .seq ([]:List Value).toArray }).objs.size { s with heap:=s.heap.push { cls := .type "list",data := .seq ([]:List Value).toArray } } (upd H s.heap.objs.size (.lst [])) fp:=⟨_,rfl⟩
 obtain ⟨Y,eY⟩:=hY
 have eP:Y.prog=X.prog:=by rw [eY];rfl
 have eW:Y.w=X.w:=by rw [eY];rfl
 have eK:Y.K=X.K:=by rw [eY];rfl
 have eA:Y.A=X.A:=by rw [eY];rfl
 have eC:Y.calm=true:=by rw [eY];exact hc
 have eE:Y.xe=fun _ _=>False:=by rw [eY];rfl
 have eEnv:Y.env=blkEnv X.env (Zu X.env.scope scope) (cellsFrom ((s.heap.push { cls := .type "list",data := .seq ([]:List Value).toArray }).objs.size + 1) scope.names (clos X.env scope.names [])) (s.heap.push { cls := .type "list",data := .seq ([]:List Value).toArray }).objs.size:=by rw [eY];rfl
 have back:∀ {H':Hp} {s':Shared},Inv Y [] (Qac nt caps σ) H' s'→Inv X pins σ H' s'∧(∃ m,s'.heap.Ns (s.heap.push { cls := .type "list",data := .seq ([]:List Value).toArray }).objs.size m)∧FpOk X pins H' (s.heap.push { cls := .type "list",data := .seq ([]:List Value).toArray }).objs.size:=by
  intro H' s' IY
  subst eY
  refine ⟨I3.call' (ch:=fp) IY.os IY.base IY.hok IY.bare fun b hb => ?_,?_,I3.fpOk (Nat.le_refl _) IY.free⟩
  ·obtain ⟨_,f1,_,f3,f4,f5⟩:=hf b hb
   exact ⟨f3,f1,f4,f5⟩
  ·obtain ⟨m,hn,_⟩:=IY.loc
   exact ⟨m,hn⟩
 have fpY:∀ {H':Hp},(∀ b∈fp,H' b=none)→∀ b∈fp,FpOk Y [] H' b:=by
  intro H' hn b hb
  subst eY
  obtain ⟨_,f1,f2,f3,f4,f5⟩:=hf b hb
  refine ⟨hn b hb,Nat.ne_of_lt (hlt3 b hb),IB.ok.exfs b hb,.inl hb,(IB.ok.exf b hb).2,fun p hp => ?_⟩
  rcases List.mem_append.mp hp with z | z
  ·exact f5 p z
  ·cases z
 have IB:Inv Y [] (Qac nt caps σ) (upd H s.heap.objs.size (.lst [])) { s with heap:=(pushCells ((s.heap.push { cls := .type "list",data := .seq ([]:List Value).toArray }).push { cls := .type "dict",data := .dict #[] }) scope.names),toks:=s.toks }:=by rw [eY];exact IB
 rw [← eY] at hg' ht' he'
 have loop:∀ s₃:Shared,s₃={ s with heap:=(pushCells ((s.heap.push { cls := .type "list",data := .seq ([]:List Value).toArray }).push { cls := .type "dict",data := .dict #[] }) scope.names),toks:=s.toks } →
   codeAny (model X.prog X.w) X.A (.compLoop (.ListComp elt [⟨tg,iter,ifs,0⟩] scope pos) 0 (.ref it) (.ref s.heap.objs.size) Y.env) (RR (.ref s.heap.objs.size) (s.heap.push { cls := .type "list",data := .seq ([]:List Value).toArray }).objs.size) s₃:=by
  rintro s₃ rfl
  refine Qik (fun n s'=>∃ i xs H',Inv Y [] (Qac nt caps σ) H' s'∧tn i s'.heap∧(∀ b∈fp,H' b=none)∧W i n xs H') ?_ m0 ⟨0,[],_,IB,st1,fun b hb=>(hf3 b hb).1,w0⟩
  rintro n s4 ⟨i,xs,H4,I4,st4,fr4,w4⟩
  rcases turn i n xs H4 w4 with ⟨stop,q⟩ | ⟨go,step⟩
  ·have z:=T.done Y eP eW eK eC i [] s4 _ H4 (fun _ _=>False) I4 (fpY fr4) st4 stop
   rw [eA] at z
   refine thn z fun r s5 ⟨hr,I5⟩ => ?_
   subst hr
   obtain ⟨a1,a2,a3⟩:=back I5
   exact hRR _ _ s5 H4 a1 a2 a3 q
  ·have z:=T.item Y eP eW eK eC i [] s4 _ H4 (fun _ _=>False) I4 (fpY fr4) st4 go
   rw [eA] at z
   refine thn z fun r s5 ⟨u,hr,h5⟩ => ?_
   subst hr
   refine thn h5 fun _ s6 ⟨x,H6,I6,r6,y6,st6,fr6⟩ => ?_
   have I6':=I6.pinned (fpY fr6) (T.obj _ _ st6)
   have again:∀ {σ7:St} {H7:Hp} {s7:Shared} {xs':List V},Inv Y ([]++QfB fp s6.heap) σ7 H7 s7→StExt (Qac nt caps σ) σ7→(∃ m',m' < n∧W (i + 1) m' xs' H7) →
     ∃ m,m < n∧∃ i xs H',Inv Y [] (Qac nt caps σ) H' s7∧tn i s7.heap∧(∀ b∈fp,H' b=none)∧W i m xs H':=fun {σ7 H7 s7 xs'} I7 ex ⟨m',hm,w7⟩=>by
    refine ⟨m',hm,i + 1,xs',H7,(I7.unpinned).weak ex.1.symm ex.2,T.keep _ _ _ st6 fun b hb o e=>(I7.pin (b,o) (List.mem_append_right _ (List.mem_append_right _ (QaM hb e)))).1,fun b hb => ?_,w7⟩
    obtain ⟨o,e,d⟩:=T.obj _ _ st6 b hb
    exact (I7.pin (b,o) (List.mem_append_right _ (List.mem_append_right _ (QaM hb e)))).2.1
   have z2:=hg' _ s6 _ H6 x u _ I6' r6 (step x H6 y6)
   rw [eP,eW,eA,eE] at z2
   refine thn z2 fun _ s7 ⟨σ7,H7,I7,ex7,q7⟩ => ?_
   have z3:=ht' _ s7 σ7 H7 _ I7 q7
   rw [eP,eW,eA,eE] at z3
   refine thn z3 fun b s8 ⟨H8,I8,q8⟩ => ?_
   cases b with
   | false =>
    rw [if_neg Bool.false_ne_true] at q8 ⊢
    exact again I8 ex7 q8
   | true =>
    rw [if_pos rfl] at q8 ⊢
    have z4:=he' _ s8 σ7 H8 _ I8 q8
    rw [eP,eW,eA,eE] at z4
    refine thn z4 fun xv s9 ⟨v,H9,I9,r9,hD9,hl9,q9⟩ => ?_
    have z5:=Yz (X:=Y) _ s9 σ7 H9 (.ref s.heap.objs.size) [v] (.ref s.heap.objs.size) [xv] (fun _ H'=>∃ m',m' < n∧W (i + 1) m' (xs++[v]) H') I9 rfl (.cons r9 .nil) ⟨_,xs,v,rfl,rfl,hD9,hl9,q9⟩
    rw [eP,eW,eA,eE] at z5
    refine thn z5 fun _ s10 ⟨_,H10,I10,_,q10⟩ => ?_
    exact again I10 ex7 q10
 rw [eEnv] at loop
 refine codeAny_compStart_list (loop _ rfl) (T.self _ 0 _ _ _ st1 (loop _ rfl))
end
theorem CompOk.C {N:List Str} {osc scope:Scope} {N':List Str} {nt:Nat} {caps:List Nat} (ck:CompOk N osc scope N' nt caps):CompOkC N osc scope N' nt caps:=⟨ck.kind,fun x q=>absurd rfl (ck.nocell _ q),ck.locs,ck.free,ck.len,ck.cap⟩
theorem CompOk.eqC {N:List Str} {osc scope:Scope} {N':List Str} {nt:Nat} {caps:List Nat} (ck:CompOk N osc scope N' nt caps) (X:Cx):XQ X (ownC scope)=QaQ X:=by
 have own:ownC scope=fun _=>false:=funext fun x=>by
  show (scope.names.lookup x==some NameKind.cell)=false
  rw [beq_eq_false_iff_ne]
  exact fun q=>ck.nocell _ (PySem.mem_of_lookup q) rfl
 rw [own];rfl
section
variable {X:Cx} {pins:List (Addr×Obj)} {σ:St} {H:Hp} {s:Shared} {scope:Scope} {N':List Str} {nt:Nat} {caps:List Nat} {fp:List Addr} {tg iter elt:Expr} {ifs:List Expr} {pos:Pos}
theorem comp_run {J:It} {it:Addr} {tn:Nat→Heap→Prop} {g:TG} {tc:TT} {te:TE} {Qd:Addr→Hp→Prop} {RR:Value→Addr→Result→Shared→Prop} {E:Value→Shared→Prop}
  (I:Inv X pins σ H s) (hc:X.calm=true) (ck:CompOk X.N X.env.scope scope N' nt caps) (hrel:relabel scope X.env=Zu X.env.scope scope)
  (T:Turn X.prog X.w X.K tg J fp it tn) (h0:tn 0 s.heap) (hf:∀ b∈fp,FpOk X pins H b)
  (hg:∀ pins cl C s H fp,PG (QaQ X pins N' (Zu X.env.scope scope) cl C s H fp) tg g)
  (ht:∀ pins cl C s H fp,PIfs (QaQ X pins N' (Zu X.env.scope scope) cl C s H fp) ifs tc)
  (he:∀ pins cl C s H fp,PE (QaQ X pins N' (Zu X.env.scope scope) cl C s H fp) elt te)
  (rd:QfQ J nt caps g tc te σ H Qd)
  (hRR:∀ D C s' H',Inv X pins σ H' s'→(∃ m,s'.heap.Ns C m)→FpOk X pins H' C→Qd D H'→RR (.ref D) C (.ok .next) s') :
  wpAny (model X.prog X.w) X.A (newList []) (fun acc s₃=>wpAny (model X.prog X.w) X.A (newFunctionEnv scope X.env.globals (clos X.env scope.names []) [] X.env.qual none .none (some X.env)) (fun cenv s₄ =>
   codeAny (model X.prog X.w) X.A (.compStart (.ListComp elt [⟨tg,iter,ifs,0⟩] scope pos) 0 (.ref it) acc { cenv with scope:=relabel scope X.env }) (RR acc cenv.locals) s₄) E s₃) E s:=by
 have e:=ck.eqC X
 exact Qgs I hc ck.C hrel T h0 hf (by rw [e];exact hg) (by rw [e];exact ht) (by rw [e];exact he) rd hRR
theorem FpOk.turn {H':Hp} {s':Shared} {C:Addr} {h':Heap} (I:Inv X pins σ H' s') (f:FpOk X pins H' C) (hs:Heap.SameBut C s'.heap h'):Inv X pins σ H' { s' with heap:=h' }:=by
 obtain ⟨f0,f1,f2,f3,f4,f5⟩:=f
 exact I.turned (t':=s'.toks) (fun b o hb e=>hs.extBut b o hb e) f0 f1 f3 f4 f5
def tComp (wi:TI) (nt:Nat) (caps:List Nat) (g:TG) (tc:TT) (te:TE):TE:=fun σ H Q=>wi σ H fun J H1=>QfQ J nt caps g tc te σ H1 fun D H2=>Q (.ref D) H2
variable {wi:TI} {g:TG} {tc:TT} {te:TE}
theorem pe_comp (hc:X.calm=true) (ck:CompOk X.N X.env.scope scope N' nt caps) (hi:PI X tg iter wi)
  (hg:∀ pins cl C s H fp,PG (QaQ X pins N' (Zu X.env.scope scope) cl C s H fp) tg g)
  (ht:∀ pins cl C s H fp,PIfs (QaQ X pins N' (Zu X.env.scope scope) cl C s H fp) ifs tc)
  (he:∀ pins cl C s H fp,PE (QaQ X pins N' (Zu X.env.scope scope) cl C s H fp) elt te)
  (hs:∀ x,foldedSetIterable iter X.env x=pure x:=by intro _;rfl) (hrel:relabel scope X.env=Zu X.env.scope scope:=by rfl) :
  PE X (.ListComp elt [⟨tg,iter,ifs,0⟩] scope pos) (tComp wi nt caps g tc te):=by
 intro pins s σ H Q I h
 rw [eval_ListComp]
 refine wpAny_comprehension_free (use:=none) rfl hs (QbO (Qmh I ck)) ck.kind ck.locs (thn (hi pins s σ H _ I h) fun xv s₁ h₁=>thn h₁ fun itv s₂ h₂ => ?_)
 obtain ⟨it,fp,tn,J,H2,e,I2,T,st2,f2,rd⟩:=h₂
 subst e
 refine comp_run (RR:=fun acc C=>compPost (model X.prog X.w) X.A X.xe none (EP X pins σ Q) acc C) I2 hc ck hrel T st2 f2 hg ht he rd ?_
 intro D C s' H' I' hm f q
 obtain ⟨m,hm⟩:=hm
 exact ⟨m,hm,fun h' hs'=>⟨.ref D,H',FpOk.turn I' f hs',rfl,q⟩⟩
def sSetComp (i:Nat) (wi:TI) (nt:Nat) (caps:List Nat) (g:TG) (tc:TT) (te:TE):TS:=fun D σ H=>wi σ H fun J H1=>QfQ J nt caps g tc te σ H1 fun d H2=>D.nx (σ.set i (some (.ref d))) H2
theorem QhJ {i:Nat} {y:Str} {py spos:Pos} (hN:X.N.Nodup) (hi':X.N[i]?=some y) (hy:X.env.scope.names.lookup y=some .local) (hc:X.calm=true) (ck:CompOkC X.N X.env.scope scope N' nt caps) (hi:PI X tg iter wi)
  (hg:∀ pins cl C s H fp,PG (XQ X (ownC scope) pins N' (Zu X.env.scope scope) cl C s H fp) tg g)
  (ht:∀ pins cl C s H fp,PIfs (XQ X (ownC scope) pins N' (Zu X.env.scope scope) cl C s H fp) ifs tc)
  (he:∀ pins cl C s H fp,PE (XQ X (ownC scope) pins N' (Zu X.env.scope scope) cl C s H fp) elt te)
  (hsw:swapsWith (.ListComp elt [⟨tg,iter,ifs,0⟩] scope pos) (some (.Name y py)) spos.line X.env=pure true:=by rfl)
  (hs:∀ x,foldedSetIterable iter X.env x=pure x:=by intro _;rfl) (hrel:relabel scope X.env=Zu X.env.scope scope:=by rfl) :
  PS X (.Assign [.Name y py] (.ListComp elt [⟨tg,iter,ifs,0⟩] scope pos) spos) (sSetComp i wi nt caps g tc te):=by
 intro pins s σ H D I h
 rw [exec_Assign_Name_used _ _ _ _ hsw]
 refine wpAny_bind (wpAny_standAt (wpAny_bind ?_))
 show wpAny _ X.A (do let _ ← comprehension (.ListComp elt [⟨tg,iter,ifs,0⟩] scope pos) scope X.env _ (newList []) false (eval iter X.env) (some (assign (.Name y py) X.env))) _ _ s
 refine wpAny_bind (wpAny_mono (wpAny_comprehension_free (use:=some (assign (.Name y py) X.env)) (Q:=fun _ s'=>SP X pins D .next s') rfl hs (QbO (Qex I ck)) ck.kind ck.locs
  (thn (hi pins s σ H _ I h) fun xv s₁ h₁=>thn h₁ fun itv s₂ h₂ => ?_)) (fun _ s' hq=>wpAny_pure (wpAny_pure hq)) fun _ _ e=>e)
 obtain ⟨it,fp,tn,J,H2,e,I2,T,st2,f2,rd⟩:=h₂
 subst e
 refine Qgs (RR:=fun acc C=>compPost (model X.prog X.w) X.A X.xe (some (assign (.Name y py) X.env)) (fun _ s'=>SP X pins D .next s') acc C) I2 hc ck hrel T st2 f2 hg ht he rd ?_
 intro d C s' H' I' hm f q
 obtain ⟨m,hm⟩:=hm
 show wpAny _ X.A (assign (.Name y py) X.env (.ref d)) _ _ s'
 refine wpAny_assign_Name (QfX I' hN hi' (.inl hy) (show RelV (.ref d) (.ref d) from rfl) (fun s'' I'' hs'' => ?_) (.inr hy))
 obtain ⟨a,sb,ha⟩:=hs''
 have hCa:C≠a:=by
  rcases ha with ha | ha
  ·rw [ha];exact f.2.1
  ·exact fun z=>f.2.2.2.2.1 _ _ ha z.symm
 exact ⟨m,hm.sameBut sb hCa,fun h' hs'=>⟨_,H',FpOk.turn I'' f hs',q⟩⟩
end
def dvV:Bool ⊕ Int→V
 | .inl b => .bl b
 | .inr i => .int i
def dvK (kvs:List (Str×(Bool ⊕ Int))):List (Key×V):=kvs.map fun p=>(Sum.inr p.1,dvV p.2)
inductive PV where
 | non | bl (b:Bool) | int (i:Int) | str (x:Str) | tup (xs:List PV) | lst (xs:List PV) | obj (C:Addr) (ks:List Str) (ps:List PV) | opq (a:Addr) | dct (kvs:List (Str×(Bool ⊕ Int))) | dcw (kvs:List (Str×(Bool ⊕ Int)))
structure RdK (F:Hp) (a:Addr) (kvs:List (Str×(Bool ⊕ Int))):Prop where
 rd:Rd F a (.dK (dvK kvs))
mutual
def Rep (K:PySem.W.Frag) (F:Hp):PV→V→Prop
 | .non,v=>v = .non
 | .bl b,v=>v = .bl b
 | .int i,v=>v = .int i
 | .str x,v=>v = .str x
 | .tup xs,v=>∃ a vs,v = .ref a∧SqT K F a vs∧RepL K F xs vs
 | .lst xs,v=>∃ a vs,v = .ref a∧SqL K F a vs∧RepL K F xs vs
 | .obj C ks ps,v=>∃ a dx vs,v = .ref a∧F a=some (.ins C dx (ks.zip vs))∧F dx=some (.own a)∧ks.length=vs.length∧RepL K F ps vs
 | .opq a,v=>v = .ref a
 | .dct kvs,v=>∃ a o,v = .ref a∧F a=some (.frz o (.dK (dvK kvs)))
 | .dcw kvs,v=>∃ (a:Addr) (_:Unit),v = .ref a∧RdK F a kvs
def RepL (K:PySem.W.Frag) (F:Hp):List PV→List V→Prop
 | [],vs=>vs=[]
 | x :: xs,vs=>∃ v r,vs=v :: r∧Rep K F x v∧RepL K F xs r
end
theorem _root_.L2.Same.seqT {K:PySem.W.Frag} {H H':Hp} {a:Addr} {xs:List V} (e:Same H H') (h:SqT K H a xs):SqT K H' a xs:=by
 rcases h with (h | ⟨o,h⟩) | h
 ·exact .inl (.inl (e _ _ h))
 ·exact .inl (.inr ⟨o,e _ _ h⟩)
 ·exact .inr h
section
variable {K:PySem.W.Frag} {F F':Hp}
mutual
theorem Rep.mono (e:Same F F'):∀ {p:PV} {v:V},Rep K F p v→Rep K F' p v
 | .non,_,h=>h
 | .bl _,_,h=>h
 | .int _,_,h=>h
 | .str _,_,h=>h
 | .tup xs,_,h=>by
  unfold Rep at h ⊢
  obtain ⟨a,vs,h1,h2,h3⟩:=h
  exact ⟨a,vs,h1,e.seqT h2,RepL.mono e h3⟩
 | .lst xs,_,h=>by
  unfold Rep at h ⊢
  obtain ⟨a,vs,h1,h2,h3⟩:=h
  exact ⟨a,vs,h1,e.seq h2,RepL.mono e h3⟩
 | .obj C ks ps,_,h=>by
  unfold Rep at h ⊢
  obtain ⟨a,dx,vs,h1,h2,h3,h4,h5⟩:=h
  exact ⟨a,dx,vs,h1,e _ _ h2,e _ _ h3,h4,RepL.mono e h5⟩
 | .opq _,_,h=>h
 | .dct _,_,h=>by
  unfold Rep at h ⊢
  obtain ⟨a,o,h1,h2⟩:=h
  exact ⟨a,o,h1,e _ _ h2⟩
 | .dcw _,_,h=>by
  unfold Rep at h ⊢
  obtain ⟨a,u,h1,h2⟩:=h
  exact ⟨a,u,h1,⟨h2.rd.imp (fun z=>e _ _ z) fun ⟨o,z⟩=>⟨o,e _ _ z⟩⟩⟩
theorem RepL.mono (e:Same F F'):∀ {ps:List PV} {vs:List V},RepL K F ps vs→RepL K F' ps vs
 | [],_,h=>h
 | x :: xs,_,h=>by
  unfold RepL at h ⊢
  obtain ⟨v,r,h1,h2,h3⟩:=h
  exact ⟨v,r,h1,Rep.mono e h2,RepL.mono e h3⟩
end
theorem RepL.nil:RepL K F [] []:=by unfold RepL;rfl
theorem RepL.cons {p:PV} {v:V} {ps:List PV} {vs:List V} (h:Rep K F p v) (t:RepL K F ps vs):RepL K F (p :: ps) (v :: vs):=by
 unfold RepL
 exact ⟨v,vs,rfl,h,t⟩
theorem RepL.length:∀ {ps:List PV} {vs:List V},RepL K F ps vs→vs.length=ps.length
 | [],_,h=>by unfold RepL at h;subst h;rfl
 | x :: xs,_,h=>by
  unfold RepL at h
  obtain ⟨v,r,rfl,_,h3⟩:=h
  simp [RepL.length h3]
theorem RepL.get:∀ {ps:List PV} {vs:List V} {i:Nat} {p:PV},RepL K F ps vs→ps[i]?=some p→∃ v,vs[i]?=some v∧Rep K F p v
 | [],_,_,_,_,e=>by simp at e
 | x :: xs,_,i,p,h,e=>by
  unfold RepL at h
  obtain ⟨v,r,rfl,h2,h3⟩:=h
  cases i with
  | zero=>simp at e;subst e;exact ⟨v,rfl,h2⟩
  | succ i =>
   obtain ⟨u,e1,e2⟩:=RepL.get (i:=i) h3 (by simpa using e)
   exact ⟨u,by simpa using e1,e2⟩
theorem RepL.back {ps:List PV} {vs:List V} {i:Nat} {v:V} (h:RepL K F ps vs) (e:vs[i]?=some v):∃ p,ps[i]?=some p∧Rep K F p v:=by
 cases q:ps[i]? with
 | none =>
  have h1:ps.length≤i:=List.getElem?_eq_none_iff.mp q
  have h2:i < vs.length:=(List.getElem?_eq_some_iff.mp e).1
  rw [h.length] at h2
  omega
 | some p =>
  obtain ⟨u,e1,e2⟩:=h.get q
  rw [e] at e1
  cases e1
  exact ⟨p,rfl,e2⟩
theorem RepL.append:∀ {ps qs:List PV} {vs us:List V},RepL K F ps vs→RepL K F qs us→RepL K F (ps++qs) (vs++us)
 | [],_,_,_,h,t=>by unfold RepL at h;subst h;exact t
 | x :: xs,_,_,_,h,t=>by
  unfold RepL at h
  obtain ⟨v,r,rfl,h2,h3⟩:=h
  exact .cons h2 (RepL.append h3 t)
theorem RepL.snoc {ps:List PV} {vs:List V} {p:PV} {v:V} (h:RepL K F ps vs) (t:Rep K F p v):RepL K F (ps++[p]) (vs++[v]):=h.append (.cons t .nil)
theorem RepL.take:∀ {ps:List PV} {vs:List V} (n:Nat),RepL K F ps vs→RepL K F (ps.take n) (vs.take n)
 | _,_,0,_=>by simpa using RepL.nil
 | [],_,n + 1,h=>by unfold RepL at h;subst h;exact .nil
 | x :: xs,_,n + 1,h=>by
  unfold RepL at h
  obtain ⟨v,r,rfl,h2,h3⟩:=h
  exact .cons h2 (RepL.take n h3)
theorem RepL.drop:∀ {ps:List PV} {vs:List V} (n:Nat),RepL K F ps vs→RepL K F (ps.drop n) (vs.drop n)
 | _,_,0,h=>by simpa using h
 | [],_,n + 1,h=>by unfold RepL at h;subst h;exact .nil
 | x :: xs,_,n + 1,h=>by
  unfold RepL at h
  obtain ⟨v,r,rfl,h2,h3⟩:=h
  simpa using RepL.drop n h3
theorem RepL.set:∀ {ps:List PV} {vs:List V} (i:Nat) {p:PV} {v:V},RepL K F ps vs→Rep K F p v→RepL K F (ps.set i p) (vs.set i v)
 | [],_,_,_,_,h,_=>by unfold RepL at h;subst h;exact .nil
 | x :: xs,_,0,_,_,h,q=>by
  unfold RepL at h
  obtain ⟨v,r,rfl,h2,h3⟩:=h
  exact .cons q h3
 | x :: xs,_,i + 1,_,_,h,q=>by
  unfold RepL at h
  obtain ⟨v,r,rfl,h2,h3⟩:=h
  exact .cons h2 (RepL.set i h3 q)
theorem RepL.reverse {ps:List PV} {vs:List V} (h:RepL K F ps vs):RepL K F ps.reverse vs.reverse:=by
 induction ps generalizing vs with
 | nil=>unfold RepL at h;subst h;exact .nil
 | cons x xs ih =>
  unfold RepL at h
  obtain ⟨v,r,rfl,h2,h3⟩:=h
  rw [List.reverse_cons,List.reverse_cons]
  exact (ih h3).append (.cons h2 .nil)
end
structure Grow (F H F' H':Hp):Prop where
 ext:Same F F'
 sub:Same F' H'
 same:Same H H'
 new:∀ a o,F' a=some o→F a=some o∨H a=none
theorem Grow.refl {F H:Hp} (h:Same F H):Grow F H F H:=⟨Same.refl _,h,Same.refl _,fun _ _ e => .inl e⟩
theorem Grow.trans {F H F1 H1 F2 H2:Hp} (a:Grow F H F1 H1) (b:Grow F1 H1 F2 H2):Grow F H F2 H2 :=
 ⟨a.ext.trans b.ext,b.sub,a.same.trans b.same,fun c o e=>by
  rcases b.new c o e with z | z
  ·exact a.new c o z
  ·exact .inr (a.same.free z)⟩
theorem Grow.laid {F H:Hp} {p:Addr} {o:HO} (h:Same F H) (n:H p=none):Grow F H (upd F p o) (upd H p o):=by
 have nF:F p=none:=by
  cases q:F p with
  | none=>rfl
  | some u=>rw [h p u q] at n;cases n
 refine ⟨fun a u e => ?_,fun a u e => ?_,fun a u e => ?_,fun a u e => ?_⟩
 ·rw [Qr (Qs e nF)];exact e
 ·by_cases z:a=p
  ·subst z;rw [Qq] at e ⊢;exact e
  ·rw [Qr z] at e ⊢;exact h a u e
 ·rw [Qr (Qs e n)];exact e
 ·by_cases z:a=p
  ·subst z;exact .inr n
  ·rw [Qr z] at e;exact .inl e
theorem Grow.side {F H:Hp} {p:Addr} {o:HO} (h:Same F H) (n:H p=none):Grow F H F (upd H p o):=by
 refine ⟨Same.refl _,fun a u e => ?_,fun a u e => ?_,fun a u e => .inl e⟩
 ·rw [Qr (Qs (h a u e) n)];exact h a u e
 ·rw [Qr (Qs e n)];exact e
inductive Slot where
 | un | fz (p:PV) | ow (xs:List PV) | od (kvs:List (Str×(Bool ⊕ Int)))
abbrev PEnv:=List Slot
def Slot.val:Slot→Option PV
 | .un=>none
 | .fz p=>some p
 | .ow xs=>some (.lst xs)
 | .od kvs=>some (.dcw kvs)
def getV (γ:PEnv) (i:Nat):Option PV:=(γ[i]?).bind Slot.val
def ERep (K:PySem.W.Frag) (F:Hp) (σ:St) (γ:PEnv) (ms:List Nat):Prop:=∀ i∈ms,∀ p,getV γ i=some p→∃ v,σ[i]?=some (some v)∧Rep K F p v
theorem ERep.mono {K:PySem.W.Frag} {F F':Hp} {σ:St} {γ:PEnv} {ms:List Nat} (h:ERep K F σ γ ms) (e:Same F F'):ERep K F' σ γ ms:=fun i hi p hp=>by
 obtain ⟨v,h1,h2⟩:=h i hi p hp
 exact ⟨v,h1,h2.mono e⟩
theorem ERep.left {K:PySem.W.Frag} {F:Hp} {σ:St} {γ:PEnv} {ms ns:List Nat} (h:ERep K F σ γ (ms++ns)):ERep K F σ γ ms:=fun i hi=>h i (List.mem_append_left _ hi)
theorem ERep.right {K:PySem.W.Frag} {F:Hp} {σ:St} {γ:PEnv} {ms ns:List Nat} (h:ERep K F σ γ (ms++ns)):ERep K F σ γ ns:=fun i hi=>h i (List.mem_append_right _ hi)
def Wv (K:PySem.W.Frag) (F H:Hp) (r:PV) (Q:VK):Prop:=∀ v H' F',Grow F H F' H'→Rep K F' r v→Q v H'
def Wo (K:PySem.W.Frag) (F H:Hp) (xs:List PV) (Q:VK):Prop:=∀ a vs H' F',Grow F H F' H'→H a=none→F' a=none→H' a=some (.lst vs)→RepL K F' xs vs→Q (.ref a) H'
theorem Wv.go {K:PySem.W.Frag} {F H F' H':Hp} {r:PV} {Q:VK} (w:Wv K F H r Q) (g:Grow F H F' H'):Wv K F' H' r Q:=fun v H2 F2 g2=>w v H2 F2 (g.trans g2)
theorem Wo.go {K:PySem.W.Frag} {F H F' H':Hp} {r:List PV} {Q:VK} (w:Wo K F H r Q) (g:Grow F H F' H'):Wo K F' H' r Q:=fun a vs H2 F2 g2 n=>w a vs H2 F2 (g.trans g2) (g.same.free n)
theorem Wv.of_lst {K:PySem.W.Frag} {F H:Hp} {xs:List PV} {Q:VK} (w:Wv K F H (.lst xs) Q):Wo K F H xs Q:=by
 intro a vs H' F' g n nF e r
 have gx:Same F' (upd F' a (.lst vs)):=fun b u q=>by rw [Qr (Qs q nF)];exact q
 refine w (.ref a) H' (upd F' a (.lst vs)) ⟨g.ext.trans gx,fun b u q => ?_,g.same,fun b u q => ?_⟩ ?_
 ·by_cases z:b=a
  ·subst z;rw [Qq] at q;rw [e];exact q
  ·rw [Qr z] at q;exact g.sub b u q
 ·by_cases z:b=a
  ·subst z;exact .inr n
  ·rw [Qr z] at q;exact g.new b u q
 ·unfold Rep
  exact ⟨a,vs,rfl,.of Qq,r.mono gx⟩
theorem Wv.here {K:PySem.W.Frag} {F H:Hp} {r:PV} {Q:VK} {v:V} (w:Wv K F H r Q) (h:Same F H) (q:Rep K F r v):Q v H:=w v H F (.refl h) q
abbrev MEx:=PEnv→Option PV
def tM (K:PySem.W.Frag) (ms:List Nat) (m:MEx):TE:=fun σ H Q=>∃ F γ r,Same F H∧ERep K F σ γ ms∧m γ=some r∧Wv K F H r Q
def tMO (K:PySem.W.Frag) (ms:List Nat) (m:PEnv→Option (List PV)):TE:=fun σ H Q=>∃ F γ r,Same F H∧ERep K F σ γ ms∧m γ=some r∧Wo K F H r Q
def tMT (K:PySem.W.Frag) (ms:List Nat) (m:PEnv→Option Bool):TT:=fun σ H Q=>∃ F γ r,Same F H∧ERep K F σ γ ms∧m γ=some r∧∀ H' F',Grow F H F' H'→Q r H'
def tMA (K:PySem.W.Frag) (ms:List Nat) (m:PEnv→Option (List PV)):TA:=fun σ H Q=>∃ F γ r,Same F H∧ERep K F σ γ ms∧m γ=some r∧∀ vs H' F',Grow F H F' H'→RepL K F' r vs→Q vs H'
def EM (X:Cx) (ms:List Nat) (e:Expr) (m:MEx):Prop:=PE X e (tM X.K ms m)
def EO (X:Cx) (ms:List Nat) (e:Expr) (m:PEnv→Option (List PV)):Prop:=PE X e (tMO X.K ms m)
def TM (X:Cx) (ms:List Nat) (e:Expr) (m:PEnv→Option Bool):Prop:=PT X e (tMT X.K ms m)
def AM (X:Cx) (ms:List Nat) (es:List Expr) (m:PEnv→Option (List PV)):Prop:=PA X es (tMA X.K ms m)
section
variable {X:Cx} {e a b:Expr} {es:List Expr} {ms ns:List Nat} {m m1 m2:MEx} {pos:Pos}
theorem _root_.L2.PE.imp {t t':TE} (h:PE X e t) (i:∀ σ H Q,t' σ H Q→t σ H Q):PE X e t':=fun pins s σ H Q I q=>h pins s σ H Q I (i σ H Q q)
theorem _root_.L2.PT.imp {t t':TT} (h:PT X e t) (i:∀ σ H Q,t' σ H Q→t σ H Q):PT X e t':=fun pins s σ H Q I q=>h pins s σ H Q I (i σ H Q q)
theorem _root_.L2.PA.imp {t t':TA} (h:PA X es t) (i:∀ σ H Q,t' σ H Q→t σ H Q):PA X es t':=fun pos pins s σ H Q I q=>h pos pins s σ H Q I (i σ H Q q)
theorem _root_.L2.PS.imp {st:Stmt} {t t':TS} (h:PS X st t) (i:∀ D σ H,t' D σ H→t D σ H):PS X st t':=fun pins s σ H D I q=>h pins s σ H D I (i D σ H q)
def mLst (m:PEnv→Option (List PV)):MEx:=fun γ=>(m γ).map PV.lst
theorem EO.em {m:PEnv→Option (List PV)} (h:EO X ms e m):EM X ms e (mLst m):=PE.imp h fun σ H Q ⟨F,γ,r,h1,h2,h3,w⟩=>by
 unfold mLst at h3
 cases q:m γ with
 | none=>rw [q] at h3;cases h3
 | some xs =>
  rw [q] at h3
  cases h3
  exact ⟨F,γ,xs,h1,h2,q,w.of_lst⟩
def mVar (i:Nat):MEx:=fun γ=>getV γ i
def mC (p:PV):MEx:=fun _=>some p
theorem Qa (i:Nat) {x:Str} (h:PE X (.Name x pos) (tVar i)):EM X [i] (.Name x pos) (mVar i):=PE.imp h fun σ H Q ⟨F,γ,r,h1,h2,h3,w⟩=>by
 obtain ⟨v,e1,e2⟩:=h2 i (by simp) r h3
 exact ⟨v,e1,w.here h1 e2⟩
theorem Qg {i j pos}:EM X [] (.Constant (.int i) j pos) (mC (.int i)):=PE.imp pe_int fun σ H Q ⟨F,γ,r,h1,h2,h3,w⟩=>by
 cases h3;exact w.here h1 (by unfold Rep;rfl)
theorem Qed {i j pos}:EM X [] (.Constant (.bool i) j pos) (mC (.bl i)):=PE.imp pe_bl fun σ H Q ⟨F,γ,r,h1,h2,h3,w⟩=>by
 cases h3;exact w.here h1 (by unfold Rep;rfl)
theorem QS {i j pos}:EM X [] (.Constant (.str i) j pos) (mC (.str i)):=PE.imp pe_str fun σ H Q ⟨F,γ,r,h1,h2,h3,w⟩=>by
 cases h3;exact w.here h1 (by unfold Rep;rfl)
def rM2 (K:PySem.W.Frag) (f:PV→PV→Option PV):R2:=fun x y H Q=>∃ F p q r,Same F H∧Rep K F p x∧Rep K F q y∧f p q=some r∧Wv K F H r Q
def rM2O (K:PySem.W.Frag) (f:PV→PV→Option (List PV)):R2:=fun x y H Q=>∃ F p q r,Same F H∧Rep K F p x∧Rep K F q y∧f p q=some r∧Wo K F H r Q
def bin2 (f:PV→PV→Option α) (m1 m2:MEx):PEnv→Option α:=fun γ=>(m1 γ).bind fun x=>(m2 γ).bind fun y=>f x y
theorem Qhj {K:PySem.W.Frag} {f:PV→PV→Option PV} {σ:St} {H:Hp} {Q:VK} (h:tM K (ms++ns) (bin2 f m1 m2) σ H Q):tOp (rM2 K f) (tM K ms m1) (tM K ns m2) σ H Q:=by
 obtain ⟨F,γ,r,h1,h2,h3,w⟩:=h
 unfold bin2 at h3
 cases e1:m1 γ with
 | none=>rw [e1] at h3;cases h3
 | some x =>
  cases e2:m2 γ with
  | none=>rw [e1,e2] at h3;cases h3
  | some y =>
   rw [e1,e2] at h3
   refine ⟨F,γ,x,h1,h2.left,e1,fun vx H1 F1 g1 r1=>⟨F1,γ,y,g1.sub,h2.right.mono g1.ext,e2,fun vy H2 F2 g2 r2 => ?_⟩⟩
   exact ⟨F2,x,y,r,g2.sub,r1.mono g2.ext,r2,h3,w.go (g1.trans g2)⟩
theorem tOpO_of {K:PySem.W.Frag} {f:PV→PV→Option (List PV)} {σ:St} {H:Hp} {Q:VK} (h:tMO K (ms++ns) (bin2 f m1 m2) σ H Q):tOp (rM2O K f) (tM K ms m1) (tM K ns m2) σ H Q:=by
 obtain ⟨F,γ,r,h1,h2,h3,w⟩:=h
 unfold bin2 at h3
 cases e1:m1 γ with
 | none=>rw [e1] at h3;cases h3
 | some x =>
  cases e2:m2 γ with
  | none=>rw [e1,e2] at h3;cases h3
  | some y =>
   rw [e1,e2] at h3
   refine ⟨F,γ,x,h1,h2.left,e1,fun vx H1 F1 g1 r1=>⟨F1,γ,y,g1.sub,h2.right.mono g1.ext,e2,fun vy H2 F2 g2 r2 => ?_⟩⟩
   exact ⟨F2,x,y,r,g2.sub,r1.mono g2.ext,r2,h3,w.go (g1.trans g2)⟩
def OpM (X:Cx) (g:Value→Value→Sem Value) (f:PV→PV→Option PV):Prop:=OpR X g (rM2 X.K f)
def OpO (X:Cx) (g:Value→Value→Sem Value) (f:PV→PV→Option (List PV)):Prop:=OpR X g (rM2O X.K f)
theorem Qu {op:Operator} {f:PV→PV→Option PV} (ho:OpM X (binaryOp op) f) (ha:EM X ms a m1) (hb:EM X ns b m2):EM X (ms++ns) (.BinOp a op b pos) (bin2 f m1 m2) :=
 PE.imp (pe_op ho ha hb) fun _ _ _ h=>Qhj h
theorem Qid {op:Operator} {f:PV→PV→Option (List PV)} (ho:OpO X (binaryOp op) f) (ha:EM X ms a m1) (hb:EM X ns b m2):EO X (ms++ns) (.BinOp a op b pos) (bin2 f m1 m2) :=
 PE.imp (pe_op ho ha hb) fun _ _ _ h=>tOpO_of h
theorem QfL {op:CmpOp} {f:PV→PV→Option PV} (ho:OpM X (compareOp op) f) (ha:EM X ms a m1) (hb:EM X ns b m2) (hm:behindInMarks op b=false):EM X (ms++ns) (.Compare a [op] [b] pos) (bin2 f m1 m2) :=
 PE.imp (pe_cmpR ho ha hb hm) fun _ _ _ h=>Qhj h
theorem Qo {f:PV→PV→Option PV} (ho:IxR X (rM2 X.K f)) (ha:EM X ms a m1) (hb:EM X ns b m2) (hs:Qlu b):EM X (ms++ns) (.Subscript a b pos) (bin2 f m1 m2) :=
 PE.imp (pe_ix ho ha hb hs) fun _ _ _ h=>Qhj h
def isB:PV→Option Bool
 | .bl b=>some b
 | _=>none
def truB (m:MEx):PEnv→Option Bool:=fun γ=>(m γ).bind isB
theorem Qit {K:PySem.W.Frag} {t:TE} {σ:St} {H:Hp} {Q:Bool→Hp→Prop} (ht:∀ Q,tM K ms m σ H Q→t σ H Q) (h:tMT K ms (truB m) σ H Q):tTest t σ H Q:=by
 obtain ⟨F,γ,r,h1,h2,h3,w⟩:=h
 unfold truB at h3
 cases e1:m γ with
 | none=>rw [e1] at h3;cases h3
 | some x =>
  rw [e1] at h3
  cases x with
  | bl b =>
   obtain rfl:b=r:=Option.some.inj h3
   refine ht _ ⟨F,γ,.bl b,h1,h2,e1,fun v H' F' g q => ?_⟩
   unfold Rep at q
   exact ⟨b,q,w H' F' g⟩
  | _=>cases h3
theorem QB {op:CmpOp} {f:PV→PV→Option PV} (ho:OpM X (compareOp op) f) (ha:EM X ms a m1) (hb:EM X ns b m2) (hm:behindInMarks op b=false):TM X (ms++ns) (.Compare a [op] [b] pos) (truB (bin2 f m1 m2)) :=
 PT.imp (pt_cmpR ho ha hb hm) fun _ _ _ h=>Qit (fun _=>Qhj) h
end
abbrev LIM:Nat:=1000000
theorem Zx:LIM≤sizeLine:=by decide
theorem Qz {α:Type} {c:Prop} [Decidable c] {a r:α} (h:(if c then some a else none)=some r):c∧a=r:=by
 by_cases k:c
 ·rw [if_pos k] at h;exact ⟨k,Option.some.inj h⟩
 ·rw [if_neg k] at h;cases h
section
variable {X:Cx}
def iop (C:Int→Int→Bool) (g:Int→Int→PV):PV→PV→Option PV
 | .int i,.int j=>if C i j=true then some (g i j) else none
 | _,_=>none
theorem QkY {C:Int→Int→Bool} {g:Int→Int→PV} {p q r:PV} (h:iop C g p q=some r):∃ i j,p = .int i∧q = .int j∧C i j=true∧r=g i j:=by
  cases p <;> cases q <;> first
    | (exfalso;cases h;done)
    | (rename_i i j
       have h:(if C i j=true then some (g i j) else none)=some r:=h
       obtain ⟨c,e⟩:=Qz h
       exact ⟨i,j,rfl,rfl,c,e.symm⟩)
theorem Qmy {f:Value→Value→Sem Value} {C':Int→Int→Prop} {C:Int→Int→Bool} {g:Int→Int→PV} {gv:Int→Int→V} (ho:OpR X f (rI C' gv)) (hc:∀ i j,C i j=true→C' i j) (hg:∀ i j K F,Rep K F (g i j) (gv i j)):OpM X f (iop C g):=by
 intro pins s σ H x y v u Q I rx ry h
 obtain ⟨F,p,q,r,h1,h2,h3,h4,w⟩:=h
 obtain ⟨i,j,rfl,rfl,c,rfl⟩:=QkY h4
 unfold Rep at h2 h3
 exact ho pins s σ H x y v u Q I rx ry ⟨i,j,h2,h3,hc i j c,w.here h1 (hg i j _ _)⟩
theorem Qhn {f:Value→Value→Sem Value} {g:Int→Int→PV} {gv:Int→Int→V} (ho:OpR X f (rI0 gv)) (hg:∀ i j K F,Rep K F (g i j) (gv i j)):OpM X f (iop (fun _ _=>true) g):=by
 intro pins s σ H x y v u Q I rx ry h
 obtain ⟨F,p,q,r,h1,h2,h3,h4,w⟩:=h
 obtain ⟨i,j,rfl,rfl,c,rfl⟩:=QkY h4
 unfold Rep at h2 h3
 exact ho pins s σ H x y v u Q I rx ry ⟨i,j,h2,h3,w.here h1 (hg i j _ _)⟩
theorem ZD {K:PySem.W.Frag} {F:Hp} (i:Int):Rep K F (.int i) (.int i):=by unfold Rep;rfl
theorem YH {K:PySem.W.Frag} {F:Hp} (i:Bool):Rep K F (.bl i) (.bl i):=by unfold Rep;rfl
theorem Qak {K:PySem.W.Frag} {F:Hp} (i:Str):Rep K F (.str i) (.str i):=by unfold Rep;rfl
theorem QkB {K:PySem.W.Frag} {F:Hp}:Rep K F .non .non:=by unfold Rep;rfl
def pSub:=iop (fun _ _=>true) fun i j => .int (i - j)
def cls (p:Prop):Bool := @decide p (Classical.propDecidable p)
theorem Qdm {p:Prop} (h:cls p=true):p := @of_decide_eq_true p (Classical.propDecidable p) h
theorem QfO {p:Prop} (h:p):cls p=true := @decide_eq_true p (Classical.propDecidable p) h
def cMul (i j:Int):Bool:=cls (-(2 ^ 64) < i∧i < 2 ^ 64)||cls (-(2 ^ 64) < j∧j < 2 ^ 64)
def cDiv (_ j:Int):Bool:=cls (0 < j∧j < 2 ^ 200)
def cPos (_ j:Int):Bool:=decide (0 < j)
def cPow (i j:Int):Bool:=cls (0≤j∧j≤1000000∧i.natAbs < 2 ^ 64)
def pMul:=iop cMul fun i j => .int (i * j)
def pDiv:=iop cDiv fun i j => .int (i / j)
def pMod:=iop cPos fun i j => .int (i % j)
def pPow:=iop cPow fun i j => .int (i ^ j.toNat)
def pLt:=iop (fun _ _=>true) fun i j => .bl (decide (i < j))
def pLe:=iop (fun _ _=>true) fun i j => .bl (decide (i≤j))
def pGt:=iop (fun _ _=>true) fun i j => .bl (decide (j < i))
theorem Qho:OpM X (binaryOp .Sub) pSub:=Qhn op_sub fun _ _ _ _=>ZD _
theorem cMul_ok {i j:Int} (h:cMul i j=true):CMul i j:=by
 unfold cMul at h
 rw [Bool.or_eq_true] at h
 exact h.imp Qdm Qdm
theorem QcN:OpM X (binaryOp .Mult) pMul:=Qmy op_mul (fun _ _ h=>cMul_ok h) fun _ _ _ _=>ZD _
theorem div_log {j:Int} (h0:0 < j) (h:j < 2 ^ 200):j.natAbs.log2 < 9000:=by
 have h1:j.natAbs < 2 ^ 200:=by omega
 have h2:j.natAbs.log2 < 200:=(Nat.log2_lt (by omega)).mpr h1
 omega
theorem op_fdivL:OpR X (binaryOp .FloorDiv) (rI (fun _ j=>0 < j∧j < 2 ^ 200) fun i j => .int (i / j)):=opI fun i j _ _ _ _ _ hc q=>by
 have h1:(0:Int) < j:=hc.1
 exact floordiv_int (by omega) (by rw [Int.fdiv_eq_ediv_of_nonneg i (by omega)];exact q) (.inl (PyProof.noPylong_of_log2 (div_log h1 hc.2)))
theorem Qbj:OpM X (binaryOp .FloorDiv) pDiv:=Qmy op_fdivL (fun _ _ h=>Qdm h) fun _ _ _ _=>ZD _
theorem Za:OpM X (binaryOp .Mod) pMod:=Qmy op_mod (fun _ _ h=>of_decide_eq_true h) fun _ _ _ _=>ZD _
theorem om_pow:OpM X (binaryOp .Pow) pPow:=Qmy op_pow (fun i j h=>Qdm (p:=0≤j∧j≤1000000∧i.natAbs < 2 ^ 64) h) fun _ _ _ _=>ZD _
theorem QhO:OpM X (compareOp .Lt) pLt:=Qhn op_lt fun _ _ _ _=>YH _
theorem om_le:OpM X (compareOp .LtE) pLe:=Qhn op_le fun _ _ _ _=>YH _
theorem QmA:OpM X (compareOp .Gt) pGt:=Qhn op_gt fun _ _ _ _=>YH _
theorem op_catS:OpR X (binaryOp .Add) (fun x y H Q=>∃ l b xs zs,x = .ref l∧y = .ref b∧SqL X.K H l xs∧SqL X.K H b zs∧xs.length + zs.length≤sizeLine∧∀ p,H p=none→Q (.ref p) (upd H p (.lst (xs++zs)))):=by
 intro pins s σ H x y v u Q I rx ry h
 obtain ⟨l,b,xs,zs,rfl,rfl,hH,hB,hz,q⟩:=h
 cases rx
 cases ry
 obtain ⟨its,r,⟨⟨cls,dd,data,sl⟩,n,e,c,_,d⟩,_⟩:=I.list hH
 obtain ⟨its2,r2,⟨⟨cls2,dd2,data2,sl2⟩,n2,e2,c2,_,d2⟩,_⟩:=I.list hB
 simp only at c d c2 d2
 subst c d c2 d2
 have hsz:its.toArray.size + its2.toArray.size≤sizeLine:=by rw [List.size_toArray,List.size_toArray,← r.length,← r2.length];exact hz
 have ea:its.toArray++its2.toArray=(its++its2).toArray:=by simp
 refine concat_meets ⟨_,e,rfl⟩ ⟨_,e2,rfl⟩ noFill_list_add seq_list_add PySem.F.slot_list_add PySem.F.entry_list_add (PySem.F.args_list_add_2 _ _)
  (list_addW l b its.toArray its2.toArray n n2 dd dd2 sl sl2 hsz) ⟨e,e2,?_⟩
 rw [ea]
 exact ⟨.ref _,_,I.lnew (t':=s.toks) (r.append r2) (by rw [List.length_append];omega),rfl,q _ I.fresh⟩
def pCat:PV→PV→Option (List PV)
 | .lst a,.lst b=>if a.length + b.length≤LIM then some (a++b) else none
 | _,_=>none
theorem QfF:OpO X (binaryOp .Add) pCat:=by
 intro pins s σ H x y v u Q I rx ry h
 obtain ⟨F,p,q,r,h1,h2,h3,h4,w⟩:=h
 cases p <;> cases q <;> first
  | (exfalso;cases h4;done)
  | skip
 rename_i xs ys
 have h4:(if xs.length + ys.length≤LIM then some (xs++ys) else none)=some r:=h4
 obtain ⟨c,rfl⟩:=Qz h4
 unfold Rep at h2 h3
 obtain ⟨a,vs,rfl,sa,ra⟩:=h2
 obtain ⟨b,us,rfl,sb,rb⟩:=h3
 refine op_catS pins s σ H _ _ v u Q I rx ry ⟨a,b,vs,us,rfl,rfl,h1.seq sa,h1.seq sb,by rw [ra.length,rb.length];exact Nat.le_trans c Zx,fun p hp => ?_⟩
 have nF:F p=none:=h1.free hp
 exact w p _ _ F (.side h1 hp) hp nF Qq (ra.append rb)
def pAdd:PV→PV→Option PV
 | .int i,.int j=>some (.int (i + j))
 | .str a,.str b=>if a.length + b.length≤LIM then some (.str (a++b)) else none
 | _,_=>none
theorem Zv:OpM X (binaryOp .Add) pAdd:=by
 intro pins s σ H x y v u Q I rx ry h
 obtain ⟨F,p,q,r,h1,h2,h3,h4,w⟩:=h
 cases p <;> cases q <;> first
  | (exfalso;cases h4;done)
  | skip
 ·cases h4
  unfold Rep at h2 h3
  exact op_add pins s σ H x y v u Q I rx ry ⟨_,_,h2,h3,w.here h1 (ZD _)⟩
 ·rename_i a b
  have h4:(if a.length + b.length≤LIM then some (PV.str (a++b)) else none)=some r:=h4
  obtain ⟨c,rfl⟩:=Qz h4
  unfold Rep at h2 h3
  exact Qjn pins s σ H x y v u Q I rx ry ⟨_,_,h2,h3,Nat.le_trans c Zx,w.here h1 (Qak _)⟩
end
mutual
def peq:PV→PV→Bool
 | .non,.non=>true
 | .bl a,.bl b=>a==b
 | .bl a,.int b=>(if a then 1 else 0)==b
 | .int a,.bl b=>a==(if b then 1 else 0)
 | .int a,.int b=>a==b
 | .str a,.str b=>a==b
 | .tup xs,.tup ys=>peqL xs ys
 | .lst xs,.lst ys=>peqL xs ys
 | .obj C ks ps,.obj D ls qs=>(C==D&&ks==ls)&&peqL ps qs
 | .opq a,.opq b=>a==b
 | .dct a,.dct b=>decide (a=b)
 | .dcw a,.dcw b=>decide (a=b)
 | _,_=>false
def peqL:List PV→List PV→Bool
 | [],[]=>true
 | x :: xs,y :: ys=>peq x y&&peqL xs ys
 | _,_=>false
end
mutual
def dep:PV→Nat
 | .tup xs=>depL xs + 1
 | .lst xs=>depL xs + 1
 | .obj _ _ _=>1000
 | .opq _=>1000
 | .dct _=>1000
 | .dcw _=>1000
 | _=>0
def depL:List PV→Nat
 | []=>0
 | x :: xs=>max (dep x) (depL xs)
end
theorem QbD:∀ {xs:List PV} {j:Nat} {p:PV},xs[j]?=some p→dep p≤depL xs
 | [],_,_,e=>by simp at e
 | x :: xs,0,p,e=>by
  simp at e;subst e
  unfold depL
  exact Nat.le_max_left _ _
 | x :: xs,j + 1,p,e=>by
  have:=QbD (xs:=xs) (j:=j) (by simpa using e)
  unfold depL
  exact Nat.le_trans this (Nat.le_max_right _ _)
mutual
theorem peq_refl:∀ p:PV,peq p p=true
 | .non=>rfl
 | .bl a=>by show (a==a)=true;simp
 | .int a=>by show (a==a)=true;simp
 | .str a=>by show (a==a)=true;simp
 | .tup xs=>Xv xs
 | .lst xs=>Xv xs
 | .obj C ks ps=>by show ((C==C&&ks==ks)&&peqL ps ps)=true;rw [Xv ps];simp
 | .opq a=>by show (a==a)=true;simp
 | .dct a=>decide_eq_true rfl
 | .dcw a=>decide_eq_true rfl
theorem Xv:∀ xs:List PV,peqL xs xs=true
 | []=>by first | rfl | simp [peqL]
 | x :: xs=>by
  first | rw [show peqL (x :: xs) (y :: ys)=(peq x y&&peqL xs ys) from rfl] | rw [show peqL (x :: xs) (x :: xs)=(peq x x&&peqL xs xs) from rfl]
  rw [peq_refl x,Xv xs]
  rfl
end
def eAt (xs ys:List PV) (j:Nat):Bool:=match xs[j]?,ys[j]? with
 | some p,some q=>peq p q
 | _,_=>true
theorem Qei (n:Nat) (e:Nat→Bool):(List.range (n + 1)).all e=(e 0&&(List.range n).all fun j=>e (j + 1)):=by
 rw [List.range_succ_eq_map,List.all_cons,List.all_map]
 rfl
theorem QaK:∀ (xs ys:List PV),((List.range (min xs.length ys.length)).all (eAt xs ys)&&(xs.length==ys.length))=peqL xs ys
 | [],[]=>by first | rfl | simp [peqL]
 | [],y :: ys=>by first | rfl | simp [peqL]
 | x :: xs,[]=>by first | rfl | simp [peqL]
 | x :: xs,y :: ys=>by
  have ih:=QaK xs ys
  first | rw [show peqL (x :: xs) (y :: ys)=(peq x y&&peqL xs ys) from rfl] | rw [show peqL (x :: xs) (x :: xs)=(peq x x&&peqL xs xs) from rfl]
  rw [← ih]
  have e1:min (x :: xs).length (y :: ys).length=min xs.length ys.length + 1:=by
   simp only [List.length_cons];omega
  rw [e1,Qei]
  have e2:eAt (x :: xs) (y :: ys) 0=peq x y:=by simp [eAt]
  have e3:(fun j=>eAt (x :: xs) (y :: ys) (j + 1))=eAt xs ys:=by
   funext j
   simp [eAt]
  have e4:((x :: xs).length==(y :: ys).length)=(xs.length==ys.length):=by
   rw [Bool.eq_iff_iff];simp
  rw [e2,e3,e4,Bool.and_assoc]
section
variable {X:Cx} {pins:List (Addr×Obj)} {σ:St} {H F:Hp} {s:Shared}
mutual
theorem Rep.inj (I:Inv X pins σ H s) (hF:Same F H):∀ {p q:PV} {v:V},dep p < 1000→dep q < 1000→Rep X.K F p v→Rep X.K F q v→p=q
 | .non,q,v,_,dq,h,k=>by
  unfold Rep at h;subst h
  cases q <;> unfold Rep at k <;> first | rfl | (cases k;done) | (obtain ⟨_,_,k,_⟩:=k;cases k;done) | (obtain ⟨_,_,_,k,_⟩:=k;cases k;done)
 | .bl b,q,v,_,dq,h,k=>by
  unfold Rep at h;subst h
  cases q <;> unfold Rep at k <;> first | (cases k;done) | (cases k;rfl) | (obtain ⟨_,_,k,_⟩:=k;cases k;done) | (obtain ⟨_,_,_,k,_⟩:=k;cases k;done)
 | .int b,q,v,_,dq,h,k=>by
  unfold Rep at h;subst h
  cases q <;> unfold Rep at k <;> first | (cases k;done) | (cases k;rfl) | (obtain ⟨_,_,k,_⟩:=k;cases k;done) | (obtain ⟨_,_,_,k,_⟩:=k;cases k;done)
 | .str b,q,v,_,dq,h,k=>by
  unfold Rep at h;subst h
  cases q <;> unfold Rep at k <;> first | (cases k;done) | (cases k;rfl) | (obtain ⟨_,_,k,_⟩:=k;cases k;done) | (obtain ⟨_,_,_,k,_⟩:=k;cases k;done)
 | .tup xs,q,v,dp,dq,h,k=>by
  unfold Rep at h
  obtain ⟨a,vs,rfl,h2,h3⟩:=h
  cases q with
  | tup ys =>
   unfold Rep at k
   obtain ⟨b,us,e,k2,k3⟩:=k
   cases e
   have e:=I.tuple_inj (hF.seqT h2) (hF.seqT k2)
   subst e
   unfold dep at dp dq
   rw [RepL.inj I hF (by omega) (by omega) h3 k3]
  | lst ys =>
   unfold Rep at k
   obtain ⟨b,us,e,k2,k3⟩:=k
   cases e
   obtain ⟨its,_,p1,_⟩:=I.tuple (hF.seqT h2)
   obtain ⟨its2,_,p2,_⟩:=I.list (hF.seq k2)
   exact absurd rfl (PySem.SeqAt.ne_of_list_tuple p2.isList p1)
  | obj C ks ps=>unfold dep at dq;omega
  | opq b=>unfold dep at dq;omega
  | dct b=>unfold dep at dq;omega
  | dcw b=>unfold dep at dq;omega
  | _=>unfold Rep at k;cases k
 | .lst xs,q,v,dp,dq,h,k=>by
  unfold Rep at h
  obtain ⟨a,vs,rfl,h2,h3⟩:=h
  cases q with
  | lst ys =>
   unfold Rep at k
   obtain ⟨b,us,e,k2,k3⟩:=k
   cases e
   have e:=I.list_inj (hF.seq h2) (hF.seq k2)
   subst e
   unfold dep at dp dq
   rw [RepL.inj I hF (by omega) (by omega) h3 k3]
  | tup ys =>
   unfold Rep at k
   obtain ⟨b,us,e,k2,k3⟩:=k
   cases e
   obtain ⟨its,_,p1,_⟩:=I.list (hF.seq h2)
   obtain ⟨its2,_,p2,_⟩:=I.tuple (hF.seqT k2)
   exact absurd rfl (PySem.SeqAt.ne_of_list_tuple p1.isList p2)
  | obj C ks ps=>unfold dep at dq;omega
  | opq b=>unfold dep at dq;omega
  | dct b=>unfold dep at dq;omega
  | dcw b=>unfold dep at dq;omega
  | _=>unfold Rep at k;cases k
 | .obj C ks ps,q,v,dp,dq,h,k=>by unfold dep at dp;omega
 | .opq a,q,v,dp,dq,h,k=>by unfold dep at dp;omega
 | .dct a,q,v,dp,dq,h,k=>by unfold dep at dp;omega
 | .dcw a,q,v,dp,dq,h,k=>by unfold dep at dp;omega
theorem RepL.inj (I:Inv X pins σ H s) (hF:Same F H):∀ {ps qs:List PV} {vs:List V},depL ps < 1000→depL qs < 1000→RepL X.K F ps vs→RepL X.K F qs vs→ps=qs
 | [],qs,vs,dp,dq,h,k=>by
  unfold RepL at h;subst h
  cases qs with
  | nil=>rfl
  | cons q qs=>unfold RepL at k;obtain ⟨_,_,k,_⟩:=k;cases k
 | p :: ps,qs,vs,dp,dq,h,k=>by
  unfold RepL at h
  obtain ⟨v,r,rfl,h2,h3⟩:=h
  cases qs with
  | nil=>unfold RepL at k;cases k
  | cons q qs =>
   unfold RepL at k
   obtain ⟨v',r',e,k2,k3⟩:=k
   cases e
   unfold depL at dp dq
   rw [Rep.inj I hF (by omega) (by omega) h2 k2,RepL.inj I hF (by omega) (by omega) h3 k3]
end
theorem eqAt_rep (I:Inv X pins σ H s) (hF:Same F H):∀ (n:Nat) (A:Around) (p q:PV) (v u:V) (x y:Value),dep p≤n→n≤900→dep q < 1000→A.units + n < cLine→Rep X.K F p v→Rep X.K F q u→RelV v x→RelV u y→SeqAt.EqAt A s x y (peq p q):=by
 intro n
 induction n with
 | zero =>
  intro A p q v u x y hd hn hdq hu hp hq rx ry
  cases p with
  | tup xs=>unfold dep at hd;omega
  | lst xs=>unfold dep at hd;omega
  | obj C ks ps=>unfold dep at hd;omega
  | opq b=>unfold dep at hd;omega
  | dct b=>unfold dep at hd;omega
  | dcw b=>unfold dep at hd;omega
  | non =>
   unfold Rep at hp;subst hp;cases rx
   cases q with
   | obj D ls qs=>unfold dep at hdq;omega
   | opq b=>unfold dep at hdq;omega
   | dct b=>unfold dep at hdq;omega
   | dcw b=>unfold dep at hdq;omega
   | non=>unfold Rep at hq;subst hq;cases ry;exact SeqAt.EqAt.same _
   | bl b=>unfold Rep at hq;subst hq;cases ry;exact SeqAt.EqAt.none_bool b
   | int b=>unfold Rep at hq;subst hq;obtain ⟨t,rfl⟩:=ry;exact SeqAt.EqAt.none_int b t
   | str b=>unfold Rep at hq;subst hq;obtain ⟨t,rfl⟩:=ry;exact SeqAt.EqAt.none_str b t
   | tup ys =>
    unfold Rep at hq;obtain ⟨b,us,rfl,k2,k3⟩:=hq;cases ry
    obtain ⟨its,_,p1,_⟩:=I.tuple (hF.seqT k2)
    exact SeqAt.EqAt.none_tuple p1 (by omega)
   | lst ys =>
    unfold Rep at hq;obtain ⟨b,us,rfl,k2,k3⟩:=hq;cases ry
    obtain ⟨its,_,p1,_⟩:=I.list (hF.seq k2)
    exact SeqAt.EqAt.none_list p1.isList (by omega)
  | bl a =>
   unfold Rep at hp;subst hp;cases rx
   cases q with
   | obj D ls qs=>unfold dep at hdq;omega
   | opq b=>unfold dep at hdq;omega
   | dct b=>unfold dep at hdq;omega
   | dcw b=>unfold dep at hdq;omega
   | non=>unfold Rep at hq;subst hq;cases ry;exact SeqAt.EqAt.bool_none a
   | bl b=>unfold Rep at hq;subst hq;cases ry;exact SeqAt.EqAt.bool_bool a b
   | int b=>unfold Rep at hq;subst hq;obtain ⟨t,rfl⟩:=ry;exact SeqAt.EqAt.bool_int a b t
   | str b=>unfold Rep at hq;subst hq;obtain ⟨t,rfl⟩:=ry;exact SeqAt.EqAt.bool_str a b t
   | tup ys =>
    unfold Rep at hq;obtain ⟨b,us,rfl,k2,k3⟩:=hq;cases ry
    obtain ⟨its,_,p1,_⟩:=I.tuple (hF.seqT k2)
    exact SeqAt.EqAt.bool_tuple a p1 (by omega)
   | lst ys =>
    unfold Rep at hq;obtain ⟨b,us,rfl,k2,k3⟩:=hq;cases ry
    obtain ⟨its,_,p1,_⟩:=I.list (hF.seq k2)
    exact SeqAt.EqAt.bool_list a p1.isList (by omega)
  | int a =>
   unfold Rep at hp;subst hp;obtain ⟨t',rfl⟩:=rx
   cases q with
   | obj D ls qs=>unfold dep at hdq;omega
   | opq b=>unfold dep at hdq;omega
   | dct b=>unfold dep at hdq;omega
   | dcw b=>unfold dep at hdq;omega
   | non=>unfold Rep at hq;subst hq;cases ry;exact SeqAt.EqAt.int_none a t'
   | bl b=>unfold Rep at hq;subst hq;cases ry;exact SeqAt.EqAt.int_bool a t' b
   | int b=>unfold Rep at hq;subst hq;obtain ⟨t,rfl⟩:=ry;exact SeqAt.EqAt.int_int a t' b t
   | str b=>unfold Rep at hq;subst hq;obtain ⟨t,rfl⟩:=ry;exact SeqAt.EqAt.int_str a t' b t
   | tup ys =>
    unfold Rep at hq;obtain ⟨b,us,rfl,k2,k3⟩:=hq;cases ry
    obtain ⟨its,_,p1,_⟩:=I.tuple (hF.seqT k2)
    exact SeqAt.EqAt.int_tuple a t' p1 (by omega)
   | lst ys =>
    unfold Rep at hq;obtain ⟨b,us,rfl,k2,k3⟩:=hq;cases ry
    obtain ⟨its,_,p1,_⟩:=I.list (hF.seq k2)
    exact SeqAt.EqAt.int_list a t' p1.isList (by omega)
  | str a =>
   unfold Rep at hp;subst hp;obtain ⟨t',rfl⟩:=rx
   cases q with
   | obj D ls qs=>unfold dep at hdq;omega
   | opq b=>unfold dep at hdq;omega
   | dct b=>unfold dep at hdq;omega
   | dcw b=>unfold dep at hdq;omega
   | non=>unfold Rep at hq;subst hq;cases ry;exact SeqAt.EqAt.str_none a t'
   | bl b=>unfold Rep at hq;subst hq;cases ry;exact SeqAt.EqAt.str_bool a t' b
   | int b=>unfold Rep at hq;subst hq;obtain ⟨t,rfl⟩:=ry;exact SeqAt.EqAt.str_int a t' b t
   | str b=>unfold Rep at hq;subst hq;obtain ⟨t,rfl⟩:=ry;exact SeqAt.EqAt.str_str a t' b t
   | tup ys =>
    unfold Rep at hq;obtain ⟨b,us,rfl,k2,k3⟩:=hq;cases ry
    obtain ⟨its,_,p1,_⟩:=I.tuple (hF.seqT k2)
    exact SeqAt.EqAt.str_tuple a t' p1 (by omega)
   | lst ys =>
    unfold Rep at hq;obtain ⟨b,us,rfl,k2,k3⟩:=hq;cases ry
    obtain ⟨its,_,p1,_⟩:=I.list (hF.seq k2)
    exact SeqAt.EqAt.str_list a t' p1.isList (by omega)
 | succ n ih =>
  intro A p q v u x y hd hn hdq hu hp hq rx ry
  by_cases hd0:dep p≤n
  ·exact ih A p q v u x y hd0 (by omega) hdq (by omega) hp hq rx ry
  ·have hN:A.units < cLine:=by omega
   cases p with
   | tup xs =>
    unfold Rep at hp
    obtain ⟨a,vs,rfl,h2,h3⟩:=hp
    cases rx
    have hdx:depL xs≤n:=by unfold dep at hd;omega
    obtain ⟨its,rv,p1,z1⟩:=I.tuple (hF.seqT h2)
    cases q with
    | obj D ls qs=>unfold dep at hdq;omega
    | opq b=>unfold dep at hdq;omega
    | dct b=>unfold dep at hdq;omega
    | dcw b=>unfold dep at hdq;omega
    | non=>unfold Rep at hq;subst hq;cases ry;exact SeqAt.EqAt.tuple_none p1 hN
    | bl b=>unfold Rep at hq;subst hq;cases ry;exact SeqAt.EqAt.tuple_bool b p1 hN
    | int b=>unfold Rep at hq;subst hq;obtain ⟨t,rfl⟩:=ry;exact SeqAt.EqAt.tuple_int b t p1 hN
    | str b=>unfold Rep at hq;subst hq;obtain ⟨t,rfl⟩:=ry;exact SeqAt.EqAt.tuple_str b t p1 hN
    | lst ys =>
     unfold Rep at hq;obtain ⟨b,us,rfl,k2,k3⟩:=hq;cases ry
     obtain ⟨its2,_,p2,_⟩:=I.list (hF.seq k2)
     exact SeqAt.EqAt.tuple_list p1 p2.isList hN
    | tup ys =>
     unfold Rep at hq;obtain ⟨b,us,rfl,k2,k3⟩:=hq;cases ry
     obtain ⟨its2,ru,p2,z2⟩:=I.tuple (hF.seqT k2)
     change SeqAt.EqAt _ _ _ _ (peqL xs ys)
     by_cases hab:a=b
     ·subst hab
      have e:=I.tuple_inj (hF.seqT h2) (hF.seqT k2)
      subst e
      rw [RepL.inj I hF (by omega) (by unfold dep at hdq;omega) h3 k3,Xv]
      exact SeqAt.EqAt.same _
     ·have l1:its.toArray.size=xs.length:=by rw [List.size_toArray,← rv.length,h3.length]
      have l2:its2.toArray.size=ys.length:=by rw [List.size_toArray,← ru.length,k3.length]
      have key:=SeqAt.RcAt.tuples (A:=A) (s:=s) (e:=eAt xs ys) p1 p2 hN fun j j1 j2 => ?_
      ·rw [l1,l2,QaK] at key
       exact SeqAt.EqAt.of_refs hab key
      ·have j1':j < xs.length:=by rw [← l1];exact j1
       have j2':j < ys.length:=by rw [← l2];exact j2
       have e1:xs[j]?=some xs[j]:=by simp [j1']
       have e2:ys[j]?=some ys[j]:=by simp [j2']
       obtain ⟨v1,ev1,rp1⟩:=h3.get e1
       obtain ⟨v2,ev2,rp2⟩:=k3.get e2
       obtain ⟨w1,ew1,rw1⟩:=rv.get ev1
       obtain ⟨w2,ew2,rw2⟩:=ru.get ev2
       have q1:its.toArray[j]=w1:=by simpa using (List.getElem?_eq_some_iff.mp ew1).2
       have q2:its2.toArray[j]=w2:=by simpa using (List.getElem?_eq_some_iff.mp ew2).2
       have e3:eAt xs ys j=peq xs[j] ys[j]:=by unfold eAt;rw [e1,e2]
       rw [q1,q2,e3]
       exact ih A.in1 _ _ v1 v2 w1 w2 (Nat.le_trans (QbD e1) hdx) (by omega) (by have:=QbD e2;unfold dep at hdq;omega) (by show A.units + 1 + n < cLine;omega) rp1 rp2 rw1 rw2
   | lst xs =>
    unfold Rep at hp
    obtain ⟨a,vs,rfl,h2,h3⟩:=hp
    cases rx
    have hdx:depL xs≤n:=by unfold dep at hd;omega
    obtain ⟨its,rv,p1,z1⟩:=I.list (hF.seq h2)
    cases q with
    | obj D ls qs=>unfold dep at hdq;omega
    | opq b=>unfold dep at hdq;omega
    | dct b=>unfold dep at hdq;omega
    | dcw b=>unfold dep at hdq;omega
    | non=>unfold Rep at hq;subst hq;cases ry;exact SeqAt.EqAt.list_none p1.isList hN
    | bl b=>unfold Rep at hq;subst hq;cases ry;exact SeqAt.EqAt.list_bool b p1.isList hN
    | int b=>unfold Rep at hq;subst hq;obtain ⟨t,rfl⟩:=ry;exact SeqAt.EqAt.list_int b t p1.isList hN
    | str b=>unfold Rep at hq;subst hq;obtain ⟨t,rfl⟩:=ry;exact SeqAt.EqAt.list_str b t p1.isList hN
    | tup ys =>
     unfold Rep at hq;obtain ⟨b,us,rfl,k2,k3⟩:=hq;cases ry
     obtain ⟨its2,_,p2,_⟩:=I.tuple (hF.seqT k2)
     exact SeqAt.EqAt.list_tuple p1.isList p2 hN
    | lst ys =>
     unfold Rep at hq;obtain ⟨b,us,rfl,k2,k3⟩:=hq;cases ry
     obtain ⟨its2,ru,p2,z2⟩:=I.list (hF.seq k2)
     change SeqAt.EqAt _ _ _ _ (peqL xs ys)
     by_cases hab:a=b
     ·subst hab
      have e:=I.list_inj (hF.seq h2) (hF.seq k2)
      subst e
      rw [RepL.inj I hF (by omega) (by unfold dep at hdq;omega) h3 k3,Xv]
      exact SeqAt.EqAt.same _
     ·have l1:its.toArray.size=xs.length:=by rw [List.size_toArray,← rv.length,h3.length]
      have l2:its2.toArray.size=ys.length:=by rw [List.size_toArray,← ru.length,k3.length]
      by_cases hl:xs.length=ys.length
      ·have key:=SeqAt.RcAt.lists (A:=A) (s:=s) (e:=eAt xs ys) p1.isList p2.isList (by rw [l1,l2,hl]) hN fun j j1 j2 => ?_
       ·have e5:=QaK xs ys
        rw [← hl,Nat.min_self,beq_self_eq_true,Bool.and_true] at e5
        rw [l1,e5] at key
        exact SeqAt.EqAt.of_refs hab key
       ·have j1':j < xs.length:=by rw [← l1];exact j1
        have j2':j < ys.length:=by rw [← l2];exact j2
        have e1:xs[j]?=some xs[j]:=by simp [j1']
        have e2:ys[j]?=some ys[j]:=by simp [j2']
        obtain ⟨v1,ev1,rp1⟩:=h3.get e1
        obtain ⟨v2,ev2,rp2⟩:=k3.get e2
        obtain ⟨w1,ew1,rw1⟩:=rv.get ev1
        obtain ⟨w2,ew2,rw2⟩:=ru.get ev2
        have q1:its.toArray[j]=w1:=by simpa using (List.getElem?_eq_some_iff.mp ew1).2
        have q2:its2.toArray[j]=w2:=by simpa using (List.getElem?_eq_some_iff.mp ew2).2
        have e3:eAt xs ys j=peq xs[j] ys[j]:=by unfold eAt;rw [e1,e2]
        rw [q1,q2,e3]
        exact ih A.in1 _ _ v1 v2 w1 w2 (Nat.le_trans (QbD e1) hdx) (by omega) (by have:=QbD e2;unfold dep at hdq;omega) (by show A.units + 1 + n < cLine;omega) rp1 rp2 rw1 rw2
      ·have e5:=QaK xs ys
       rw [(beq_eq_false_iff_ne (a:=xs.length) (b:=ys.length)).mpr hl,Bool.and_false] at e5
       rw [← e5]
       exact SeqAt.EqAt.of_refs hab (SeqAt.RcAt.lists_lengths p1.isList p2.isList (by rw [l1,l2];simpa using hl) hN)
   | obj C ks ps=>unfold dep at hd;omega
   | opq b=>unfold dep at hd;omega
   | dct b=>unfold dep at hd;omega
   | dcw b=>unfold dep at hd;omega
   | _=>unfold dep at hd0;omega
mutual
def toD:PV→PyData
 | .non => .none
 | .bl b => .bool b
 | .int i => .int i
 | .str x => .str x
 | .tup xs => .tuple (toDL xs)
 | .lst xs => .list (toDL xs)
 | .obj _ _ _ => .none
 | .opq _ => .none
 | .dct _ => .none
 | .dcw _ => .none
def toDL:List PV→List PyData
 | []=>[]
 | x :: xs=>toD x :: toDL xs
end
mutual
def okS:PV→Bool
 | .str x=>PyData.strOk x
 | .tup xs=>okSL xs
 | .lst xs=>okSL xs
 | _=>true
def okSL:List PV→Bool
 | []=>true
 | x :: xs=>okS x&&okSL xs
end
def okv (p:PV):Bool:=decide (dep p≤50)&&okS p
mutual
theorem QeE:∀ p:PV,okS p=true→(toD p).canLay0=true
 | .non,_=>by simp [toD,PyData.canLay0]
 | .bl _,_=>by simp [toD,PyData.canLay0]
 | .int _,_=>by simp [toD,PyData.canLay0]
 | .str x,h=>by simpa [toD,PyData.canLay0,okS] using h
 | .tup xs,h=>by
  unfold toD PyData.canLay0
  exact Qbu xs (by simpa [okS] using h)
 | .lst xs,h=>by
  unfold toD PyData.canLay0
  exact Qbu xs (by simpa [okS] using h)
 | .obj _ _ _,_=>by simp [toD,PyData.canLay0]
 | .opq _,_=>by simp [toD,PyData.canLay0]
 | .dct _,_=>by simp [toD,PyData.canLay0]
 | .dcw _,_=>by simp [toD,PyData.canLay0]
theorem Qbu:∀ xs:List PV,okSL xs=true→PyData.canLayAll0 (toDL xs)=true
 | [],_=>by simp [toDL,PyData.canLayAll0]
 | x :: xs,h=>by
  unfold okSL at h
  rw [Bool.and_eq_true] at h
  unfold toDL PyData.canLayAll0
  rw [QeE x h.1,Qbu xs h.2]
  rfl
end
mutual
theorem Qgo:∀ p:PV,(toD p).depth≤dep p + 1
 | .non=>by simp [toD,PyData.depth]
 | .bl _=>by simp [toD,PyData.depth]
 | .int _=>by simp [toD,PyData.depth]
 | .str x=>by simp [toD,PyData.depth]
 | .tup xs=>by
  have:=Qcl xs
  simp only [toD,PyData.depth,dep]
  omega
 | .lst xs=>by
  have:=Qcl xs
  simp only [toD,PyData.depth,dep]
  omega
 | .obj _ _ _=>by simp [toD,PyData.depth]
 | .opq _=>by simp [toD,PyData.depth]
 | .dct _=>by simp [toD,PyData.depth]
 | .dcw _=>by simp [toD,PyData.depth]
theorem Qcl:∀ xs:List PV,PyData.depthAll (toDL xs)≤depL xs + 1
 | []=>by simp [toDL,PyData.depthAll]
 | x :: xs=>by
  have h1:=Qgo x
  have h2:=Qcl xs
  simp only [toDL,PyData.depthAll,depL]
  omega
end
theorem QaJ {p:PV} (h:okv p=true):SeqAt.shaped (toD p)=true:=by
 unfold okv at h
 rw [Bool.and_eq_true,decide_eq_true_iff] at h
 have h1:=Qgo p
 unfold SeqAt.shaped
 rw [QeE p h.2,Bool.true_and,decide_eq_true_iff]
 omega
mutual
theorem QgZ:∀ p q:PV,dep p < 1000→dep q < 1000→PyData.eqv (toD p) (toD q)=peq p q
 | .non,q,_,hq=>by cases q <;> first | (rfl;done) | (exfalso;unfold dep at hq;omega)
 | .bl _,q,_,hq=>by cases q <;> first | (rfl;done) | (exfalso;unfold dep at hq;omega)
 | .int _,q,_,hq=>by cases q <;> first | (rfl;done) | (exfalso;unfold dep at hq;omega)
 | .str _,q,_,hq=>by cases q <;> first | (rfl;done) | (exfalso;unfold dep at hq;omega)
 | .tup xs,q,hp,hq=>by
  cases q with
  | tup ys=>exact Qfj xs ys (by unfold dep at hp;omega) (by unfold dep at hq;omega)
  | obj=>exfalso;unfold dep at hq;omega
  | opq=>exfalso;unfold dep at hq;omega
  | dct=>exfalso;unfold dep at hq;omega
  | dcw=>exfalso;unfold dep at hq;omega
  | _=>rfl
 | .lst xs,q,hp,hq=>by
  cases q with
  | lst ys=>exact Qfj xs ys (by unfold dep at hp;omega) (by unfold dep at hq;omega)
  | obj=>exfalso;unfold dep at hq;omega
  | opq=>exfalso;unfold dep at hq;omega
  | dct=>exfalso;unfold dep at hq;omega
  | dcw=>exfalso;unfold dep at hq;omega
  | _=>rfl
 | .obj _ _ _,q,hp,_=>by exfalso;unfold dep at hp;omega
 | .opq _,q,hp,_=>by exfalso;unfold dep at hp;omega
 | .dct _,q,hp,_=>by exfalso;unfold dep at hp;omega
 | .dcw _,q,hp,_=>by exfalso;unfold dep at hp;omega
theorem Qfj:∀ xs ys:List PV,depL xs < 1000→depL ys < 1000→PyData.eqvAll (toDL xs) (toDL ys)=peqL xs ys
 | [],[],_,_=>rfl
 | [],_ :: _,_,_=>rfl
 | _ :: _,[],_,_=>rfl
 | x :: xs,y :: ys,h1,h2=>by
  show (PyData.eqv (toD x) (toD y)&&PyData.eqvAll (toDL xs) (toDL ys))=(peq x y&&peqL xs ys)
  unfold depL at h1 h2
  rw [QgZ x y (by omega) (by omega),Qfj xs ys (by omega) (by omega)]
end
mutual
theorem Rep.reads (I:Inv X pins σ H s) (hF:Same F H):∀ {p:PV} {v:V} {u:Value},dep p < 1000→Rep X.K F p v→RelV v u→∃ as,Reads s.heap u (toD p) as
 | .non,v,u,_,h,r=>by unfold Rep at h;subst h;cases r;exact ⟨_,by unfold toD;exact .none⟩
 | .bl b,v,u,_,h,r=>by unfold Rep at h;subst h;cases r;exact ⟨_,by unfold toD;exact .bool b⟩
 | .int b,v,u,_,h,r=>by unfold Rep at h;subst h;obtain ⟨t,rfl⟩:=r;exact ⟨_,by unfold toD;exact .int b t⟩
 | .str b,v,u,_,h,r=>by unfold Rep at h;subst h;obtain ⟨t,rfl⟩:=r;exact ⟨_,by unfold toD;exact .str b t⟩
 | .tup xs,v,u,hd',h,r=>by
  unfold Rep at h
  obtain ⟨a,vs,rfl,h2,h3⟩:=h
  cases r
  obtain ⟨its,rv,⟨o,ho,hc,n,hd⟩,_⟩:=I.tuple (hF.seqT h2)
  obtain ⟨as,ra⟩:=RepL.reads I hF (by unfold dep at hd';omega) h3 rv
  unfold toD
  exact ⟨_,.tuple ho hc hd (by simpa using ra)⟩
 | .lst xs,v,u,hd',h,r=>by
  unfold Rep at h
  obtain ⟨a,vs,rfl,h2,h3⟩:=h
  cases r
  obtain ⟨its,rv,⟨o,n,ho,hc,_,hd⟩,_⟩:=I.list (hF.seq h2)
  obtain ⟨as,ra⟩:=RepL.reads I hF (by unfold dep at hd';omega) h3 rv
  unfold toD
  exact ⟨_,.list ho hc hd (by simpa using ra)⟩
 | .obj _ _ _,v,u,hd',_,_=>by exfalso;unfold dep at hd';omega
 | .opq _,v,u,hd',_,_=>by exfalso;unfold dep at hd';omega
 | .dct _,v,u,hd',_,_=>by exfalso;unfold dep at hd';omega
 | .dcw _,v,u,hd',_,_=>by exfalso;unfold dep at hd';omega
theorem RepL.reads (I:Inv X pins σ H s) (hF:Same F H):∀ {ps:List PV} {vs:List V} {us:List Value},depL ps < 1000→RepL X.K F ps vs→Vals vs us→∃ as,ReadsAll s.heap us (toDL ps) as
 | [],vs,us,_,h,r=>by
  unfold RepL at h;subst h;cases r
  exact ⟨[],by unfold toDL;exact .nil⟩
 | p :: ps,vs,us,hd',h,r=>by
  unfold depL at hd'
  unfold RepL at h
  obtain ⟨v,t,rfl,h2,h3⟩:=h
  cases r with
  | cons r1 r2 =>
   obtain ⟨a1,q1⟩:=Rep.reads I hF (by omega) h2 r1
   obtain ⟨a2,q2⟩:=RepL.reads I hF (by omega) h3 r2
   unfold toDL
   exact ⟨_,.cons q1 q2⟩
end
theorem Qbk {p:PV} (h:okv p=true):dep p < 1000:=by
 unfold okv at h
 rw [Bool.and_eq_true,decide_eq_true_iff] at h
 omega
def pEq (p q:PV):Option PV:=if okv p=true∧okv q=true then some (.bl (peq p q)) else none
def pNe (p q:PV):Option PV:=if okv p=true∧okv q=true then some (.bl (!peq p q)) else none
theorem YI (hu:X.A.units + 64 < cLine):OpM X (compareOp .Eq) pEq:=by
 intro pins s σ H x y v u Q I rx ry h
 obtain ⟨F,p,q,r,h1,h2,h3,h4,w⟩:=h
 obtain ⟨⟨c1,c2⟩,rfl⟩:=Qz h4
 obtain ⟨as,ra⟩:=Rep.reads I h1 (Qbk c1) h2 rx
 obtain ⟨bs,rb⟩:=Rep.reads I h1 (Qbk c2) h3 ry
 refine eq_dataH ra rb (QaJ c1) (QaJ c2) hu ?_
 rw [QgZ _ _ (Qbk c1) (Qbk c2)]
 exact ⟨.bl _,H,I,rfl,w.here h1 (YH _)⟩
theorem QjR (hu:X.A.units + 64 < cLine):OpM X (compareOp .NotEq) pNe:=by
 intro pins s σ H x y v u Q I rx ry h
 obtain ⟨F,p,q,r,h1,h2,h3,h4,w⟩:=h
 obtain ⟨⟨c1,c2⟩,rfl⟩:=Qz h4
 obtain ⟨as,ra⟩:=Rep.reads I h1 (Qbk c1) h2 rx
 obtain ⟨bs,rb⟩:=Rep.reads I h1 (Qbk c2) h3 ry
 refine ne_dataH ra rb (QaJ c1) (QaJ c2) hu ?_
 rw [QgZ _ _ (Qbk c1) (Qbk c2)]
 exact ⟨.bl _,H,I,rfl,w.here h1 (YH _)⟩
end
section
variable {X:Cx} {e a b c:Expr} {es:List Expr} {ms ns ls:List Nat} {m m1 m2 m3:MEx} {pos:Pos}
theorem Qls:∀ {its:List Value} {xs:List PV} (f:PV→Bool),its.length=xs.length→∀ g:Value→Bool,(∀ (j:Nat) (u:Value) (p:PV),its[j]?=some u→xs[j]?=some p→g u=f p)→its.any g=xs.any f
 | [],[],_,_,_,_=>rfl
 | [],_ :: _,_,h,_,_=>by simp at h
 | _ :: _,[],_,h,_,_=>by simp at h
 | u :: us,p :: ps,f,h,g,k=>by
  rw [List.any_cons,List.any_cons,k 0 u p rfl rfl,Qls f (by simpa using h) g fun j u p h1 h2=>k (j + 1) u p (by simpa using h1) (by simpa using h2)]
open Classical in
def gOf (its:List Value) (xs:List PV) (x:PV) (u:Value):Bool:=if h:∃ (j:Nat) (p:PV),its[j]?=some u∧xs[j]?=some p then peq (Classical.choose (Classical.choose_spec h)) x else false
def pIn:PV→PV→Option PV
 | x,.lst xs=>if okv x=true∧xs.all okv=true then some (.bl (xs.any fun y=>peq y x)) else none
 | x,.tup xs=>if okv x=true∧xs.all okv=true then some (.bl (xs.any fun y=>peq y x)) else none
 | _,_=>none
def QaA (x y:PV):Option PV:=(pIn x y).bind fun r=>match r with
 | .bl b=>some (.bl (!b))
 | _=>none
theorem okv_dep {p:PV} (h:okv p=true):dep p≤50:=by
 unfold okv at h
 rw [Bool.and_eq_true,decide_eq_true_iff] at h
 exact h.1
theorem Qhq {pins:List (Addr×Obj)} {σ:St} {H F:Hp} {s:Shared} {A:Around} (I:Inv X pins σ H s) (hF:Same F H) (hu:A.units + 60 < cLine) {x:PV} {xv:V} {xu:Value} {xs:List PV} {vs:List V} {its:List Value}
  (ok:xs.all okv=true) (okx:okv x=true) (hx:Rep X.K F x xv) (rx:RelV xv xu) (hxs:RepL X.K F xs vs) (rv:Vals vs its) :
  (∀ u∈its,SeqAt.EqAt A s u xu (gOf its xs x u))∧its.any (gOf its xs x)=xs.any fun y=>peq y x:=by
 have len:its.length=xs.length:=by rw [← rv.length,hxs.length]
 have inj:∀ (j k:Nat) (u:Value) (p q:PV),its[j]?=some u→xs[j]?=some p→its[k]?=some u→xs[k]?=some q→p=q:=fun j k u p q h1 h2 h3 h4=>by
  obtain ⟨v1,e1,r1⟩:=hxs.get h2
  obtain ⟨v2,e2,r2⟩:=hxs.get h4
  obtain ⟨w1,f1,t1⟩:=rv.get e1
  obtain ⟨w2,f2,t2⟩:=rv.get e2
  rw [h1] at f1;rw [h3] at f2
  cases f1;cases f2
  have ev:=t1.inj t2
  subst ev
  have hd:∀ (j:Nat) (p:PV),xs[j]?=some p→dep p < 1000:=fun j p h=>by
   have z:=List.all_eq_true.mp ok p (List.mem_of_getElem? h)
   unfold okv at z
   rw [Bool.and_eq_true,decide_eq_true_iff] at z
   omega
  exact Rep.inj I hF (hd _ _ h2) (hd _ _ h4) r1 r2
 have val:∀ (j:Nat) (u:Value) (p:PV),its[j]?=some u→xs[j]?=some p→gOf its xs x u=peq p x:=fun j u p h1 h2=>by
  have h:∃ (j:Nat) (p:PV),its[j]?=some u∧xs[j]?=some p:=⟨j,p,h1,h2⟩
  unfold gOf
  rw [dif_pos h]
  have hs:=Classical.choose_spec (Classical.choose_spec h)
  rw [inj _ _ u _ _ hs.1 hs.2 h1 h2]
 refine ⟨fun u hu' => ?_,Qls (fun y=>peq y x) len _ fun j u p h1 h2=>val j u p h1 h2⟩
 obtain ⟨j,hj⟩:=List.mem_iff_getElem?.mp hu'
 have hjl:j < xs.length:=by rw [← len];exact (List.getElem?_eq_some_iff.mp hj).1
 have e1:xs[j]?=some xs[j]:=by simp [hjl]
 rw [val j u _ hj e1]
 obtain ⟨v1,f1,r1⟩:=hxs.get e1
 obtain ⟨w1,g1,t1⟩:=rv.get f1
 rw [hj] at g1;cases g1
 have okj:okv xs[j]=true:=List.all_eq_true.mp ok _ (List.getElem_mem hjl)
 exact eqAt_rep I hF 50 A _ _ v1 xv _ _ (okv_dep okj) (by omega) (Qbk okx) (by omega) r1 hx t1 rx
theorem QkN {x y r:PV} (h:pIn x y=some r):∃ xs,(y = .lst xs∨y = .tup xs)∧okv x=true∧xs.all okv=true∧r = .bl (xs.any fun y=>peq y x):=by
 cases y with
 | lst xs =>
  have h:(if okv x=true∧xs.all okv=true then some (PV.bl (xs.any fun y=>peq y x)) else none)=some r:=h
  obtain ⟨⟨c1,c2⟩,rfl⟩:=Qz h
  exact ⟨xs,.inl rfl,c1,c2,rfl⟩
 | tup xs =>
  have h:(if okv x=true∧xs.all okv=true then some (PV.bl (xs.any fun y=>peq y x)) else none)=some r:=h
  obtain ⟨⟨c1,c2⟩,rfl⟩:=Qz h
  exact ⟨xs,.inr rfl,c1,c2,rfl⟩
 | _=>cases h
theorem Qmz (hu:X.A.units + 64 < cLine):OpM X (compareOp .In) pIn:=by
 intro pins s σ H x y v u Q I rx ry h
 obtain ⟨F,p,q,r,h1,h2,h3,h4,w⟩:=h
 obtain ⟨xs,hk,c1,c2,rfl⟩:=QkN h4
 have hu1:X.A.in1.units + 60 < cLine:=by show X.A.units + 1 + 60 < cLine;omega
 rcases hk with rfl | rfl
 ·unfold Rep at h3
  obtain ⟨a,vs,rfl,k2,k3⟩:=h3
  cases ry
  obtain ⟨its,rv,pl,_⟩:=I.list (h1.seq k2)
  obtain ⟨he,hany⟩:=Qhq (A:=X.A.in1) I h1 hu1 c2 c1 h2 rx k3 rv
  refine SeqAt.in_listAt (gOf its xs p) pl.isList (fun y hy=>he y (by simpa using hy)) ⟨.bl _,H,I,rfl,?_⟩
  rw [show its.toArray.any (gOf its xs p)=its.any (gOf its xs p) by simp,hany]
  exact w.here h1 (YH _)
 ·unfold Rep at h3
  obtain ⟨a,vs,rfl,k2,k3⟩:=h3
  cases ry
  obtain ⟨its,rv,pl,_⟩:=I.tuple (h1.seqT k2)
  obtain ⟨he,hany⟩:=Qhq (A:=X.A.in1) I h1 hu1 c2 c1 h2 rx k3 rv
  refine SeqAt.in_tupleAt (gOf its xs p) pl (fun y hy=>he y (by simpa using hy)) ⟨.bl _,H,I,rfl,?_⟩
  rw [show its.toArray.any (gOf its xs p)=its.any (gOf its xs p) by simp,hany]
  exact w.here h1 (YH _)
theorem QiE (hu:X.A.units + 64 < cLine):OpM X (compareOp .NotIn) QaA:=by
 intro pins s σ H x y v u Q I rx ry h
 obtain ⟨F,p,q,r,h1,h2,h3,h4,w⟩:=h
 unfold QaA at h4
 cases e:pIn p q with
 | none=>rw [e] at h4;cases h4
 | some r0 =>
  rw [e] at h4
  obtain ⟨xs,hk,c1,c2,rfl⟩:=QkN e
  have h4:some (PV.bl (!(xs.any fun y=>peq y p)))=some r:=h4
  cases h4
  have hu1:X.A.in1.units + 60 < cLine:=by show X.A.units + 1 + 60 < cLine;omega
  rcases hk with rfl | rfl
  ·unfold Rep at h3
   obtain ⟨a,vs,rfl,k2,k3⟩:=h3
   cases ry
   obtain ⟨its,rv,pl,_⟩:=I.list (h1.seq k2)
   obtain ⟨he,hany⟩:=Qhq (A:=X.A.in1) I h1 hu1 c2 c1 h2 rx k3 rv
   refine SeqAt.notIn_listAt (gOf its xs p) pl.isList (fun y hy=>he y (by simpa using hy)) ⟨.bl _,H,I,rfl,?_⟩
   rw [show its.toArray.any (gOf its xs p)=its.any (gOf its xs p) by simp,hany]
   exact w.here h1 (YH _)
  ·unfold Rep at h3
   obtain ⟨a,vs,rfl,k2,k3⟩:=h3
   cases ry
   obtain ⟨its,rv,pl,_⟩:=I.tuple (h1.seqT k2)
   obtain ⟨he,hany⟩:=Qhq (A:=X.A.in1) I h1 hu1 c2 c1 h2 rx k3 rv
   refine SeqAt.notIn_tupleAt (gOf its xs p) pl (fun y hy=>he y (by simpa using hy)) ⟨.bl _,H,I,rfl,?_⟩
   rw [show its.toArray.any (gOf its xs p)=its.any (gOf its xs p) by simp,hany]
   exact w.here h1 (YH _)
def isN:PV→Bool
 | .non=>true
 | _=>false
def pIx:PV→PV→Option PV
 | .lst xs,.int i=>atI xs i
 | .tup xs,.int i=>atI xs i
 | .str z,.int i=>if z.length≤LIM then (atI z.cps.toList i).map fun c => .str ⟨#[c]⟩ else none
 | _,_=>none
theorem Qlr {K:PySem.W.Frag} {F:Hp} {xs:List PV} {vs:List V} {i:Int} {r:PV} (h:RepL K F xs vs) (e:atI xs i=some r):∃ v,atI vs i=some v∧Rep K F r v:=by
 unfold atI at e ⊢
 rw [h.length]
 cases q:ixN xs.length i with
 | none=>rw [q] at e;cases e
 | some j =>
  rw [q] at e
  exact h.get e
theorem Qn:IxR X (rM2 X.K pIx):=by
 intro value slice pins s σ H x y v u Q I rx ry h hs
 obtain ⟨F,p,q,r,h1,h2,h3,h4,w⟩:=h
 cases p <;> cases q <;> first
  | (exfalso;cases h4;done)
  | skip
 ·rename_i z i
  have h4:(if z.length≤LIM then (atI z.cps.toList i).map fun c=>PV.str ⟨#[c]⟩ else none)=some r:=h4
  by_cases c:z.length≤LIM
  ·rw [if_pos c] at h4
   cases e:atI z.cps.toList i with
   | none=>rw [e] at h4;cases h4
   | some k =>
    rw [e] at h4
    cases h4
    unfold Rep at h2 h3
    exact ix_str value slice pins s σ H x y v u Q I rx ry ⟨z,i,k,h2,h3,Nat.le_trans c Zx,e,w.here h1 (Qak _)⟩ hs
  ·rw [if_neg c] at h4;cases h4
 ·rename_i xs i
  have h4:atI xs i=some r:=h4
  unfold Rep at h2 h3
  obtain ⟨a,vs,rfl,k2,k3⟩:=h2
  obtain ⟨rv,e1,e2⟩:=Qlr k3 h4
  exact ix_tup value slice pins s σ H _ y v u Q I rx ry ⟨a,vs,i,rv,rfl,h3,h1.seqT k2,e1,w.here h1 e2⟩ hs
 ·rename_i xs i
  have h4:atI xs i=some r:=h4
  unfold Rep at h2 h3
  obtain ⟨a,vs,rfl,k2,k3⟩:=h2
  obtain ⟨rv,e1,e2⟩:=Qlr k3 h4
  exact ix_list value slice pins s σ H _ y v u Q I rx ry ⟨a,vs,i,rv,rfl,h3,h1.seq k2,e1,w.here h1 e2⟩ hs
end
section
variable {X:Cx} {e a b c:Expr} {es:List Expr} {ms ns ls:List Nat} {m m1 m2 m3:MEx} {pos p2:Pos}
theorem Qi {α β:Type} {x:Option α} {f:α→Option β} {r:β} (h:x.bind f=some r):∃ y,x=some y∧f y=some r:=by
 cases x with
 | none=>cases h
 | some y=>exact ⟨y,rfl,h⟩
theorem Yp {α β:Type} {x:Option α} {f:α→β} {r:β} (h:x.map f=some r):∃ y,x=some y∧f y=r:=by
 cases x with
 | none=>cases h
 | some y=>exact ⟨y,rfl,Option.some.inj h⟩
def OM (X:Cx) (ms:List Nat) (e:Option Expr) (m:PEnv→Option (Option Int)):Prop :=
 PO X e fun σ H Q=>∃ F γ r,Same F H∧ERep X.K F σ γ ms∧m γ=some r∧∀ H' F',Grow F H F' H'→Q r H'
def mNo:PEnv→Option (Option Int):=fun _=>some none
def pInt:PV→Option (Option Int)
 | .int i=>some (some i)
 | _=>none
def mSo (m:MEx):PEnv→Option (Option Int):=fun γ=>(m γ).bind pInt
theorem QaV:OM X [] none mNo:=fun pins s σ H Q I ⟨F,γ,r,h1,h2,h3,w⟩=>po_none pins s σ H Q I (by
 cases h3
 exact w H F (.refl h1))
theorem XS (h:EM X ms e m):OM X ms (some e) (mSo m):=fun pins s σ H Q I ⟨F,γ,r,h1,h2,h3,w⟩=>po_some h pins s σ H Q I (by
 obtain ⟨p,e1,e2⟩:=Qi h3
 refine ⟨F,γ,p,h1,h2,e1,fun v H' F' g q => ?_⟩
 cases p with
 | int i =>
  unfold Rep at q
  cases e2
  exact ⟨i,q,w H' F' g⟩
 | _=>cases e2)
def cutP (xs:List α) (lo hi:Option Int):List α:=(xs.drop (HT.sIx xs.length 0 lo)).take (HT.sIx xs.length xs.length hi - HT.sIx xs.length 0 lo)
def pCut:PV→Option Int→Option Int→Option (List PV)
 | .lst xs,lo,hi=>some (cutP xs lo hi)
 | _,_,_=>none
def sl3 (f:PV→Option Int→Option Int→Option α) (m:MEx) (ml mh:PEnv→Option (Option Int)):PEnv→Option α:=fun γ=>(m γ).bind fun x=>(ml γ).bind fun l=>(mh γ).bind fun h=>f x l h
variable {lo hi:Option Expr} {ml mh:PEnv→Option (Option Int)}
theorem QfK (he:EM X ms e m) (hl:OM X ns lo ml) (hh:OM X ls hi mh):EO X (ms++(ns++ls)) (.Subscript e (.Slice lo hi none p2) pos) (sl3 pCut m ml mh):=by
 refine PE.imp (QiB sl_list he hl hh) fun σ H Q ⟨F,γ,r,h1,h2,h3,w⟩ => ?_
 obtain ⟨x,e1,h3⟩:=Qi h3
 obtain ⟨l,e2,h3⟩:=Qi h3
 obtain ⟨h,e3,h3⟩:=Qi h3
 refine ⟨F,γ,x,h1,h2.left,e1,fun vx H1 F1 g1 r1=>⟨F1,γ,l,g1.sub,h2.right.left.mono g1.ext,e2,fun H2 F2 g2=>⟨F2,γ,h,g2.sub,h2.right.right.mono (g1.ext.trans g2.ext),e3,fun H3 F3 g3 => ?_⟩⟩⟩
 have g:=g1.trans (g2.trans g3)
 cases x with
 | lst xs =>
  cases h3
  unfold Rep at r1
  obtain ⟨a,vs,rfl,k2,k3⟩:=r1
  have gg:=g2.ext.trans g3.ext
  refine ⟨a,vs,rfl,g3.sub.seq (gg.seq k2),fun p hp => ?_⟩
  have nF:F3 p=none:=g3.sub.free hp
  refine w p _ _ F3 (g.trans (.side g3.sub hp)) (g.same.free hp) nF Qq ?_
  unfold cutV cutP
  rw [k3.length]
  exact ((k3.drop _).take _).mono gg
 | _=>cases h3
variable {t1 t2:PEnv→Option Bool} {rest:List Expr}
def WM (X:Cx) (ms:List Nat) (e:Expr) (m:PEnv→Option Bool):Prop:=PW X e (tMT X.K ms m)
theorem WM.tm {e:Expr} (h:WM X ms e t1):TM X ms e t1:=PW.pt h
theorem _root_.L2.PW.imp {t t':TT} (h:PW X e t) (i:∀ σ H Q,t' σ H Q→t σ H Q):PW X e t':=fun whole pins s σ H Q I q=>h whole pins s σ H Q I (i σ H Q q)
theorem QgR (h:TM X ms a t1):WM X ms (.BoolOp .And [a] pos) t1:=pw_and1 h
theorem QfA (h:TM X ms a t1):WM X ms (.BoolOp .Or [a] pos) t1:=pw_or1 h
def bAnd (t1 t2:PEnv→Option Bool):PEnv→Option Bool:=fun γ=>(t1 γ).bind fun x=>if x=true then t2 γ else some false
def bOr (t1 t2:PEnv→Option Bool):PEnv→Option Bool:=fun γ=>(t1 γ).bind fun x=>if x=true then some true else t2 γ
def bNot (t1:PEnv→Option Bool):PEnv→Option Bool:=fun γ=>(t1 γ).map not
theorem QjZ (h1:TM X ms a t1) (h2:WM X ns (.BoolOp .And (b :: rest) pos) t2):WM X (ms++ns) (.BoolOp .And (a :: b :: rest) pos) (bAnd t1 t2) :=
 PW.imp (pw_and h1 h2) fun σ H Q ⟨F,γ,r,k1,k2,k3,w⟩=>by
  obtain ⟨x,e1,k3⟩:=Qi k3
  refine ⟨F,γ,x,k1,k2.left,e1,fun H1 F1 g1 => ?_⟩
  cases x with
  | true =>
   rw [if_pos rfl] at k3 ⊢
   exact ⟨F1,γ,r,g1.sub,k2.right.mono g1.ext,k3,fun H2 F2 g2=>w H2 F2 (g1.trans g2)⟩
  | false =>
   rw [if_neg Bool.false_ne_true] at k3 ⊢
   cases k3
   exact w H1 F1 g1
theorem Qhx (h1:TM X ms a t1) (h2:WM X ns (.BoolOp .Or (b :: rest) pos) t2):WM X (ms++ns) (.BoolOp .Or (a :: b :: rest) pos) (bOr t1 t2) :=
 PW.imp (pw_or h1 h2) fun σ H Q ⟨F,γ,r,k1,k2,k3,w⟩=>by
  obtain ⟨x,e1,k3⟩:=Qi k3
  refine ⟨F,γ,x,k1,k2.left,e1,fun H1 F1 g1 => ?_⟩
  cases x with
  | false =>
   rw [if_neg Bool.false_ne_true] at k3 ⊢
   exact ⟨F1,γ,r,g1.sub,k2.right.mono g1.ext,k3,fun H2 F2 g2=>w H2 F2 (g1.trans g2)⟩
  | true =>
   rw [if_pos rfl] at k3 ⊢
   cases k3
   exact w H1 F1 g1
theorem Qhi (h:TM X ms a t1):TM X ms (.UnaryOp .Not a pos) (bNot t1) :=
 PT.imp (pt_not h) fun σ H Q ⟨F,γ,r,k1,k2,k3,w⟩=>by
  obtain ⟨x,e1,k3⟩:=Yp k3
  subst k3
  exact ⟨F,γ,x,k1,k2,e1,w⟩
def tru:PV→Option Bool
 | .non=>some false
 | .bl b=>some b
 | .int i=>some (i != 0)
 | .str y=>if y.length≤LIM then some ((y.length:Int) != 0) else none
 | .tup xs=>some (!xs.isEmpty)
 | .lst xs=>some (!xs.isEmpty)
 | .obj _ _ _=>none
 | .opq _=>none
 | .dct _=>none
 | .dcw _=>none
def mTru (m:MEx):PEnv→Option Bool:=fun γ=>(m γ).bind tru
theorem QdG {K:PySem.W.Frag} {F:Hp} {xs:List PV} {vs:List V} (h:RepL K F xs vs):vs.isEmpty=xs.isEmpty:=by
 have:=h.length
 cases vs <;> cases xs <;> simp_all
theorem tru_rep {K:PySem.W.Frag} {F H:Hp} {p:PV} {v:V} {k:Bool} (hs:Same F H) (h:Rep K F p v) (e:tru p=some k):TruV K v H k:=by
 cases p <;> unfold Rep at h
 ·subst h;cases e;rfl
 ·subst h;cases e;rfl
 ·subst h;cases e;rfl
 ·subst h
  rename_i y
  have e:(if y.length≤LIM then some ((y.length:Int) != 0) else none)=some k:=e
  obtain ⟨c,rfl⟩:=Qz e
  exact ⟨Nat.le_trans c Zx,rfl⟩
 ·obtain ⟨a,vs,rfl,k2,k3⟩:=h
  cases e
  exact .inr (.inl ⟨vs,hs.seqT k2,by rw [QdG k3]⟩)
 ·obtain ⟨a,vs,rfl,k2,k3⟩:=h
  cases e
  exact .inl ⟨vs,hs.seq k2,by rw [QdG k3]⟩
 ·cases e
 ·cases e
 ·cases e
 ·cases e
theorem Xg (h:EM X ms e m) (he:∀ whole,isTrue e X.env whole=(do let v ← whole;standAt e.pos;holding [v] (truthy v)):=by intro _;rfl):TM X ms e (mTru m) :=
 PT.imp (pt_truth h he) fun σ H Q ⟨F,γ,r,k1,k2,k3,w⟩=>by
  obtain ⟨p,e1,e2⟩:=Qi k3
  exact ⟨F,γ,p,k1,k2,e1,fun v H' F' g q=>⟨r,tru_rep g.sub q e2,w H' F' g⟩⟩
def vAnd (m1 m2:MEx):MEx:=fun γ=>(m1 γ).bind fun x=>(isB x).bind fun k=>if k=true then m2 γ else some (.bl false)
def vNot (m1:MEx):MEx:=fun γ=>(m1 γ).bind fun x=>(isB x).map fun k => .bl (!k)
theorem QgY {K:PySem.W.Frag} {F:Hp} {p:PV} {v:V} {k:Bool} (h:Rep K F p v) (e:isB p=some k):v = .bl k:=by
 cases p with
 | bl b=>unfold Rep at h;cases e;exact h
 | _=>cases e
theorem Qhw {op} (h:EM X ms a m):EM X ms (.BoolOp op [a] pos) m:=pe_one h
theorem QfM (h1:EM X ms a m1) (h2:EM X ns (.BoolOp .And (b :: rest) pos) m2):EM X (ms++ns) (.BoolOp .And (a :: b :: rest) pos) (vAnd m1 m2) :=
 PE.imp (pe_and h1 h2) fun σ H Q ⟨F,γ,r,k1,k2,k3,w⟩=>by
  obtain ⟨x,e1,k3⟩:=Qi k3
  obtain ⟨k,e2,k3⟩:=Qi k3
  refine ⟨F,γ,x,k1,k2.left,e1,fun v H1 F1 g1 q=>⟨k,QgY q e2,?_⟩⟩
  cases k with
  | true =>
   rw [if_pos rfl] at k3 ⊢
   exact ⟨F1,γ,r,g1.sub,k2.right.mono g1.ext,k3,w.go g1⟩
  | false =>
   rw [if_neg Bool.false_ne_true] at k3 ⊢
   cases k3
   exact (w.go g1).here g1.sub (YH _)
theorem em_not (h1:EM X ms a m1):EM X ms (.UnaryOp .Not a pos) (vNot m1) :=
 PE.imp (pe_not h1) fun σ H Q ⟨F,γ,r,k1,k2,k3,w⟩=>by
  obtain ⟨x,e1,k3⟩:=Qi k3
  obtain ⟨k,e2,k3⟩:=Yp k3
  subst k3
  exact ⟨F,γ,x,k1,k2,e1,fun v H1 F1 g1 q=>⟨k,QgY q e2,(w.go g1).here g1.sub (YH _)⟩⟩
def mIfE (t:PEnv→Option Bool) (m1 m2:MEx):MEx:=fun γ=>(t γ).bind fun k=>if k=true then m1 γ else m2 γ
theorem em_if (hc:TM X ls c t1) (ha:EM X ms a m1) (hb:EM X ns b m2):EM X (ls++(ms++ns)) (.IfExp c a b pos) (mIfE t1 m1 m2) :=
 PE.imp (pe_ifExp hc ha hb) fun σ H Q ⟨F,γ,r,k1,k2,k3,w⟩=>by
  obtain ⟨k,e1,k3⟩:=Qi k3
  refine ⟨F,γ,k,k1,k2.left,e1,fun H1 F1 g1 => ?_⟩
  cases k with
  | true =>
   rw [if_pos rfl] at k3 ⊢
   exact ⟨F1,γ,r,g1.sub,k2.right.left.mono g1.ext,k3,w.go g1⟩
  | false =>
   rw [if_neg Bool.false_ne_true] at k3 ⊢
   exact ⟨F1,γ,r,g1.sub,k2.right.right.mono g1.ext,k3,w.go g1⟩
def ch3 (f g:PV→PV→Option PV) (m1 m2 m3:MEx):MEx:=fun γ=>(m1 γ).bind fun x=>(m2 γ).bind fun y=>(f x y).bind fun z=>(isB z).bind fun k=>if k=true then (m3 γ).bind fun w=>g y w else some (.bl false)
theorem QfW {K:PySem.W.Frag} {f g:PV→PV→Option PV} {σ:St} {H:Hp} {Q:VK} (h:tM K (ms++(ns++ls)) (ch3 f g m1 m2 m3) σ H Q):Qka (rM2 K f) (rM2 K g) (tM K ms m1) (tM K ns m2) (tM K ls m3) σ H Q:=by
 obtain ⟨F,γ,r,h1,h2,h3,w⟩:=h
 obtain ⟨x,e1,h3⟩:=Qi h3
 obtain ⟨y,e2,h3⟩:=Qi h3
 obtain ⟨z,e3,h3⟩:=Qi h3
 obtain ⟨k,e4,h3⟩:=Qi h3
 refine ⟨F,γ,x,h1,h2.left,e1,fun vx H1 F1 g1 r1=>⟨F1,γ,y,g1.sub,h2.right.left.mono g1.ext,e2,fun vy H2 F2 g2 r2=>⟨F2,x,y,z,g2.sub,r1.mono g2.ext,r2,e3,fun vz H3 F3 g3 r3=>⟨k,QgY r3 e4,?_⟩⟩⟩⟩
 have gg:=g1.trans (g2.trans g3)
 cases k with
 | true =>
  rw [if_pos rfl] at h3 ⊢
  obtain ⟨u,e5,h3⟩:=Qi h3
  exact ⟨F3,γ,u,g3.sub,h2.right.right.mono gg.ext,e5,fun vw H4 F4 g4 r4=>⟨F4,y,u,r,g4.sub,r2.mono (g3.ext.trans g4.ext),r4,h3,w.go (gg.trans g4)⟩⟩
 | false =>
  rw [if_neg Bool.false_ne_true] at h3 ⊢
  cases h3
  exact (w.go gg).here gg.sub (YH _)
theorem em_chain {op op':CmpOp} {f g:PV→PV→Option PV} (ho:OpM X (compareOp op) f) (ho':OpM X (compareOp op') g) (ha:EM X ms a m1) (hb:EM X ns b m2) (hc:EM X ls c m3)
  (hm:lastMarks [op,op'] [b,c]=false:=by with_unfolding_all rfl):EM X (ms++(ns++ls)) (.Compare a [op,op'] [b,c] pos) (ch3 f g m1 m2 m3) :=
 PE.imp (pe_chain ho ho' ha hb hc hm) fun _ _ _ h=>QfW h
theorem tm_chain {op op':CmpOp} {f g:PV→PV→Option PV} (ho:OpM X (compareOp op) f) (ho':OpM X (compareOp op') g) (ha:EM X ms a m1) (hb:EM X ns b m2) (hc:EM X ls c m3)
  (hm:lastMarks [op,op'] [b,c]=false:=by with_unfolding_all rfl):TM X (ms++(ns++ls)) (.Compare a [op,op'] [b,c] pos) (truB (ch3 f g m1 m2 m3)) :=
 PT.imp (pt_chain ho ho' ha hb hc hm) fun _ _ _ h=>Qit (fun _=>QfW) h
def un1 (f:PV→Option PV) (m:MEx):MEx:=fun γ=>(m γ).bind f
def pNeg:PV→Option PV
 | .int i=>some (.int (-i))
 | _=>none
theorem em_neg (h:EM X ms a m):EM X ms (.UnaryOp .USub a pos) (un1 pNeg m) :=
 PE.imp (pe_un un_neg h) fun σ H Q ⟨F,γ,r,k1,k2,k3,w⟩=>by
  obtain ⟨x,e1,k3⟩:=Qi k3
  refine ⟨F,γ,x,k1,k2,e1,fun v H1 F1 g1 q => ?_⟩
  cases x with
  | int i=>unfold Rep at q;cases k3;exact ⟨i,q,(w.go g1).here g1.sub (ZD _)⟩
  | _=>cases k3
variable {ma:PEnv→Option (List PV)}
def aNil:PEnv→Option (List PV):=fun _=>some []
def Qc (m:MEx) (ma:PEnv→Option (List PV)):PEnv→Option (List PV):=fun γ=>(m γ).bind fun x=>(ma γ).map (x :: ·)
theorem Qf:AM X [] [] aNil:=PA.imp Qef fun σ H Q ⟨F,γ,r,k1,k2,k3,w⟩=>by
 cases k3
 exact w [] H F (.refl k1) .nil
theorem Qb (h:EM X ms e m) (hr:AM X ns es ma) (hs:starEach (e :: es) X.env=(false,eval e X.env) :: starEach es X.env:=by rfl):AM X (ms++ns) (e :: es) (Qc m ma) :=
 PA.imp (Qal h hr hs) fun σ H Q ⟨F,γ,r,k1,k2,k3,w⟩=>by
  obtain ⟨x,e1,k3⟩:=Qi k3
  obtain ⟨xs,e2,k3⟩:=Yp k3
  subst k3
  refine ⟨F,γ,x,k1,k2.left,e1,fun v H1 F1 g1 q1=>⟨F1,γ,xs,g1.sub,k2.right.mono g1.ext,e2,fun vs H2 F2 g2 q2 => ?_⟩⟩
  exact w (v :: vs) H2 F2 (g1.trans g2) (.cons (q1.mono g2.ext) q2)
def mLim (m:PEnv→Option (List PV)):PEnv→Option (List PV):=fun γ=>(m γ).bind fun xs=>if xs.length≤LIM then some xs else none
def mTup (m:PEnv→Option (List PV)):MEx:=fun γ=>(m γ).bind fun xs=>if xs.length≤LIM then some (.tup xs) else none
theorem Xw {x1} (h:AM X ms es ma):EM X ms (.Tuple es x1 pos) (mTup ma) :=
 PE.imp (pe_tup h) fun σ H Q ⟨F,γ,r,k1,k2,k3,w⟩=>by
  obtain ⟨xs,e1,k3⟩:=Qi k3
  obtain ⟨c,rfl⟩:=Qz k3
  refine ⟨F,γ,xs,k1,k2,e1,fun vs H1 F1 g1 q1=>⟨by rw [q1.length];exact Nat.le_trans c Zx,fun p hp => ?_⟩⟩
  refine w _ _ _ (g1.trans (.laid g1.sub hp)) ?_
  unfold Rep
  exact ⟨p,vs,rfl,.of Qq,q1.mono (Grow.laid g1.sub hp).ext⟩
theorem Yk (h:AM X ms es ma):EO X ms (.List es pos) (mLim ma) :=
 PE.imp (pe_lst h) fun σ H Q ⟨F,γ,r,k1,k2,k3,w⟩=>by
  obtain ⟨xs,e1,k3⟩:=Qi k3
  obtain ⟨c,rfl⟩:=Qz k3
  refine ⟨F,γ,xs,k1,k2,e1,fun vs H1 F1 g1 q1=>⟨by rw [q1.length];exact Nat.le_trans c Zx,fun p hp => ?_⟩⟩
  exact w p vs _ F1 (g1.trans (.side g1.sub hp)) (g1.same.free hp) (g1.sub.free hp) Qq q1
def rMA (K:PySem.W.Frag) (g:List PV→Option PV):List V→Hp→VK→Prop:=fun vs H Q=>∃ F ps r,Same F H∧RepL K F ps vs∧g ps=some r∧Wv K F H r Q
def rMAO (K:PySem.W.Frag) (g:List PV→Option (List PV)):List V→Hp→VK→Prop:=fun vs H Q=>∃ F ps r,Same F H∧RepL K F ps vs∧g ps=some r∧Wo K F H r Q
def QgD (X:Cx) (f:Value) (g:List PV→Option PV):Prop:=QaR X f (rMA X.K g)
def QgC (X:Cx) (f:Value) (g:List PV→Option (List PV)):Prop:=QaR X f (rMAO X.K g)
def Qj (g:List PV→Option α) (ma:PEnv→Option (List PV)):PEnv→Option α:=fun γ=>(ma γ).bind g
theorem tCB_of {K:PySem.W.Frag} {g:List PV→Option PV} {σ:St} {H:Hp} {Q:VK} (h:tM K ms (Qj g ma) σ H Q):tCB (rMA K g) (tMA K ms ma) σ H Q:=by
 obtain ⟨F,γ,r,k1,k2,k3,w⟩:=h
 obtain ⟨xs,e1,k3⟩:=Qi k3
 exact ⟨F,γ,xs,k1,k2,e1,fun vs H1 F1 g1 q1=>⟨F1,xs,r,g1.sub,q1,k3,w.go g1⟩⟩
theorem Qks {K:PySem.W.Frag} {g:List PV→Option (List PV)} {σ:St} {H:Hp} {Q:VK} (h:tMO K ms (Qj g ma) σ H Q):tCB (rMAO K g) (tMA K ms ma) σ H Q:=by
 obtain ⟨F,γ,r,k1,k2,k3,w⟩:=h
 obtain ⟨xs,e1,k3⟩:=Qi k3
 exact ⟨F,γ,xs,k1,k2,e1,fun vs H1 F1 g1 q1=>⟨F1,xs,r,g1.sub,q1,k3,w.go g1⟩⟩
variable {x:Str} {p:Pos} {id T:String}
theorem Qv {g:List PV→Option PV} (hc:QgD X (.builtin id) g) (hg:Gl X x) (hm:X.mg x=none) (hv:bootBuiltins x=some (.builtin id)) (ha:AM X ms (e :: es) ma) (hn:x ≠ "__name__":=by decide) (hdb:(x==("__debug__":Str))=false:=by decide)
  (he:starEach (e :: es) X.env=(false,eval e X.env) :: starEach es X.env:=by rfl) (hpl:(backTo pos (starEach es X.env)).any (·.1)=false:=by rfl):EM X ms (.Call (.Name x p) (e :: es) [] pos) (Qj g ma) :=
 PE.imp (Qav hc hg hm hv ha hn hdb he hpl) fun _ _ _ h=>tCB_of h
theorem XA {g:List PV→Option (List PV)} (hc:QgC X (.builtin id) g) (hg:Gl X x) (hm:X.mg x=none) (hv:bootBuiltins x=some (.builtin id)) (ha:AM X ms (e :: es) ma) (hn:x ≠ "__name__":=by decide) (hdb:(x==("__debug__":Str))=false:=by decide)
  (he:starEach (e :: es) X.env=(false,eval e X.env) :: starEach es X.env:=by rfl) (hpl:(backTo pos (starEach es X.env)).any (·.1)=false:=by rfl):EO X ms (.Call (.Name x p) (e :: es) [] pos) (Qj g ma) :=
 PE.imp (Qav hc hg hm hv ha hn hdb he hpl) fun _ _ _ h=>Qks h
theorem ZE {g:List PV→Option PV} (hc:QgD X (.type T) g) (hg:Gl X x) (hm:X.mg x=none) (hv:bootBuiltins x=some (.type T)) (ha:AM X ms (e :: es) ma) (hn:x ≠ "__name__":=by decide) (hdb:(x==("__debug__":Str))=false:=by decide)
  (he:starEach (e :: es) X.env=(false,eval e X.env) :: starEach es X.env:=by rfl) (hpl:(backTo pos (starEach es X.env)).any (·.1)=false:=by rfl):EM X ms (.Call (.Name x p) (e :: es) [] pos) (Qj g ma) :=
 PE.imp (XM hc hg hm hv ha hn hdb he hpl) fun _ _ _ h=>tCB_of h
theorem Qgm {g:List PV→Option (List PV)} (hc:QgC X (.type T) g) (hg:Gl X x) (hm:X.mg x=none) (hv:bootBuiltins x=some (.type T)) (ha:AM X ms (e :: es) ma) (hn:x ≠ "__name__":=by decide) (hdb:(x==("__debug__":Str))=false:=by decide)
  (he:starEach (e :: es) X.env=(false,eval e X.env) :: starEach es X.env:=by rfl) (hpl:(backTo pos (starEach es X.env)).any (·.1)=false:=by rfl):EO X ms (.Call (.Name x p) (e :: es) [] pos) (Qj g ma) :=
 PE.imp (XM hc hg hm hv ha hn hdb he hpl) fun _ _ _ h=>Qks h
def spM (K:PySem.W.Frag) (n:Nat) (g:List PV→Option PV):Sp:=fun vs H Q _=>vs.length=n∧rMA K g vs H Q
def spO (K:PySem.W.Frag) (n:Nat) (g:List PV→Option (List PV)):Sp:=fun vs H Q _=>vs.length=n∧rMAO K g vs H Q
theorem tCall_of {K:PySem.W.Frag} {n:Nat} {g:List PV→Option PV} {E:XK} {σ:St} {H:Hp} {Q:VK} (hn:∀ ps r,g ps=some r→ps.length=n) (h:tM K ms (Qj g ma) σ H Q):tCall (spM K n g) [] E (tMA K ms ma) σ H Q:=by
 obtain ⟨F,γ,r,k1,k2,k3,w⟩:=h
 obtain ⟨xs,e1,k3⟩:=Qi k3
 refine ⟨F,γ,xs,k1,k2,e1,fun vs H1 F1 g1 q1 => ?_⟩
 dsimp only
 rw [List.append_nil]
 exact ⟨by rw [q1.length];exact hn _ _ k3,F1,xs,r,g1.sub,q1,k3,w.go g1⟩
theorem QlB {K:PySem.W.Frag} {n:Nat} {g:List PV→Option (List PV)} {E:XK} {σ:St} {H:Hp} {Q:VK} (hn:∀ ps r,g ps=some r→ps.length=n) (h:tMO K ms (Qj g ma) σ H Q):tCall (spO K n g) [] E (tMA K ms ma) σ H Q:=by
 obtain ⟨F,γ,r,k1,k2,k3,w⟩:=h
 obtain ⟨xs,e1,k3⟩:=Qi k3
 refine ⟨F,γ,xs,k1,k2,e1,fun vs H1 F1 g1 q1 => ?_⟩
 dsimp only
 rw [List.append_nil]
 exact ⟨by rw [q1.length];exact hn _ _ k3,F1,xs,r,g1.sub,q1,k3,w.go g1⟩
variable {CX:CXT} {k n:Nat} {f:Addr} {fd:FuncData} {ps:List Str}
theorem em_call {g:List PV→Option PV} (F:FnOk X.prog X.w X.K X.mg X.base CX0 k f fd ps (spM X.K n g)) (hn:∀ ps r,g ps=some r→ps.length=n) (hr:Room k X.A) (hg:Gl X x) (hm:X.mg x=some (.ref f)) (hk:PySem.W.keepIn X.K (.ref f)=true) (hb:Qbx X.K fd ps [])
  (ha:AM X ms (e :: es) ma) (hdb:(x==("__debug__":Str))=false:=by decide) (he:starEach (e :: es) X.env=(false,eval e X.env) :: starEach es X.env:=by rfl) (hpl:(backTo pos (starEach es X.env)).any (·.1)=false:=by rfl) :
  EM X ms (.Call (.Name x p) (e :: es) [] pos) (Qj g ma) :=
 PE.imp (QkK (E:=E0) F hr hg hm hk hb .nil pass0 ha hdb he hpl) fun _ _ _ h=>tCall_of hn h
theorem eo_call {g:List PV→Option (List PV)} (F:FnOk X.prog X.w X.K X.mg X.base CX0 k f fd ps (spO X.K n g)) (hn:∀ ps r,g ps=some r→ps.length=n) (hr:Room k X.A) (hg:Gl X x) (hm:X.mg x=some (.ref f)) (hk:PySem.W.keepIn X.K (.ref f)=true) (hb:Qbx X.K fd ps [])
  (ha:AM X ms (e :: es) ma) (hdb:(x==("__debug__":Str))=false:=by decide) (he:starEach (e :: es) X.env=(false,eval e X.env) :: starEach es X.env:=by rfl) (hpl:(backTo pos (starEach es X.env)).any (·.1)=false:=by rfl) :
  EO X ms (.Call (.Name x p) (e :: es) [] pos) (Qj g ma) :=
 PE.imp (QkK (E:=E0) F hr hg hm hk hb .nil pass0 ha hdb he hpl) fun _ _ _ h=>QlB hn h
end
inductive Out where
 | nx (γ:PEnv) | rt (p:PV) | ro (xs:List PV) | bk (γ:PEnv) | ct (γ:PEnv)
abbrev MSt:=PEnv→Option Out
def flat:PV→Bool
 | .tup _=>false
 | .lst _=>false
 | .obj _ _ _=>false
 | .dct _=>false
 | .dcw _=>false
 | _=>true
theorem Rep.flat {K:PySem.W.Frag} {F F':Hp} {p:PV} {v:V} (f:flat p=true) (h:Rep K F p v):Rep K F' p v:=by
 cases p <;> unfold Rep at h ⊢ <;> first | exact h | (cases f;done)
theorem RepL.flat {K:PySem.W.Frag} {F F':Hp}:∀ {ps:List PV} {vs:List V},ps.all PM.flat=true→RepL K F ps vs→RepL K F' ps vs
 | [],_,_,h=>by unfold RepL at h ⊢;exact h
 | p :: ps,_,f,h=>by
  rw [List.all_cons,Bool.and_eq_true] at f
  unfold RepL at h
  obtain ⟨v,r,rfl,h2,h3⟩:=h
  exact .cons (h2.flat f.1) (RepL.flat f.2 h3)
structure OD (B F:Hp) (σ:St) (H:Hp) (γ:PEnv):Prop where
 at_:∀ (i:Nat) kvs,γ[i]?=some (.od kvs)→∃ a,σ[i]?=some (some (.ref a))∧H a=some (.dK (dvK kvs))∧F a=none∧B a=none
 dj:∀ (i j:Nat) kvs lvs a,i≠j→γ[i]?=some (.od kvs)→γ[j]?=some (.od lvs)→σ[i]?=some (some (.ref a))→σ[j]?≠some (some (.ref a))
theorem OD.mv {B F B' F':Hp} {σ σ':St} {H H':Hp} {γ γ':PEnv} (x:OD B F σ H γ) (hγ:∀ (j:Nat) kvs,γ'[j]?=some (.od kvs)→γ[j]?=some (.od kvs)∧σ'[j]?=σ[j]?)
  (hH:∀ a kvs,H a=some (.dK kvs)→F a=none→B a=none→H' a=H a∧F' a=none∧B' a=none):OD B' F' σ' H' γ':=by
 refine ⟨fun i kvs e => ?_,fun i j kvs lvs a n e1 e2 e3 => ?_⟩
 ·obtain ⟨e1,e2⟩:=hγ i kvs e
  obtain ⟨a,k1,k2,k3,k4⟩:=x.at_ i kvs e1
  obtain ⟨m1,m2,m3⟩:=hH a _ k2 k3 k4
  exact ⟨a,by rw [e2];exact k1,by rw [m1];exact k2,m2,m3⟩
 ·obtain ⟨k1,k2⟩:=hγ i kvs e1
  obtain ⟨k3,k4⟩:=hγ j lvs e2
  rw [k2] at e3
  rw [k4]
  exact x.dj i j kvs lvs a n k1 k3 e3
theorem OD.set {B F:Hp} {σ:St} {H:Hp} {γ:PEnv} (x:OD B F σ H γ) (i:Nat) {t:Slot} {v:Option V} (ht:∀ kvs,t ≠ .od kvs):OD B F (σ.set i v) H (γ.set i t) :=
 x.mv (fun j kvs e=>by
  by_cases q:i=j
  ·subst q
   by_cases hi:i < γ.length
   ·rw [List.getElem?_set_self hi] at e
    exact absurd (Option.some.inj e) (ht kvs)
   ·rw [List.getElem?_eq_none (by simpa using hi)] at e;cases e
  ·rw [List.getElem?_set_ne q] at e
   exact ⟨e,List.getElem?_set_ne q⟩) fun a kvs h1 h2 h3=>⟨rfl,h2,h3⟩
theorem OD.setG {B F:Hp} {σ:St} {H:Hp} {γ:PEnv} (x:OD B F σ H γ) (i:Nat) {t:Slot} (ht:∀ kvs,t ≠ .od kvs):OD B F σ H (γ.set i t) :=
 x.mv (fun j kvs e=>by
  by_cases q:i=j
  ·subst q
   by_cases hi:i < γ.length
   ·rw [List.getElem?_set_self hi] at e
    exact absurd (Option.some.inj e) (ht kvs)
   ·rw [List.getElem?_eq_none (by simpa using hi)] at e;cases e
  ·rw [List.getElem?_set_ne q] at e
   exact ⟨e,rfl⟩) fun a kvs h1 h2 h3=>⟨rfl,h2,h3⟩
structure SR (K:PySem.W.Frag) (B F₀ F:Hp) (σ:St) (H:Hp) (γ:PEnv):Prop where
 sub:Same F H
 base:Same B H
 f0:Same F₀ F
 fb:∀ a o,F a=some o→F₀ a=some o∨B a=none
 len:σ.length=γ.length
 fz:∀ (i:Nat) p,γ[i]?=some (.fz p)→∃ v,σ[i]?=some (some v)∧Rep K F p v
 ow:∀ (i:Nat) xs,γ[i]?=some (.ow xs)→∃ a vs,σ[i]?=some (some (.ref a))∧H a=some (.lst vs)∧RepL K F xs vs∧F a=none∧B a=none
 dj:∀ (i j:Nat) xs ys a,i≠j→γ[i]?=some (.ow xs)→γ[j]?=some (.ow ys)→σ[i]?=some (some (.ref a))→σ[j]?≠some (some (.ref a))
 dq:OD B F σ H γ
def frz1 (γ:PEnv) (i:Nat):PEnv:=match γ[i]? with
 | some (.ow xs)=>γ.set i (.fz (.lst xs))
 | some (.od kvs)=>γ.set i (.fz (.dcw kvs))
 | _=>γ
def frz (ms:List Nat) (γ:PEnv):PEnv:=ms.foldl frz1 γ
theorem Qme (γ:PEnv) (i j:Nat):getV (frz1 γ i) j=getV γ j:=by
 unfold frz1
 split
 ·rename_i xs h
  unfold getV
  by_cases e:i=j
  ·subst e
   have hi:i < γ.length:=(List.getElem?_eq_some_iff.mp h).1
   rw [List.getElem?_set_self hi,h]
   rfl
  ·rw [List.getElem?_set_ne e]
 ·rename_i xs h
  unfold getV
  by_cases e:i=j
  ·subst e
   have hi:i < γ.length:=(List.getElem?_eq_some_iff.mp h).1
   rw [List.getElem?_set_self hi,h]
   rfl
  ·rw [List.getElem?_set_ne e]
 ·rfl
theorem Qfg:∀ (ms:List Nat) (γ:PEnv) (j:Nat),getV (frz ms γ) j=getV γ j
 | [],_,_=>rfl
 | i :: ms,γ,j=>by
  show getV (frz ms (frz1 γ i)) j=_
  rw [Qfg ms,Qme]
section
variable {K:PySem.W.Frag} {B F₀ F F' H H':Hp} {σ:St} {γ:PEnv}
theorem SR.frz1 (S:SR K B F₀ F σ H γ) (i:Nat):∃ F1,SR K B F₀ F1 σ H (frz1 γ i)∧Same F F1:=by
 unfold PM.frz1
 split
 ·rename_i xs h
  obtain ⟨a,vs,h1,h2,h3,h4,h5⟩:=S.ow i xs h
  have hi:i < γ.length:=(List.getElem?_eq_some_iff.mp h).1
  have gx:Same F (upd F a (.lst vs)):=fun b u q=>by rw [Qr (Qs q h4)];exact q
  refine ⟨upd F a (.lst vs),⟨fun b u q => ?_,S.base,S.f0.trans gx,fun b u q => ?_,by simpa using S.len,fun j p e => ?_,fun j ys e => ?_,fun j k ys zs c hjk e1 e2 e3 => ?_,(S.dq.setG i (t := .fz (.lst xs)) (fun kvs z=>nomatch z)).mv (fun j kvs e=>⟨e,rfl⟩) fun b kvs k1 k2 k3=>⟨rfl,by rw [Qr (QhU k1 h2 (fun z=>nomatch z))];exact k2,k3⟩⟩,gx⟩
  ·by_cases z:b=a
   ·subst z;rw [Qq] at q;rw [h2];exact q
   ·rw [Qr z] at q;exact S.sub b u q
  ·by_cases z:b=a
   ·subst z;exact .inr h5
   ·rw [Qr z] at q;exact S.fb b u q
  ·by_cases e':i=j
   ·subst e'
    rw [List.getElem?_set_self hi] at e
    cases e
    refine ⟨.ref a,h1,?_⟩
    unfold Rep
    exact ⟨a,vs,rfl,.of Qq,h3.mono gx⟩
   ·rw [List.getElem?_set_ne e'] at e
    obtain ⟨v,k1,k2⟩:=S.fz j p e
    exact ⟨v,k1,k2.mono gx⟩
  ·by_cases e':i=j
   ·subst e'
    rw [List.getElem?_set_self hi] at e
    cases e
   ·rw [List.getElem?_set_ne e'] at e
    obtain ⟨c,us,k1,k2,k3,k4,k5⟩:=S.ow j ys e
    have hca:c≠a:=fun z=>by
     subst z
     exact S.dj i j xs ys c e' h e h1 k1
    exact ⟨c,us,k1,k2,k3.mono gx,by rw [Qr hca];exact k4,k5⟩
  ·have f:∀ (n:Nat) (zs:List PV),(γ.set i (.fz (.lst xs)))[n]?=some (.ow zs)→γ[n]?=some (.ow zs):=fun n zs q=>by
    by_cases e':i=n
    ·subst e'
     rw [List.getElem?_set_self hi] at q
     cases q
    ·rw [List.getElem?_set_ne e'] at q;exact q
   exact S.dj j k ys zs c hjk (f j ys e1) (f k zs e2) e3
 ·rename_i kvs h
  obtain ⟨a,h1,h2,h4,h5⟩:=S.dq.at_ i kvs h
  have hi:i < γ.length:=(List.getElem?_eq_some_iff.mp h).1
  have gx:Same F (upd F a (.dK (dvK kvs))):=fun b u q=>by rw [Qr (Qs q h4)];exact q
  have f:∀ (n:Nat) (t:Slot),(γ.set i (.fz (.dcw kvs)))[n]?=some t→(∀ p,t ≠ .fz p)→i≠n∧γ[n]?=some t:=fun n t q z=>by
   by_cases e':i=n
   ·subst e'
    rw [List.getElem?_set_self hi] at q
    exact absurd (Option.some.inj q).symm (z _)
   ·rw [List.getElem?_set_ne e'] at q;exact ⟨e',q⟩
  refine ⟨upd F a (.dK (dvK kvs)),⟨fun b u q => ?_,S.base,S.f0.trans gx,fun b u q => ?_,by simpa using S.len,fun j p e => ?_,fun j ys e => ?_,fun j k ys zs c hjk e1 e2 e3 => ?_,⟨fun j ls e => ?_,fun j k ks ls c hjk e1 e2 e3 => ?_⟩⟩,gx⟩
  ·by_cases z:b=a
   ·subst z;rw [Qq] at q;rw [h2];exact q
   ·rw [Qr z] at q;exact S.sub b u q
  ·by_cases z:b=a
   ·subst z;exact .inr h5
   ·rw [Qr z] at q;exact S.fb b u q
  ·by_cases e':i=j
   ·subst e'
    rw [List.getElem?_set_self hi] at e
    cases e
    refine ⟨.ref a,h1,?_⟩
    unfold Rep
    exact ⟨a,(),rfl,⟨.inl Qq⟩⟩
   ·rw [List.getElem?_set_ne e'] at e
    obtain ⟨v,k1,k2⟩:=S.fz j p e
    exact ⟨v,k1,k2.mono gx⟩
  ·obtain ⟨e',e⟩:=f j _ e (fun p z=>nomatch z)
   obtain ⟨c,us,k1,k2,k3,k4,k5⟩:=S.ow j ys e
   exact ⟨c,us,k1,k2,k3.mono gx,by rw [Qr (QhU k2 h2 (fun z=>nomatch z))];exact k4,k5⟩
  ·exact S.dj j k ys zs c hjk (f j _ e1 (fun p z=>nomatch z)).2 (f k _ e2 (fun p z=>nomatch z)).2 e3
  ·obtain ⟨e',e⟩:=f j _ e (fun p z=>nomatch z)
   obtain ⟨c,k1,k2,k4,k5⟩:=S.dq.at_ j ls e
   have hca:c≠a:=fun z=>by
    subst z
    exact S.dq.dj i j kvs ls c e' h e h1 k1
   exact ⟨c,k1,k2,by rw [Qr hca];exact k4,k5⟩
  ·exact S.dq.dj j k ks ls c hjk (f j _ e1 (fun p z=>nomatch z)).2 (f k _ e2 (fun p z=>nomatch z)).2 e3
 ·exact ⟨F,S,Same.refl _⟩
theorem SR.frz:∀ (ms:List Nat) {F:Hp} {γ:PEnv},SR K B F₀ F σ H γ→∃ F1,SR K B F₀ F1 σ H (frz ms γ)∧Same F F1
 | [],F,_,S=>⟨F,S,Same.refl _⟩
 | i :: ms,F,γ,S=>by
  obtain ⟨F1,S1,e1⟩:=S.frz1 i
  obtain ⟨F2,S2,e2⟩:=SR.frz ms S1
  exact ⟨F2,S2,e1.trans e2⟩
def XR (γ:PEnv) (j:Nat):Prop:=(∀ xs,γ[j]?≠some (.ow xs))∧∀ kvs,γ[j]?≠some (.od kvs)
theorem Qmg {γ:PEnv} {i j:Nat} (h:XR γ j):XR (PM.frz1 γ i) j:=by
 unfold PM.frz1
 split
 ·rename_i ys e
  by_cases e':i=j
  ·subst e'
   exact absurd e (h.1 ys)
  ·exact ⟨fun xs=>by rw [List.getElem?_set_ne e'];exact h.1 xs,fun xs=>by rw [List.getElem?_set_ne e'];exact h.2 xs⟩
 ·rename_i ys e
  by_cases e':i=j
  ·subst e'
   exact absurd e (h.2 ys)
  ·exact ⟨fun xs=>by rw [List.getElem?_set_ne e'];exact h.1 xs,fun xs=>by rw [List.getElem?_set_ne e'];exact h.2 xs⟩
 ·exact h
theorem Qmf {γ:PEnv} {i:Nat}:XR (PM.frz1 γ i) i:=by
 unfold PM.frz1
 split
 ·rename_i ys e
  have hi:i < γ.length:=(List.getElem?_eq_some_iff.mp e).1
  exact ⟨(fun xs z=>by rw [List.getElem?_set_self hi] at z;cases z),(fun xs z=>by rw [List.getElem?_set_self hi] at z;cases z)⟩
 ·rename_i ys e
  have hi:i < γ.length:=(List.getElem?_eq_some_iff.mp e).1
  exact ⟨(fun xs z=>by rw [List.getElem?_set_self hi] at z;cases z),(fun xs z=>by rw [List.getElem?_set_self hi] at z;cases z)⟩
 ·rename_i h1 h2
  exact ⟨h1,h2⟩
theorem QiR:∀ (ms:List Nat) {γ:PEnv} {j:Nat},XR γ j→XR (PM.frz ms γ) j
 | [],_,_,h=>h
 | i :: ms,γ,j,h=>QiR ms (γ:=PM.frz1 γ i) (Qmg h)
theorem Qld:∀ (ms:List Nat) {γ:PEnv} {j:Nat},j∈ms→XR (PM.frz ms γ) j
 | [],_,_,h=>by cases h
 | i :: ms,γ,j,h=>by
  rcases List.mem_cons.mp h with rfl | h
  ·exact QiR ms (γ:=PM.frz1 γ j) Qmf
  ·exact Qld ms (γ:=PM.frz1 γ i) h
theorem SR.erep (S:SR K B F₀ F σ H γ) {ms:List Nat} (h:∀ i∈ms,XR γ i):ERep K F σ γ ms:=fun i hi p e=>by
 unfold getV at e
 cases q:γ[i]? with
 | none=>rw [q] at e;cases e
 | some t =>
  cases t with
  | un=>rw [q] at e;cases e
  | fz p' =>
   rw [q] at e
   cases e
   exact S.fz i p q
  | ow xs=>exact absurd q ((h i hi).1 xs)
  | od xs=>exact absurd q ((h i hi).2 xs)
theorem SR.see (S:SR K B F₀ F σ H γ) (ms:List Nat):∃ F1,SR K B F₀ F1 σ H (PM.frz ms γ)∧Same F F1∧ERep K F1 σ γ ms:=by
 obtain ⟨F1,S1,e1⟩:=SR.frz ms S
 refine ⟨F1,S1,e1,fun i hi p e => ?_⟩
 exact S1.erep (ms:=ms) (fun j hj=>Qld ms hj) i hi p (by rw [Qfg];exact e)
theorem SR.same (S:SR K B F₀ F σ H γ) (e:Same H H'):SR K B F₀ F σ H' γ :=
 ⟨S.sub.trans e,S.base.trans e,S.f0,S.fb,S.len,S.fz,fun i xs h=>by
  obtain ⟨a,vs,h1,h2,h3⟩:=S.ow i xs h
  exact ⟨a,vs,h1,e _ _ h2,h3⟩,S.dj,S.dq.mv (fun _ _ q=>⟨q,rfl⟩) fun a kvs h1 h2 h3=>⟨by rw [h1];exact e _ _ h1,h2,h3⟩⟩
theorem SR.grow (S:SR K B F₀ F σ H γ) (g:Grow F H F' H'):SR K B F₀ F' σ H' γ:=by
 refine ⟨g.sub,S.base.trans g.same,S.f0.trans g.ext,fun a o e => ?_,S.len,fun i p h => ?_,fun i xs h => ?_,S.dj,S.dq.mv (fun _ _ q=>⟨q,rfl⟩) fun a kvs h1 h2 h3=>⟨by rw [h1];exact g.same _ _ h1,?_,h3⟩⟩
 ·rcases g.new a o e with z | z
  ·exact S.fb a o z
  ·exact .inr (S.base.free z)
 ·obtain ⟨v,h1,h2⟩:=S.fz i p h
  exact ⟨v,h1,h2.mono g.ext⟩
 ·obtain ⟨a,vs,h1,h2,h3,h4,h5⟩:=S.ow i xs h
  refine ⟨a,vs,h1,g.same _ _ h2,h3.mono g.ext,?_,h5⟩
  cases q:F' a with
  | none=>rfl
  | some o =>
   rcases g.new a o q with z | z
   ·rw [h4] at z;cases z
   ·rw [h2] at z;cases z
 ·cases q:F' a with
  | none=>rfl
  | some u =>
   rcases g.new a u q with z | z
   ·rw [h2] at z;cases z
   ·rw [h1] at z;cases z
theorem SR.setFz (S:SR K B F₀ F σ H γ) (i:Nat) {p:PV} {v:V} (r:Rep K F p v):SR K B F₀ F (σ.set i (some v)) H (γ.set i (.fz p)):=by
 have f:∀ (n:Nat) (zs:List PV),(γ.set i (.fz p))[n]?=some (.ow zs)→i≠n∧γ[n]?=some (.ow zs):=fun n zs q=>by
  by_cases e':i=n
  ·subst e'
   by_cases hi:i < γ.length
   ·rw [List.getElem?_set_self hi] at q;cases q
   ·rw [List.getElem?_eq_none (by simpa using hi)] at q;cases q
  ·rw [List.getElem?_set_ne e'] at q;exact ⟨e',q⟩
 refine ⟨S.sub,S.base,S.f0,S.fb,by simpa using S.len,fun j q e => ?_,fun j ys e => ?_,fun j k ys zs c hjk e1 e2 e3 => ?_,S.dq.set i (fun kvs z=>nomatch z)⟩
 ·by_cases e':i=j
  ·subst e'
   by_cases hi:i < γ.length
   ·rw [List.getElem?_set_self hi] at e
    cases e
    exact ⟨v,by rw [List.getElem?_set_self (by rw [S.len];exact hi)],r⟩
   ·rw [List.getElem?_eq_none (by simpa using hi)] at e;cases e
  ·rw [List.getElem?_set_ne e'] at e
   obtain ⟨u,h1,h2⟩:=S.fz j q e
   exact ⟨u,by rw [List.getElem?_set_ne e'];exact h1,h2⟩
 ·obtain ⟨ne,e⟩:=f j ys e
  obtain ⟨a,vs,h1,h2⟩:=S.ow j ys e
  exact ⟨a,vs,by rw [List.getElem?_set_ne ne];exact h1,h2⟩
 ·obtain ⟨n1,e1⟩:=f j ys e1
  obtain ⟨n2,e2⟩:=f k zs e2
  rw [List.getElem?_set_ne n1] at e3
  rw [List.getElem?_set_ne n2]
  exact S.dj j k ys zs c hjk e1 e2 e3
theorem SR.setOw (S:SR K B F₀ F σ H γ) (i:Nat) {xs:List PV} {a:Addr} {vs:List V} (hH:H a=some (.lst vs)) (r:RepL K F xs vs) (nF:F a=none) (nB:B a=none)
  (nd:∀ (j:Nat) ys,i≠j→γ[j]?=some (.ow ys)→σ[j]?≠some (some (.ref a))):SR K B F₀ F (σ.set i (some (.ref a))) H (γ.set i (.ow xs)):=by
 refine ⟨S.sub,S.base,S.f0,S.fb,by simpa using S.len,fun j q e => ?_,fun j ys e => ?_,fun j k ys zs c hjk e1 e2 e3 e4 => ?_,S.dq.set i (fun kvs z=>nomatch z)⟩
 ·by_cases e':i=j
  ·subst e'
   by_cases hi:i < γ.length
   ·rw [List.getElem?_set_self hi] at e;cases e
   ·rw [List.getElem?_eq_none (by simpa using hi)] at e;cases e
  ·rw [List.getElem?_set_ne e'] at e
   obtain ⟨u,h1,h2⟩:=S.fz j q e
   exact ⟨u,by rw [List.getElem?_set_ne e'];exact h1,h2⟩
 ·by_cases e':i=j
  ·subst e'
   by_cases hi:i < γ.length
   ·rw [List.getElem?_set_self hi] at e
    cases e
    exact ⟨a,vs,by rw [List.getElem?_set_self (by rw [S.len];exact hi)],hH,r,nF,nB⟩
   ·rw [List.getElem?_eq_none (by simpa using hi)] at e;cases e
  ·rw [List.getElem?_set_ne e'] at e
   obtain ⟨b,us,h1,h2⟩:=S.ow j ys e
   exact ⟨b,us,by rw [List.getElem?_set_ne e'];exact h1,h2⟩
 ·by_cases z1:i=j
  ·subst z1
   by_cases hi:i < γ.length
   ·rw [List.getElem?_set_self (by rw [S.len];exact hi)] at e3
    cases e3
    rw [List.getElem?_set_ne hjk] at e2 e4
    exact nd k zs hjk e2 e4
   ·rw [List.getElem?_eq_none (by simpa using hi)] at e1;cases e1
  ·rw [List.getElem?_set_ne z1] at e1 e3
   by_cases z2:i=k
   ·subst z2
    by_cases hi:i < γ.length
    ·rw [List.getElem?_set_self (by rw [S.len];exact hi)] at e4
     cases e4
     exact nd j ys z1 e1 e3
    ·rw [List.getElem?_eq_none (by simpa using hi)] at e2;cases e2
   ·rw [List.getElem?_set_ne z2] at e2 e4
    exact S.dj j k ys zs c hjk e1 e2 e3 e4
theorem SR.write (S:SR K B F₀ F σ H γ) {i:Nat} {xs ys:List PV} {a:Addr} {us:List V} (hi:γ[i]?=some (.ow xs)) (ha:σ[i]?=some (some (.ref a))) (r:RepL K F ys us) :
  SR K B F₀ F σ (upd H a (.lst us)) (γ.set i (.ow ys)):=by
 obtain ⟨a',vs,h1,h2,h3,h4,h5⟩:=S.ow i xs hi
 rw [ha] at h1
 cases h1
 have hil:i < γ.length:=(List.getElem?_eq_some_iff.mp hi).1
 have stay:∀ b o,H b=some o→b≠a→upd H a (.lst us) b=some o:=fun b o e n=>by rw [Qr n];exact e
 refine ⟨fun b o e=>stay b o (S.sub b o e) (Qs e h4),fun b o e=>stay b o (S.base b o e) (Qs e h5),S.f0,S.fb,by simpa using S.len,fun j q e => ?_,fun j zs e => ?_,fun j k ws zs c hjk e1 e2 e3 e4 => ?_,(S.dq.setG i (t := .ow ys) (fun kvs z=>nomatch z)).mv (fun _ _ q=>⟨q,rfl⟩) fun b kvs k1 k2 k3=>⟨Qr (QhU k1 h2 (fun z=>nomatch z)),k2,k3⟩⟩
 ·by_cases e':i=j
  ·subst e'
   rw [List.getElem?_set_self hil] at e;cases e
  ·rw [List.getElem?_set_ne e'] at e;exact S.fz j q e
 ·by_cases e':i=j
  ·subst e'
   rw [List.getElem?_set_self hil] at e
   cases e
   exact ⟨a,us,ha,Qq,r,h4,h5⟩
  ·rw [List.getElem?_set_ne e'] at e
   obtain ⟨b,ts,k1,k2,k3⟩:=S.ow j zs e
   have hb:b≠a:=fun z=>by
    subst z
    exact S.dj i j xs zs b e' hi e ha k1
   exact ⟨b,ts,k1,stay _ _ k2 hb,k3⟩
 ·have f:∀ (n:Nat) (ws:List PV),(γ.set i (.ow ys))[n]?=some (.ow ws)→∃ ws',γ[n]?=some (.ow ws'):=fun n ws q=>by
   by_cases e':i=n
   ·subst e';exact ⟨xs,hi⟩
   ·rw [List.getElem?_set_ne e'] at q;exact ⟨ws,q⟩
  obtain ⟨ws',e1⟩:=f j ws e1
  obtain ⟨zs',e2⟩:=f k zs e2
  exact S.dj j k _ _ c hjk e1 e2 e3 e4
theorem SR.up (S:SR K B F₀ F σ H γ) {F1:Hp} (e1:Same F₀ F1) (e:Same F1 F):SR K B F1 F σ H γ :=
 ⟨S.sub,S.base,e,fun a o q=>(S.fb a o q).imp (fun z=>e1 a o z) id,S.len,S.fz,S.ow,S.dj,S.dq⟩
theorem SR.down {F1:Hp} (S:SR K B F1 F σ H γ) (e1:Same F₀ F1) (fb1:∀ a o,F1 a=some o→F₀ a=some o∨B a=none):SR K B F₀ F σ H γ :=
 ⟨S.sub,S.base,e1.trans S.f0,fun a o q=>(S.fb a o q).elim (fun z=>fb1 a o z) .inr,S.len,S.fz,S.ow,S.dj,S.dq⟩
theorem Grow.down {F1:Hp} (g:Grow F1 B F' H') (e1:Same F₀ F1) (fb1:∀ a o,F1 a=some o→F₀ a=some o∨B a=none):Grow F₀ B F' H' :=
 ⟨e1.trans g.ext,g.sub,g.same,fun a o q=>(g.new a o q).elim (fun z=>fb1 a o z) .inr⟩
theorem SR.gr (S:SR K B F₀ F σ H γ):Grow F₀ B F H:=⟨S.f0,S.sub,S.base,S.fb⟩
end
def OutOk (K:PySem.W.Frag) (B F₀:Hp) (D:Ends):Out→Prop
 | .nx γ=>∀ σ H F,SR K B F₀ F σ H γ→D.nx σ H
 | .rt p=>∀ v H F,Grow F₀ B F H→Rep K F p v→D.rt v H
 | .ro xs=>∀ a vs H F,Grow F₀ B F H→B a=none→F a=none→H a=some (.lst vs)→RepL K F xs vs→D.rt (.ref a) H
 | .bk γ=>∀ σ H F,SR K B F₀ F σ H γ→D.bk σ H
 | .ct γ=>∀ σ H F,SR K B F₀ F σ H γ→D.ct σ H
def tMS (K:PySem.W.Frag) (m:MSt):TS:=fun D σ H=>∃ B F₀ F γ o,SR K B F₀ F σ H γ∧m γ=some o∧OutOk K B F₀ D o
def SM (X:Cx) (st:Stmt) (m:MSt):Prop:=PS X st (tMS X.K m)
def SMs (X:Cx) (sts:List Stmt) (m:MSt):Prop:=PSs X sts (tMS X.K m)
section
variable {X:Cx} {e a b c:Expr} {st:Stmt} {sts:List Stmt} {ms ns ls:List Nat} {m m1 m2 m3:MEx} {s1 s2:MSt} {pos p2:Pos}
theorem _root_.L2.PSs.imp {t t':TS} (h:PSs X sts t) (i:∀ D σ H,t' D σ H→t D σ H):PSs X sts t':=fun pins s σ H D I q=>h pins s σ H D I (i D σ H q)
def sNx:MSt:=fun γ=>some (.nx γ)
def sSeq (s1 s2:MSt):MSt:=fun γ=>(s1 γ).bind fun o=>match o with
 | .nx γ'=>s2 γ'
 | o=>some o
theorem QG:SMs X [] sNx:=PSs.imp pss_nil fun D σ H ⟨B,F₀,F,γ,o,S,e,ok⟩=>by
 cases e
 exact ok σ H F S
theorem Qk (h:SM X st s1):SMs X [st] s1:=pss_one h
theorem Qh (h:SM X st s1) (hr:SMs X sts s2):SMs X (st :: sts) (sSeq s1 s2):=PSs.imp (pss_cons h hr) fun D σ H ⟨B,F₀,F,γ,o,S,e,ok⟩=>by
 obtain ⟨o1,e1,e2⟩:=Qi e
 refine ⟨B,F₀,F,γ,o1,S,e1,?_⟩
 cases o1 with
 | nx γ'=>exact fun σ' H' F' S'=>⟨B,F₀,F',γ',o,S',e2,ok⟩
 | rt p=>cases e2;exact ok
 | ro xs=>cases e2;exact ok
 | bk γ'=>cases e2;exact ok
 | ct γ'=>cases e2;exact ok
def sBk:MSt:=fun γ=>some (.bk γ)
def sCt:MSt:=fun γ=>some (.ct γ)
def sNo:MSt:=fun _=>none
theorem QhG:SM X st sNo:=PS.imp ps_never fun D σ H ⟨B,F₀,F,γ,o,S,e,ok⟩=>by cases e
def sRet (m:MEx):MSt:=fun γ=>(m γ).map .rt
def sRetO (m:PEnv→Option (List PV)):MSt:=fun γ=>(m γ).map .ro
def QbS (i:Nat):MSt:=fun γ=>match γ[i]? with
 | some (.ow xs)=>some (.ro xs)
 | some (.fz p)=>some (.rt p)
 | _=>none
theorem QF (h:EM X ms e m):SM X (.Return (some e) pos) (sRet m):=PS.imp (Qke h) fun D σ H ⟨B,F₀,F,γ,o,S,e,ok⟩=>by
 obtain ⟨r,e1,e2⟩:=Yp e
 subst e2
 obtain ⟨F1,S1,x1,er⟩:=S.see ms
 exact ⟨F1,γ,r,S1.sub,er,e1,fun v H' F' g q=>ok v H' F' (S1.grow g).gr q⟩
theorem sm_retO {m:PEnv→Option (List PV)} (h:EO X ms e m):SM X (.Return (some e) pos) (sRetO m):=PS.imp (Qke h) fun D σ H ⟨B,F₀,F,γ,o,S,e,ok⟩=>by
 obtain ⟨r,e1,e2⟩:=Yp e
 subst e2
 obtain ⟨F1,S1,x1,er⟩:=S.see ms
 exact ⟨F1,γ,r,S1.sub,er,e1,fun a vs H' F' g n nF hH q=>ok a vs H' F' (S1.grow g).gr (S1.base.free n) nF hH q⟩
theorem QaS (i:Nat) {x:Str} (h:PE X (.Name x p2) (tVar i)):SM X (.Return (some (.Name x p2)) pos) (QbS i):=PS.imp (Qke h) fun D σ H ⟨B,F₀,F,γ,o,S,e,ok⟩=>by
 unfold QbS at e
 split at e
 ·rename_i xs h
  cases e
  obtain ⟨a,vs,h1,h2,h3,h4,h5⟩:=S.ow i xs h
  exact ⟨.ref a,h1,ok a vs H F S.gr h5 h4 h2 h3⟩
 ·rename_i p h
  cases e
  obtain ⟨v,h1,h2⟩:=S.fz i p h
  exact ⟨v,h1,ok v H F S.gr h2⟩
 ·cases e
def sIf (t:PEnv→Option Bool) (s1 s2:MSt):MSt:=fun γ=>(t γ).bind fun k=>if k=true then s1 γ else s2 γ
theorem Zs {t:PEnv→Option Bool} {xs ys:List Stmt} (hc:TM X ms c t) (ha:SMs X xs s1) (hb:SMs X ys s2):SM X (.If c xs ys pos) (sIf t s1 s2):=PS.imp (ps_if hc ha hb) fun D σ H ⟨B,F₀,F,γ,o,S,e,ok⟩=>by
 obtain ⟨k,e1,e2⟩:=Qi e
 obtain ⟨F1,S1,x1,er⟩:=S.see ms
 refine ⟨F1,γ,k,S1.sub,er,e1,fun H' F' g => ?_⟩
 cases k with
 | true=>rw [if_pos rfl] at e2 ⊢;exact ⟨B,F₀,F,γ,o,S.same g.same,e2,ok⟩
 | false=>rw [if_neg Bool.false_ne_true] at e2 ⊢;exact ⟨B,F₀,F,γ,o,S.same g.same,e2,ok⟩
def Zt (k:Bool) (ms:List Nat) (γ:PEnv):PEnv:=if k=true then γ else frz ms γ
def sSet (ms:List Nat) (i:Nat) (m:MEx):MSt:=fun γ=>(m γ).map fun r => .nx ((Zt (flat r) ms γ).set i (.fz r))
def ZB (ms:List Nat) (i:Nat) (m:PEnv→Option (List PV)):MSt:=fun γ=>(m γ).map fun xs => .nx ((Zt (xs.all flat) ms γ).set i (.ow xs))
theorem SR.val {K:PySem.W.Frag} {B F₀ F F1 F' H H':Hp} {σ:St} {γ:PEnv} {r:PV} {v:V} (S:SR K B F₀ F σ H γ) (S1:SR K B F₀ F1 σ H (PM.frz ms γ)) (g:Grow F1 H F' H') (q:Rep K F' r v) :
  ∃ F2,SR K B F₀ F2 σ H' (Zt (flat r) ms γ)∧Rep K F2 r v:=by
 unfold Zt
 cases f:flat r with
 | true=>rw [if_pos rfl];exact ⟨F,S.same g.same,q.flat f⟩
 | false=>rw [if_neg Bool.false_ne_true];exact ⟨F',S1.grow g,q⟩
theorem SR.valO {K:PySem.W.Frag} {B F₀ F F1 F' H H':Hp} {σ:St} {γ:PEnv} {r:List PV} {vs:List V} (S:SR K B F₀ F σ H γ) (x1:Same F F1) (S1:SR K B F₀ F1 σ H (PM.frz ms γ)) (g:Grow F1 H F' H') (q:RepL K F' r vs) :
  ∃ F2,SR K B F₀ F2 σ H' (Zt (r.all flat) ms γ)∧RepL K F2 r vs∧Same F2 F':=by
 unfold Zt
 cases f:r.all flat with
 | true=>rw [if_pos rfl];exact ⟨F,S.same g.same,q.flat f,x1.trans g.ext⟩
 | false=>rw [if_neg Bool.false_ne_true];exact ⟨F',S1.grow g,q,Same.refl _⟩
theorem QJ {i:Nat} {x:Str} (hN:X.N.Nodup) (hi:X.N[i]?=some x) (hx:Loc X.env.scope x) (h:EM X ms e m) (hs:swapsWith e (some (.Name x p2)) pos.line X.env=pure false:=by rfl) (hf:X.fn x=true∨X.env.scope.names.lookup x=some .local:=by first | exact .inl rfl | exact .inr rfl | assumption) :
  SM X (.Assign [.Name x p2] e pos) (sSet ms i m):=PS.imp (Qkd hN hi hx h hs hf) fun D σ H ⟨B,F₀,F,γ,o,S,e,ok⟩=>by
 obtain ⟨r,e1,e2⟩:=Yp e
 subst e2
 obtain ⟨F1,S1,x1,er⟩:=S.see ms
 refine ⟨F1,γ,r,S1.sub,er,e1,fun v H' F' g q => ?_⟩
 obtain ⟨F2,S2,q2⟩:=S.val S1 g q
 exact ok _ _ F2 (S2.setFz i q2)
theorem SR.setNew {K:PySem.W.Frag} {B F₀ F F1 F' H H':Hp} {σ:St} {γ:PEnv} {r:List PV} {vs:List V} {a:Addr} (S:SR K B F₀ F σ H γ) (x1:Same F F1) (S1:SR K B F₀ F1 σ H (PM.frz ms γ)) (g:Grow F1 H F' H') (n:H a=none) (nF:F' a=none) (hH:H' a=some (.lst vs)) (q:RepL K F' r vs) (i:Nat) :
  ∃ F2,SR K B F₀ F2 (σ.set i (some (.ref a))) H' ((Zt (r.all flat) ms γ).set i (.ow r)):=by
 obtain ⟨F2,S2,q2,x2⟩:=S.valO x1 S1 g q
 have own:∀ (j:Nat) ys,(Zt (r.all flat) ms γ)[j]?=some (.ow ys)→σ[j]?≠some (some (.ref a)):=fun j ys e1 e2=>by
  have key:∀ {F:Hp} {γ:PEnv},SR K B F₀ F σ H γ→γ[j]?=some (.ow ys)→False:=fun {F γ} T e1=>by
   obtain ⟨b,us,h1,h2,_⟩:=T.ow j ys e1
   rw [e2] at h1
   cases h1
   rw [n] at h2;cases h2
  unfold Zt at e1
  split at e1
  ·exact key S e1
  ·exact key S1 e1
 exact ⟨F2,S2.setOw i hH q2 (x2.free nF) (S.base.free n) fun j ys _ e1=>own j ys e1⟩
theorem Zi {i:Nat} {x:Str} {m:PEnv→Option (List PV)} (hN:X.N.Nodup) (hi:X.N[i]?=some x) (hx:Loc X.env.scope x) (h:EO X ms e m) (hs:swapsWith e (some (.Name x p2)) pos.line X.env=pure false:=by rfl) (hf:X.fn x=true∨X.env.scope.names.lookup x=some .local:=by first | exact .inl rfl | exact .inr rfl | assumption) :
  SM X (.Assign [.Name x p2] e pos) (ZB ms i m):=PS.imp (Qkd hN hi hx h hs hf) fun D σ H ⟨B,F₀,F,γ,o,S,e,ok⟩=>by
 obtain ⟨r,e1,e2⟩:=Yp e
 subst e2
 obtain ⟨F1,S1,x1,er⟩:=S.see ms
 refine ⟨F1,γ,r,S1.sub,er,e1,fun a vs H' F' g n nF hH q => ?_⟩
 obtain ⟨F2,S2⟩:=S.setNew x1 S1 g n nF hH q i
 exact ok _ _ F2 S2
end
theorem _root_.L2.PG.imp {X:Cx} {e:Expr} {t t':TG} (h:PG X e t) (i:∀ v σ H Q,t' v σ H Q→t v σ H Q):PG X e t':=fun pins s σ H v u Q I r q=>h pins s σ H v u Q I r (i v σ H Q q)
theorem Qjz (k:Bool) (ms:List Nat) (γ:PEnv) (j:Nat):getV (Zt k ms γ) j=getV γ j:=by
 unfold Zt
 split
 ·rfl
 ·exact Qfg ms γ j
theorem ERep.of_getV {K:PySem.W.Frag} {F:Hp} {σ:St} {γ γ':PEnv} {ms:List Nat} (h:ERep K F σ γ ms) (e:∀ j,getV γ j=getV γ' j):ERep K F σ γ' ms:=fun i hi p hp=>h i hi p (by rw [e];exact hp)
theorem Qgk:∀ (ms:List Nat) {γ:PEnv} {j:Nat},j∉ms→(frz ms γ)[j]?=γ[j]?
 | [],_,_,_=>rfl
 | i :: ms,γ,j,h=>by
  show (frz ms (frz1 γ i))[j]?=_
  rw [Qgk ms (fun z=>h (List.mem_cons_of_mem _ z))]
  unfold frz1
  split
  ·rw [List.getElem?_set_ne (fun z=>h (by simp [z]))]
  ·rw [List.getElem?_set_ne (fun z=>h (by simp [z]))]
  ·rfl
theorem Qao {k:Bool} {ms:List Nat} {γ:PEnv} {i:Nat} {xs:List PV} (h:γ[i]?=some (.ow xs)) (c:(k || !ms.contains i)=true):(Zt k ms γ)[i]?=some (.ow xs):=by
 unfold Zt
 cases k with
 | true=>rw [if_pos rfl];exact h
 | false =>
  rw [if_neg Bool.false_ne_true]
  have:i∉ms:=by simpa using c
  rw [Qgk ms this];exact h
section
variable {X:Cx} {e a b c:Expr} {st:Stmt} {sts:List Stmt} {ms ns ls:List Nat} {m m1 m2 m3 mi mv:MEx} {s1 s2:MSt} {pos p2 p3:Pos}
def tMG (K:PySem.W.Frag) (ts:List Nat) (g:PV→PEnv→Option PEnv):TG:=fun v σ H Q=>∃ B F₀ F γ p γ',SR K B F₀ F σ H γ∧Rep K F p v∧g p γ=some γ' ∧
 ∀ σ',SR K B F₀ F σ' H γ'→σ'.length=σ.length→(∀ n,n∉ts→σ'[n]?=σ[n]?)→Q σ' H
def GM (X:Cx) (ts:List Nat) (tg:Expr) (g:PV→PEnv→Option PEnv):Prop:=PG X tg (tMG X.K ts g)
def gSet (i:Nat):PV→PEnv→Option PEnv:=fun p γ=>some (γ.set i (.fz p))
def QgB (i j:Nat):PV→PEnv→Option PEnv:=fun p γ=>match p with
 | .tup [x,y]=>some ((γ.set i (.fz x)).set j (.fz y))
 | _=>none
def gSet3 (i j k:Nat):PV→PEnv→Option PEnv:=fun p γ=>match p with
 | .tup [x,y,z]=>some (((γ.set i (.fz x)).set j (.fz y)).set k (.fz z))
 | _=>none
theorem QA {i:Nat} {x:Str} (h:PG X (.Name x pos) (QjU i)):GM X [i] (.Name x pos) (gSet i):=PG.imp h fun v σ H Q ⟨B,F₀,F,γ,p,γ',S,r,e,w⟩=>by
 cases e
 refine w _ (S.setFz i r) (by simp) fun n hn => ?_
 rw [List.getElem?_set_ne (fun z=>hn (by simp [z]))]
theorem Qlb {i j:Nat} {x y:Expr} {kt:Nat} (h:PG X (.Tuple [x,y] kt pos) (gTup X.K 2 (gCons (QjU i) (gCons (QjU j) gNil)))):GM X [i,j] (.Tuple [x,y] kt pos) (QgB i j) :=
 PG.imp h fun v σ H Q ⟨B,F₀,F,γ,p,γ',S,r,e,w⟩=>by
  unfold QgB at e
  split at e
  ·rename_i x y
   cases e
   unfold Rep at r
   obtain ⟨a,vs,rfl,k2,k3⟩:=r
   unfold RepL at k3
   obtain ⟨v1,r1,rfl,q1,k3⟩:=k3
   unfold RepL at k3
   obtain ⟨v2,r2,rfl,q2,k3⟩:=k3
   unfold RepL at k3
   subst k3
   refine ⟨a,_,rfl,S.sub.seqT k2,rfl,v1,_,rfl,v2,_,rfl,rfl,?_⟩
   refine w _ ((S.setFz i q1).setFz j q2) (by simp) fun n hn => ?_
   rw [List.getElem?_set_ne (fun z=>hn (by simp [z])),List.getElem?_set_ne (fun z=>hn (by simp [z]))]
  ·cases e
def sApp (ms:List Nat) (i:Nat) (m:MEx):MSt:=fun γ=>match γ[i]? with
 | some (.ow xs)=>(m γ).bind fun r=>if xs.length < LIM∧(flat r || !ms.contains i)=true then some (.nx ((Zt (flat r) ms γ).set i (.ow (xs++[r])))) else none
 | _=>none
theorem QcQ {K:PySem.W.Frag} {H:Hp} {a:Addr} {vs:List V} (h:SqL K H a vs):tyV K "list" (.ref a) H := .inl ⟨rfl,vs,h⟩
theorem Qcg {i:Nat} {x:Str} {apos cpos:Pos} (hx:PE X (.Name x p2) (tVar i)) (h:EM X ms e m) (ps:PS X (.Expr (.Call (.Attribute (.Name x p2) "append" apos) [e] [] cpos) pos) (Qmv (tBM X.K "list" QkF (tVar i) (tMA X.K ms (Qc m aNil))))) :
  SM X (.Expr (.Call (.Attribute (.Name x p2) "append" apos) [e] [] cpos) pos) (sApp ms i m):=PS.imp ps fun D σ H ⟨B,F₀,F,γ,o,S,e,ok⟩=>by
 unfold sApp at e
 split at e
 ·rename_i xs hi
  obtain ⟨r,e1,e⟩:=Qi e
  obtain ⟨⟨hl,c⟩,rfl⟩:=Qz e
  obtain ⟨a,vs,h1,h2,_⟩:=S.ow i xs hi
  obtain ⟨F1,S1,x1,er⟩:=S.see ms
  refine ⟨.ref a,h1,QcQ (.of h2),F1,γ,[r],S1.sub,er,by simp [Qc,aNil,e1],fun us H' F' g q => ?_⟩
  unfold RepL at q
  obtain ⟨v,t,rfl,q,qt⟩:=q
  unfold RepL at qt
  subst qt
  obtain ⟨F2,S2,q2⟩:=S.val S1 g q
  have hi2:=Qao (k:=flat r) hi c
  obtain ⟨a2,vs2,k1,k2,k3,_⟩:=S2.ow i xs hi2
  rw [h1] at k1
  cases k1
  refine ⟨a,vs2,v,rfl,rfl,k2,?_,?_⟩
  ·rw [k3.length];exact Nat.lt_of_lt_of_le hl Zx
  ·exact ok _ _ F2 (S2.write hi2 h1 (k3.snoc q2))
 ·cases e
def QcM (ms:List Nat) (i:Nat) (mv mi:MEx):MSt:=fun γ=>match γ[i]? with
 | some (.ow xs)=>(mv γ).bind fun r=>(mi γ).bind fun k=>match k with
  | .int j=>(ixN xs.length j).bind fun n=>if (flat r || !ms.contains i)=true then some (.nx ((Zt (flat r) ms γ).set i (.ow (xs.set n r)))) else none
  | _=>none
 | _=>none
theorem QeW {i:Nat} {x:Str} (hx:PE X (.Name x p2) (tVar i)) (hv:EM X ms e mv) (hi:EM X ns b mi) (hs:swapsWithSole [.Subscript (.Name x p2) b p3] e pos.line X.env=pure false:=by rfl) (hw:swappedStores [.Subscript (.Name x p2) b p3] e X.env=pure none:=by rfl)
  (h1:(assignEach [.Subscript (.Name x p2) b p3] X.env).map (·.2)=[assign (.Subscript (.Name x p2) b p3) X.env]:=by rfl)
  (ha:∀ v,assign (.Subscript (.Name x p2) b p3) X.env v=(do
   let ov ← holding [v] (eval (.Name x p2) X.env)
   let iv ← holding [v,ov] (eval b X.env)
   standAt p3
   holding [v,ov,iv] (setItem ov iv v)
   release [v,ov,iv] []):=by intro _;rfl):SM X (.Assign [.Subscript (.Name x p2) b p3] e pos) (QcM ms i mv mi):=PS.imp (ps_asg hv (pg_sub hx hi set_list ha) hs hw h1) fun D σ H ⟨B,F₀,F,γ,o,S,e,ok⟩=>by
 unfold QcM at e
 split at e
 ·rename_i xs hi
  obtain ⟨r,e1,e⟩:=Qi e
  obtain ⟨k,e2,e⟩:=Qi e
  split at e
  ·rename_i j
   obtain ⟨n,e3,e⟩:=Qi e
   obtain ⟨c,rfl⟩:=Qz e
   obtain ⟨F1,S1,x1,er⟩:=S.see ms
   refine ⟨F1,γ,r,S1.sub,er,e1,fun v H' F' g q => ?_⟩
   obtain ⟨F2,S2,q2⟩:=S.val S1 g q
   have hi2:=Qao (k:=flat r) hi c
   obtain ⟨a,vs,k1,_⟩:=S2.ow i xs hi2
   obtain ⟨F3,S3,x3,er3⟩:=S2.see ns
   refine ⟨.ref a,k1,F3,γ,.int j,S3.sub,er3.of_getV (Qjz _ _ _),e2,fun kv H2 F4 g2 qk => ?_⟩
   unfold Rep at qk
   have S4:=S2.same g2.same
   obtain ⟨a4,vs4,l1,l2,l3,_⟩:=S4.ow i xs hi2
   rw [k1] at l1
   cases l1
   refine ⟨a,vs4,j,n,rfl,qk,l2,by rw [l3.length];exact e3,?_⟩
   exact ok _ _ F2 (S4.write hi2 k1 (l3.set n q2))
  ·cases e
 ·cases e
structure ItRep (K:PySem.W.Frag) (J:It) (F:Hp) (xs:List PV):Prop where
 go:∀ i H,i < xs.length→Same F H→J.go i H
 yld:∀ i H x H',i < xs.length→Same F H→J.yld i H x H'→∃ p,xs[i]?=some p∧∀ F1,Same F F1→Same F1 H→∃ F2,Grow F1 H F2 H'∧Rep K F2 p x
 stop:∀ H,Same F H→J.stop xs.length H
def tMI (K:PySem.W.Frag) (ms:List Nat) (m:PEnv→Option (List PV)):TI:=fun σ H R=>∃ F γ xs,Same F H∧ERep K F σ γ ms∧m γ=some xs∧∀ J H' F',Grow F H F' H'→ItRep K J F' xs→R J H'
def IM (X:Cx) (ms:List Nat) (tg iter:Expr) (m:PEnv→Option (List PV)):Prop:=PI X tg iter (tMI X.K ms m)
theorem _root_.L2.PI.imp {tg:Expr} {t t':TI} (h:PI X tg e t) (i:∀ σ H R,t' σ H R→t σ H R):PI X tg e t':=fun pins s σ H R I q=>h pins s σ H R I (i σ H R q)
def iLst (m:MEx):PEnv→Option (List PV):=fun γ=>(m γ).bind fun p=>match p with
 | .lst xs=>some xs
 | _=>none
def iTpl (m:MEx):PEnv→Option (List PV):=fun γ=>(m γ).bind fun p=>match p with
 | .tup xs=>some xs
 | _=>none
theorem Yx {tg:Expr} (h:EM X ms e m):IM X ms tg e (iLst m):=PI.imp (pi_list h) fun σ H R ⟨F,γ,xs,h1,h2,h3,w⟩=>by
 obtain ⟨p,e1,e2⟩:=Qi h3
 refine ⟨F,γ,p,h1,h2,e1,fun v H' F' g q => ?_⟩
 cases p with
 | lst ys =>
  cases e2
  unfold Rep at q
  obtain ⟨a,vs,rfl,k2,k3⟩:=q
  refine ⟨a,rfl,⟨vs,g.sub.seq k2⟩,w _ _ _ g ?_⟩
  refine ⟨fun i H hi e => ?_,fun i H x H' hi e y => ?_,fun H e => ?_⟩
  ·have hv:i < vs.length:=by rw [k3.length];exact hi
   exact ⟨vs,vs[i],e.seq k2,by simp [hv]⟩
  ·obtain ⟨rfl,y⟩:=y
   obtain ⟨p,e2,e3⟩:=k3.back (y vs (e.seq k2))
   exact ⟨p,e2,fun F1 x1 x2=>⟨F1,.refl x2,e3.mono x1⟩⟩
  ·exact ⟨vs,e.seq k2,by rw [k3.length];exact Nat.le_refl _⟩
 | _=>cases e2
theorem Qkk {tg:Expr} (h:EM X ms e m):IM X ms tg e (iTpl m):=PI.imp (pi_tup h) fun σ H R ⟨F,γ,xs,h1,h2,h3,w⟩=>by
 obtain ⟨p,e1,e2⟩:=Qi h3
 refine ⟨F,γ,p,h1,h2,e1,fun v H' F' g q => ?_⟩
 cases p with
 | tup ys =>
  cases e2
  unfold Rep at q
  obtain ⟨a,vs,rfl,k2,k3⟩:=q
  refine ⟨a,rfl,⟨vs,g.sub.seqT k2⟩,w _ _ _ g ?_⟩
  refine ⟨fun i H hi e => ?_,fun i H x H' hi e y => ?_,fun H e => ?_⟩
  ·have hv:i < vs.length:=by rw [k3.length];exact hi
   exact ⟨vs,vs[i],e.seqT k2,by simp [hv]⟩
  ·obtain ⟨rfl,y⟩:=y
   obtain ⟨p,e2,e3⟩:=k3.back (y vs (e.seqT k2))
   exact ⟨p,e2,fun F1 x1 x2=>⟨F1,.refl x2,e3.mono x1⟩⟩
  ·exact ⟨vs,e.seqT k2,by rw [k3.length];exact Nat.le_refl _⟩
 | _=>cases e2
def rngL (lo hi:Int):List PV:=(List.range (hi - lo).toNat).map fun k => .int (lo + (k:Nat))
theorem QeY (lo hi:Int):(rngL lo hi).length=(hi - lo).toNat:=by simp [rngL]
theorem itr_rep {K:PySem.W.Frag} {F:Hp} (lo hi:Int):ItRep K (Itr lo (hi - lo).toNat) F (rngL lo hi):=by
 refine ⟨fun i H hi' e => ?_,fun i H x H' hi' e y => ?_,fun H e => ?_⟩
 ·rw [QeY] at hi';exact hi'
 ·obtain ⟨rfl,rfl⟩:=y
  rw [QeY] at hi'
  exact ⟨.int (lo + i),by simp [rngL,hi'],fun F1 x1 x2=>⟨F1,.refl x2,ZD _⟩⟩
 ·show (hi - lo).toNat≤_
  rw [QeY];exact Nat.le_refl _
def rOk (j:Int):Bool:=cls (-(2 ^ 62)≤j∧j < 2 ^ 62)
theorem rOk_get {j:Int} (h:rOk j=true) : -(2 ^ 62)≤j∧j < 2 ^ 62:=Qdm h
theorem rOk_of {j:Int} (h1 : -(2 ^ 62)≤j) (h2:j < 2 ^ 62):rOk j=true:=QfO ⟨h1,h2⟩
def iRg1 (m:MEx):PEnv→Option (List PV):=fun γ=>(m γ).bind fun p=>match p with
 | .int j=>if rOk j=true then some (rngL 0 j) else none
 | _=>none
def forL (g:PV→PEnv→Option PEnv) (b:MSt):List PV→PEnv→Option Out
 | [],γ=>some (.nx γ)
 | x :: xs,γ=>(g x γ).bind fun γ1=>(b γ1).bind fun o=>match o with
  | .nx γ2=>forL g b xs γ2
  | .ct γ2=>forL g b xs γ2
  | .bk γ2=>some (.nx γ2)
  | .rt p=>some (.rt p)
  | .ro ys=>some (.ro ys)
def sFor (ms:List Nat) (mi:PEnv→Option (List PV)) (g:PV→PEnv→Option PEnv) (b:MSt):MSt:=fun γ=>(mi γ).bind fun xs=>forL g b xs (frz ms γ)
theorem QiT {K:PySem.W.Frag} {g:PV→PEnv→Option PEnv} {ts:List Nat} {sb:MSt} {D:Ends} {B F₀ F' H':Hp} {J:It} {xs:List PV} {γ1:PEnv} {σ:St} {o:Out} (S1:SR K B F₀ F' σ H' γ1) (it:ItRep K J F' xs) (e2:forL g sb xs γ1=some o) (ok:OutOk K B F₀ D o) :
  ∃ W:Nat→Nat→St→Hp→Prop,(∃ m,W 0 m σ H')∧∀ i m σ H,W i m σ H →
   (J.stop i H∧D.nx σ H)∨(J.go i H∧∃ N:St→Hp→Prop,(∀ σ' H',N σ' H'→∃ m',m' < m∧W (i + 1) m' σ' H')∧∀ x H',J.yld i H x H'→tMG K ts g x σ H' fun σ2 H2=>tMS K sb { D with nx:=N,ct:=N,bk:=D.nx } σ2 H2):=by
 refine ⟨fun i m σ H=>m=xs.length - i∧i≤xs.length∧∃ F γ,SR K B F₀ F σ H γ∧Same F' F∧forL g sb (xs.drop i) γ=some o,⟨xs.length,by simp,Nat.zero_le _,F',γ1,S1,Same.refl _,by simpa using e2⟩,?_⟩
 rintro i m σ2 H2 ⟨rfl,hi,F2,γ2,S2,x2,e2⟩
 by_cases hlt:i < xs.length
 ·refine .inr ⟨it.go i H2 hlt (x2.trans S2.sub),fun σ H=>∃ F γ,SR K B F₀ F σ H γ∧Same F' F∧forL g sb (xs.drop (i + 1)) γ=some o,fun σ' H' q=>⟨xs.length - (i + 1),by omega,rfl,hlt,q⟩,fun x H3 y => ?_⟩
  obtain ⟨p,e3,hy⟩:=it.yld i H2 x H3 hlt (x2.trans S2.sub) y
  obtain ⟨F3,g3,r3⟩:=hy F2 x2 S2.sub
  have S3:=S2.grow g3
  have ed:xs.drop i=p :: xs.drop (i + 1):=by
   have q:=(List.getElem?_eq_some_iff.mp e3)
   obtain ⟨q1,q2⟩:=q
   rw [← q2]
   exact List.drop_eq_getElem_cons q1
  rw [ed] at e2
  unfold forL at e2
  obtain ⟨γ4,e4,e2⟩:=Qi e2
  obtain ⟨ob,e5,e2⟩:=Qi e2
  refine ⟨B,F₀,F3,γ2,p,γ4,S3,r3,e4,fun σ4 S4 _ _ => ?_⟩
  have x3:Same F' F3:=x2.trans g3.ext
  refine ⟨B,F',F3,γ4,ob,S4.up S1.f0 x3,e5,?_⟩
  cases ob with
  | nx γ5=>exact fun σ H F S=>⟨F,γ5,S.down S1.f0 S1.fb,S.f0,e2⟩
  | ct γ5=>exact fun σ H F S=>⟨F,γ5,S.down S1.f0 S1.fb,S.f0,e2⟩
  | bk γ5 =>
   cases e2
   exact fun σ H F S=>ok σ H F (S.down S1.f0 S1.fb)
  | rt p =>
   cases e2
   exact fun v H F gr r=>ok v H F (gr.down S1.f0 S1.fb) r
  | ro ys =>
   cases e2
   exact fun a vs H F gr n nF hH r=>ok a vs H F (gr.down S1.f0 S1.fb) n nF hH r
 ·have e:i=xs.length:=by omega
  subst e
  rw [List.drop_length] at e2
  cases e2
  exact .inl ⟨it.stop H2 (x2.trans S2.sub),ok σ2 H2 F2 S2⟩
theorem XE {tg iter:Expr} {ts:List Nat} {mi:PEnv→Option (List PV)} {g:PV→PEnv→Option PEnv} {sb:MSt} {body:List Stmt} (hp:PassesOwn (model X.prog X.w) X.A X.env X.xe) (hc:X.calm=true) (hi:IM X ms tg iter mi) (hg:GM X ts tg g) (hb:SMs X body sb)
  (hs:∀ x,foldedSetIterable iter X.env x=pure x:=by intro _;rfl):SM X (.For tg iter body [] pos) (sFor ms mi g sb):=PS.imp (ps_for hp hc hi hg hb hs) fun D σ H ⟨B,F₀,F,γ,o,S,e,ok⟩=>by
 obtain ⟨xs,e1,e2⟩:=Qi e
 obtain ⟨F1,S1,x1,er⟩:=S.see ms
 exact ⟨F1,γ,xs,S1.sub,er,e1,fun J H' F' gr it=>QiT (S1.grow gr) it e2 ok⟩
def Qcx (mi:PEnv→Option (List PV)) (g:PV→PEnv→Option PEnv) (b:MSt):MSt:=fun γ=>(mi γ).bind fun xs=>forL g b xs γ
def IMR (X:Cx) (ms:List Nat) (tg iter:Expr) (m:PEnv→Option (List PV)):Prop:=PI X tg iter fun σ H R=>∃ F γ xs,Same F H∧ERep X.K F σ γ ms∧m γ=some xs∧∀ J H',Same H H'→(∀ F,ItRep X.K J F xs)→R J H'
theorem QaT {tg iter:Expr} {ts:List Nat} {mi:PEnv→Option (List PV)} {g:PV→PEnv→Option PEnv} {sb:MSt} {body:List Stmt} (hp:PassesOwn (model X.prog X.w) X.A X.env X.xe) (hc:X.calm=true) (hi:IMR X ms tg iter mi) (hg:GM X ts tg g) (hb:SMs X body sb)
  (hs:∀ x,foldedSetIterable iter X.env x=pure x:=by intro _;rfl):SM X (.For tg iter body [] pos) (Qcx mi g sb):=PS.imp (ps_for hp hc hi hg hb hs) fun D σ H ⟨B,F₀,F,γ,o,S,e,ok⟩=>by
 obtain ⟨xs,e1,e2⟩:=Qi e
 obtain ⟨F1,S1,x1,er⟩:=S.see ms
 exact ⟨F1,γ,xs,S1.sub,er,e1,fun J H' sm it=>QiT (S.same sm) (it F) e2 ok⟩
theorem YQ {tg:Expr} (hg:Gl X "range") (hm:X.mg "range"=none) (ha:AM X ms [a] (Qc m aNil)) (hs:starEach [a] X.env=[(false,eval a X.env)]:=by rfl):IMR X ms tg (.Call (.Name "range" p2) [a] [] pos) (iRg1 m) :=
 PI.imp (QlL hg hm ha hs) fun σ H R ⟨F,γ,xs,h1,h2,h3,w⟩=>by
  obtain ⟨p,e1,e2⟩:=Qi h3
  refine ⟨F,γ,[p],h1,h2,by simp [Qc,aNil,e1],fun vs H' F' g q => ?_⟩
  unfold RepL at q
  obtain ⟨v,t,rfl,q,qt⟩:=q
  unfold RepL at qt
  subst qt
  cases p with
  | int j =>
   obtain ⟨c,rfl⟩:=Qz e2
   obtain ⟨c1,c2⟩:=rOk_get c
   unfold Rep at q
   subst q
   refine ⟨j,rfl,c1,c2,w _ _ g.same fun F => ?_⟩
   have:=itr_rep (K:=X.K) (F:=F) 0 j
   simpa using this
  | _=>cases e2
end
def capS (γ:PEnv) (j:Nat):Slot:=match getV γ j with
 | some p => .fz p
 | none => .un
def blkG (nt:Nat) (caps:List Nat) (γ:PEnv):PEnv:=List.replicate nt .un++caps.map (capS γ)
def QbT (g:PV→PEnv→Option PEnv) (t:PEnv→Option Bool) (e:MEx) (γ:PEnv):List PV→Option (List PV)
 | []=>some []
 | x :: xs=>(g x γ).bind fun γ1=>(t γ1).bind fun k=>if k=true then (e γ1).bind fun y=>(QbT g t e γ xs).map (y :: ·) else QbT g t e γ xs
def XD (mi:PEnv→Option (List PV)) (nt:Nat) (caps:List Nat) (g:PV→PEnv→Option PEnv) (t:PEnv→Option Bool) (e:MEx):PEnv→Option (List PV) :=
 fun γ=>(mi γ).bind fun xs=>if xs.length≤LIM then QbT g t e (blkG nt caps γ) xs else none
def Qaq:PEnv→Option Bool:=fun _=>some true
def IfM (X:Cx) (ms:List Nat) (ifs:List Expr) (t:PEnv→Option Bool):Prop:=PIfs X ifs (tMT X.K ms t)
theorem Qab {X:Cx}:IfM X [] [] Qaq:=fun pins s σ H Q I ⟨F,γ,r,h1,h2,h3,w⟩=>pifs_nil pins s σ H Q I (by
 cases h3
 exact w H F (.refl h1))
theorem Qhu {X:Cx} {ms:List Nat} {c:Expr} {t:PEnv→Option Bool} (h:TM X ms c t):IfM X ms [c] t:=pifs_one h
theorem blk_sr {K:PySem.W.Frag} {F H:Hp} {σ:St} {γ:PEnv} {nt:Nat} {caps:List Nat} (h:Same F H) (er:ERep K F σ γ caps):SR K H F F (Qac nt caps σ) H (blkG nt caps γ):=by
 have key:∀ (i:Nat) (t:Slot),(blkG nt caps γ)[i]?=some t→t = .un∨∃ j p,caps[i - nt]?=some j∧nt≤i∧getV γ j=some p∧t = .fz p:=fun i t e=>by
  unfold blkG at e
  by_cases hi:i < nt
  ·rw [List.getElem?_append_left (by simpa using hi),List.getElem?_replicate,if_pos hi] at e
   exact .inl (Option.some.inj e).symm
  ·rw [List.getElem?_append_right (by simpa using hi),List.length_replicate,List.getElem?_map] at e
   cases q:caps[i - nt]? with
   | none=>rw [q] at e;cases e
   | some j =>
    rw [q] at e
    have e:capS γ j=t:=Option.some.inj e
    unfold capS at e
    split at e
    ·rename_i p hp
     exact .inr ⟨j,p,rfl,by omega,hp,e.symm⟩
    ·exact .inl e.symm
 refine ⟨h,Same.refl _,Same.refl _,fun a o e => .inl e,by simp [Qac,blkG],fun i p e => ?_,fun i xs e => ?_,fun i j xs ys a _ e => ?_,⟨fun i xs e => ?_,fun i j xs ys a _ e => ?_⟩⟩
 ·rcases key i _ e with z | ⟨j,p',e1,hi,e2,z⟩
  ·cases z
  ·cases z
   obtain ⟨v,h1,h2⟩:=er j (List.mem_of_getElem? e1) p e2
   refine ⟨v,?_,h2⟩
   unfold Qac
   rw [List.getElem?_append_right (by simpa using hi),List.length_replicate,List.getElem?_map,e1]
   show some ((σ[j]?).getD none)=some (some v)
   rw [h1]
   rfl
 ·rcases key i _ e with z | ⟨j,p',e1,hi,e2,z⟩ <;> cases z
 ·rcases key i _ e with z | ⟨j',p',e1,hi,e2,z⟩ <;> cases z
 ·rcases key i _ e with z | ⟨j,p',e1,hi,e2,z⟩ <;> cases z
 ·rcases key i _ e with z | ⟨j',p',e1,hi,e2,z⟩ <;> cases z
theorem noOw_set {γ:PEnv} {i:Nat} {p:PV} (h:∀ (j:Nat),XR γ j):∀ (j:Nat),XR (γ.set i (.fz p)) j:=fun j=>by
 by_cases z:i=j
 ·subst z
  by_cases hi:i < γ.length
  ·exact ⟨(fun xs e=>by rw [List.getElem?_set_self hi] at e;cases e),(fun xs e=>by rw [List.getElem?_set_self hi] at e;cases e)⟩
  ·exact ⟨(fun xs e=>by rw [List.getElem?_eq_none (by simpa using hi)] at e;cases e),(fun xs e=>by rw [List.getElem?_eq_none (by simpa using hi)] at e;cases e)⟩
 ·exact ⟨(fun xs e=>by rw [List.getElem?_set_ne z] at e;exact (h j).1 xs e),(fun xs e=>by rw [List.getElem?_set_ne z] at e;exact (h j).2 xs e)⟩
theorem Qlq {nt:Nat} {caps:List Nat} {γ:PEnv} {j:Nat} {t:Slot} (e:(blkG nt caps γ)[j]?=some t):t = .un∨∃ p,t = .fz p:=by
 unfold blkG at e
 by_cases hi:j < nt
 ·rw [List.getElem?_append_left (by simpa using hi),List.getElem?_replicate,if_pos hi] at e
  exact .inl (Option.some.inj e).symm
 ·rw [List.getElem?_append_right (by simpa using hi),List.length_replicate,List.getElem?_map] at e
  cases q:caps[j - nt]? with
  | none=>rw [q] at e;cases e
  | some k =>
   rw [q] at e
   have e:capS γ k=t:=Option.some.inj e
   unfold capS at e
   split at e
   ·exact .inr ⟨_,e.symm⟩
   ·exact .inl e.symm
theorem noOw_blk {nt:Nat} {caps:List Nat} {γ:PEnv}:∀ (j:Nat),XR (blkG nt caps γ) j:=fun j =>
 ⟨(fun xs e=>by rcases Qlq e with z | ⟨p,z⟩ <;> cases z),(fun xs e=>by rcases Qlq e with z | ⟨p,z⟩ <;> cases z)⟩
def NoOw (g:PV→PEnv→Option PEnv):Prop:=∀ p γ γ',g p γ=some γ'→(∀ (j:Nat),XR γ j)→∀ (j:Nat),XR γ' j
theorem QZ (i:Nat):NoOw (gSet i):=fun p γ γ' e h=>by cases e;exact noOw_set h
section
variable {X:Cx} {pins:List (Addr×Obj)} {scope:Scope} {N':List Str} {nt:Nat} {caps:List Nat} {tg iter elt:Expr} {ifs:List Expr} {pos:Pos} {ms ns ls:List Nat} {ts:List Nat}
 {mi:PEnv→Option (List PV)} {g:PV→PEnv→Option PEnv} {t:PEnv→Option Bool} {m:MEx}
theorem Qgt {K:PySem.W.Frag} {F1 H1:Hp} {J:It} {σ:St} {γ:PEnv} {xs ys:List PV} {Qd:Addr→Hp→Prop} (hts:∀ i∈ts,i < nt) (hno:NoOw g) (h1:Same F1 H1) (er:ERep K F1 σ γ caps) (it:ItRep K J F1 xs) (hl:xs.length≤LIM) (e:QbT g t m (blkG nt caps γ) xs=some ys)
  (w:∀ D vs H2 F2,Grow F1 H1 F2 H2→H1 D=none→F2 D=none→H2 D=some (.lst vs)→RepL K F2 ys vs→Qd D H2) :
  QfQ J nt caps (tMG K ts g) (tMT K ns t) (tM K ls m) σ H1 Qd:=by
 intro D hD
 have nF1:F1 D=none:=h1.free hD
 refine ⟨fun i k acc H=>k=xs.length - i∧i≤xs.length∧∃ F ps rest,Grow F1 H1 F H∧F D=none∧H D=some (.lst acc)∧RepL K F ps acc∧QbT g t m (blkG nt caps γ) (xs.drop i)=some rest∧ps++rest=ys∧ps.length≤i,
  ⟨xs.length,by simp,Nat.zero_le _,F1,[],ys,.side h1 hD,nF1,Qq,.nil,by simpa using e,rfl,Nat.le_refl _⟩,?_⟩
 rintro i k acc H ⟨rfl,hi,F,ps,rest,gr,nF,hH,rp,e,ey,hpl⟩
 by_cases hlt:i < xs.length
 ·refine .inr ⟨it.go i H hlt (gr.ext.trans gr.sub),fun x H3 y => ?_⟩
  obtain ⟨p,e3,hy⟩:=it.yld i H x H3 hlt (gr.ext.trans gr.sub) y
  obtain ⟨F3,g3,r3⟩:=hy F gr.ext gr.sub
  have ed:xs.drop i=p :: xs.drop (i + 1):=by
   obtain ⟨q1,q2⟩:=List.getElem?_eq_some_iff.mp e3
   rw [← q2]
   exact List.drop_eq_getElem_cons q1
  rw [ed] at e
  unfold QbT at e
  obtain ⟨γ4,e4,e⟩:=Qi e
  obtain ⟨b,e5,e⟩:=Qi e
  have g13:=gr.trans g3
  have S3:=blk_sr (nt:=nt) g3.sub (er.mono g13.ext)
  refine ⟨H3,F3,F3,_,p,γ4,S3,r3,e4,fun σ4 S4 l4 k4=>⟨⟨l4,fun n v hv => ?_⟩,?_⟩⟩
  ·by_cases hn:n∈ts
   ·have hn':=hts n hn
    unfold Qac at hv
    rw [List.getElem?_append_left (by simpa using hn'),List.getElem?_replicate,if_pos hn'] at hv
    cases hv
   ·rw [k4 n hn];exact hv
  ·have no4:=hno p _ γ4 e4 noOw_blk
   refine ⟨F3,γ4,b,g3.sub,S4.erep fun j _=>no4 j,e5,fun H5 F5 g5 => ?_⟩
   have nD:∀ {F' H':Hp},Grow F H F' H'→F' D=none:=fun {F' H'} gg=>by
    cases q:F' D with
    | none=>rfl
    | some o =>
     rcases gg.new D o q with z | z
     ·rw [nF] at z;cases z
     ·rw [hH] at z;cases z
   dsimp only
   cases b with
   | true =>
    rw [if_pos rfl] at e ⊢
    obtain ⟨yv,e6,e⟩:=Qi e
    obtain ⟨rest',e7,e8⟩:=Yp e
    refine ⟨F5,γ4,yv,g5.sub,(S4.erep fun j _=>no4 j).mono g5.ext,e6,fun v H6 F6 g6 q6 => ?_⟩
    have gg:=g3.trans (g5.trans g6)
    have hD6:H6 D=some (.lst acc):=gg.same _ _ hH
    have nF6:=nD gg
    refine ⟨hD6,?_,xs.length - (i + 1),by omega,rfl,hlt,F6,ps++[yv],rest',?_,nF6,Qq,(rp.mono gg.ext).snoc q6,e7,?_,?_⟩
    ·rw [rp.length]
     exact Nat.lt_of_lt_of_le (by omega) Zx
    ·have g16:=gr.trans gg
     refine ⟨g16.ext,fun a o q => ?_,fun a o q => ?_,g16.new⟩
     ·rw [Qr (Qs q nF6)];exact g16.sub a o q
     ·rw [Qr (Qs q hD)];exact g16.same a o q
    ·rw [List.append_assoc,List.singleton_append,e8];exact ey
    ·rw [List.length_append,List.length_singleton];omega
   | false =>
    rw [if_neg Bool.false_ne_true] at e ⊢
    have gg:=g3.trans g5
    exact ⟨xs.length - (i + 1),by omega,rfl,hlt,F5,ps,rest,gr.trans gg,nD gg,gg.same _ _ hH,rp.mono gg.ext,e,ey,by omega⟩
 ·have e':i=xs.length:=by omega
  subst e'
  rw [List.drop_length] at e
  cases e
  rw [List.append_nil] at ey
  subst ey
  exact .inl ⟨it.stop H (gr.ext.trans gr.sub),w D acc H F gr hD nF hH rp⟩
theorem YG (hc:X.calm=true) (ck:CompOk X.N X.env.scope scope N' nt caps) (hts:∀ i∈ts,i < nt) (hno:NoOw g) (hi:IM X ms tg iter mi)
  (hg:∀ pins cl C s H fp,GM (QaQ X pins N' (Zu X.env.scope scope) cl C s H fp) ts tg g)
  (ht:∀ pins cl C s H fp,IfM (QaQ X pins N' (Zu X.env.scope scope) cl C s H fp) ns ifs t)
  (he:∀ pins cl C s H fp,EM (QaQ X pins N' (Zu X.env.scope scope) cl C s H fp) ls elt m)
  (hs:∀ x,foldedSetIterable iter X.env x=pure x:=by intro _;rfl) (hrel:relabel scope X.env=Zu X.env.scope scope:=by rfl) :
  EO X (ms++caps) (.ListComp elt [⟨tg,iter,ifs,0⟩] scope pos) (XD mi nt caps g t m) :=
 PE.imp (pe_comp (g:=tMG X.K ts g) (tc:=tMT X.K ns t) (te:=tM X.K ls m) hc ck hi hg ht he hs hrel) fun σ H Q ⟨F,γ,ys,h1,h2,h3,w⟩=>by
  obtain ⟨xs,e1,h3⟩:=Qi h3
  have hl:xs.length≤LIM:=by
   by_cases c:xs.length≤LIM
   ·exact c
   ·rw [if_neg c] at h3;cases h3
  rw [if_pos hl] at h3
  refine ⟨F,γ,xs,h1,h2.left,e1,fun J H1 F1 g1 it => ?_⟩
  exact Qgt hts hno g1.sub (h2.right.mono g1.ext) it hl h3 fun D vs H2 F2 g2 n nF hH q=>w D vs H2 F2 (g1.trans g2) (g1.same.free n) nF hH q
theorem QhF {i:Nat} {y:Str} {py spos:Pos} (hN:X.N.Nodup) (hi':X.N[i]?=some y) (hy:X.env.scope.names.lookup y=some .local) (hc:X.calm=true) (ck:CompOkC X.N X.env.scope scope N' nt caps) (hts:∀ i∈ts,i < nt) (hno:NoOw g) (hi:IM X ms tg iter mi)
  (hg:∀ pins cl C s H fp,GM (XQ X (ownC scope) pins N' (Zu X.env.scope scope) cl C s H fp) ts tg g)
  (ht:∀ pins cl C s H fp,IfM (XQ X (ownC scope) pins N' (Zu X.env.scope scope) cl C s H fp) ns ifs t)
  (he:∀ pins cl C s H fp,EM (XQ X (ownC scope) pins N' (Zu X.env.scope scope) cl C s H fp) ls elt m)
  (hsw:swapsWith (.ListComp elt [⟨tg,iter,ifs,0⟩] scope pos) (some (.Name y py)) spos.line X.env=pure true:=by rfl)
  (hs:∀ x,foldedSetIterable iter X.env x=pure x:=by intro _;rfl) (hrel:relabel scope X.env=Zu X.env.scope scope:=by rfl) :
  SM X (.Assign [.Name y py] (.ListComp elt [⟨tg,iter,ifs,0⟩] scope pos) spos) (ZB (ms++caps) i (XD mi nt caps g t m)) :=
 PS.imp (QhJ (g:=tMG X.K ts g) (tc:=tMT X.K ns t) (te:=tM X.K ls m) hN hi' hy hc ck hi hg ht he hsw hs hrel) fun D σ H ⟨B,F₀,F,γ,o,S,e,ok⟩=>by
  obtain ⟨ys,h3,e2⟩:=Yp e
  subst e2
  obtain ⟨xs,e1,h3⟩:=Qi h3
  have hl:xs.length≤LIM:=by
   by_cases c:xs.length≤LIM
   ·exact c
   ·rw [if_neg c] at h3;cases h3
  rw [if_pos hl] at h3
  obtain ⟨F1,S1,x1,er⟩:=S.see (ms++caps)
  refine ⟨F1,γ,xs,S1.sub,er.left,e1,fun J H1 F2 g1 it => ?_⟩
  refine Qgt hts hno g1.sub (er.right.mono g1.ext) it hl h3 fun D vs H2 F3 g2 n nF hH q => ?_
  obtain ⟨F4,S4⟩:=S.setNew x1 S1 (g1.trans g2) (g1.same.free n) nF hH q i
  exact ok _ _ F4 S4
theorem Qeq {i:Nat} {y:Str} {py spos:Pos} (hN:X.N.Nodup) (hi':X.N[i]?=some y) (hy:X.env.scope.names.lookup y=some .local) (hc:X.calm=true) (ck:CompOk X.N X.env.scope scope N' nt caps) (hts:∀ i∈ts,i < nt) (hno:NoOw g) (hi:IM X ms tg iter mi)
  (hg:∀ pins cl C s H fp,GM (QaQ X pins N' (Zu X.env.scope scope) cl C s H fp) ts tg g)
  (ht:∀ pins cl C s H fp,IfM (QaQ X pins N' (Zu X.env.scope scope) cl C s H fp) ns ifs t)
  (he:∀ pins cl C s H fp,EM (QaQ X pins N' (Zu X.env.scope scope) cl C s H fp) ls elt m)
  (hsw:swapsWith (.ListComp elt [⟨tg,iter,ifs,0⟩] scope pos) (some (.Name y py)) spos.line X.env=pure true:=by rfl)
  (hs:∀ x,foldedSetIterable iter X.env x=pure x:=by intro _;rfl) (hrel:relabel scope X.env=Zu X.env.scope scope:=by rfl) :
  SM X (.Assign [.Name y py] (.ListComp elt [⟨tg,iter,ifs,0⟩] scope pos) spos) (ZB (ms++caps) i (XD mi nt caps g t m)):=QhF hN hi' hy hc ck.C hts hno hi (by rw [ck.eqC];exact hg) (by rw [ck.eqC];exact ht) (by rw [ck.eqC];exact he) hsw hs hrel
end
def YX (n:Nat) (ps:List PV):PEnv:=ps.map .fz++List.replicate (n - ps.length) .un
def outV:Out→Option PV
 | .nx _=>some .non
 | .rt p=>some p
 | .ro xs=>some (.lst xs)
 | _=>none
def outO:Out→Option (List PV)
 | .ro xs=>some xs
 | _=>none
def runV (N n:Nat) (m:MSt) (ps:List PV):Option PV:=if ps.length=n then (m (YX N ps)).bind outV else none
def runO (N n:Nat) (m:MSt) (ps:List PV):Option (List PV):=if ps.length=n then (m (YX N ps)).bind outO else none
theorem Qt {N n:Nat} {m:MSt}:∀ ps r,runV N n m ps=some r→ps.length=n:=fun ps r h=>by
 unfold runV at h
 by_cases c:ps.length=n
 ·exact c
 ·rw [if_neg c] at h;cases h
theorem runO_len {N n:Nat} {m:MSt}:∀ ps r,runO N n m ps=some r→ps.length=n:=fun ps r h=>by
 unfold runO at h
 by_cases c:ps.length=n
 ·exact c
 ·rw [if_neg c] at h;cases h
theorem QeU {K:PySem.W.Frag} {F H:Hp} {N:List Str} {ps:List PV} {vs:List V} (h:Same F H) (r:RepL K F ps vs):SR K H F F (Qaa N vs) H (YX N.length ps):=by
 have key:∀ (i:Nat) (t:Slot),(YX N.length ps)[i]?=some t→t = .un∨∃ p,ps[i]?=some p∧t = .fz p:=fun i t e=>by
  unfold YX at e
  by_cases hi:i < ps.length
  ·rw [List.getElem?_append_left (by simpa using hi),List.getElem?_map] at e
   cases q:ps[i]? with
   | none=>rw [q] at e;cases e
   | some p=>rw [q] at e;exact .inr ⟨p,rfl,(Option.some.inj e).symm⟩
  ·rw [List.getElem?_append_right (by simpa using hi),List.getElem?_replicate] at e
   split at e
   ·exact .inl (Option.some.inj e).symm
   ·cases e
 refine ⟨h,Same.refl _,Same.refl _,fun a o e => .inl e,?_,fun i p e => ?_,fun i xs e => ?_,fun i j xs ys a _ e => ?_,⟨fun i xs e => ?_,fun i j xs ys a _ e => ?_⟩⟩
 ·unfold Qaa YX
  rw [List.length_append,List.length_append,List.length_map,List.length_map,List.length_replicate,List.length_replicate,r.length]
 ·rcases key i _ e with z | ⟨p',e1,z⟩
  ·cases z
  ·cases z
   obtain ⟨v,h1,h2⟩:=r.get e1
   refine ⟨v,?_,h2⟩
   unfold Qaa
   have hi:i < vs.length:=(List.getElem?_eq_some_iff.mp h1).1
   rw [List.getElem?_append_left (by simpa using hi),List.getElem?_map,h1]
   rfl
 ·rcases key i _ e with z | ⟨p',e1,z⟩ <;> cases z
 ·rcases key i _ e with z | ⟨p',e1,z⟩ <;> cases z
 ·rcases key i _ e with z | ⟨p',e1,z⟩ <;> cases z
 ·rcases key i _ e with z | ⟨p',e1,z⟩ <;> cases z
section
variable {P:Program} {w:World} {K:PySem.W.Frag} {mg:Str→Option Value} {base:Heap}
theorem fnM {x qual:Str} {st:Stmt} {f:Addr} {fd:FuncData} {N ps:List Str} {k n:Nat} {m:MSt} (Fn:Fun K x qual st f fd) (Sc:FnScope N ps (Qe st)) (hn:ps.length=n)
  (hbody:∀ (cdv:Value) (A:Around) (outer:List Env) (s:Shared) (H:Hp) (E:XK),Room k (A.deeper (envOfC qual (Qe st) s.heap.objs.size f cdv)) →
   SMs (cxOf CX0 P w K mg base N qual (Qe st) f cdv A outer s H E).nox (Qm st) m):FnOk P w K mg base CX0 (k + 1) f fd ps (spM K n (runV N.length n m)):=by
 refine Fn.ok Sc (fun vs H Q E h=>by rw [h.1,hn]) fun cdv A outer s H vs Q E hr h => ?_
 refine ⟨_,hbody cdv A outer s H E hr,?_⟩
 obtain ⟨hl,F,qs,r,h1,h2,h3,wv⟩:=h
 unfold runV at h3
 have hq:qs.length=n:=by rw [← h2.length];exact hl
 rw [if_pos hq] at h3
 obtain ⟨o,e1,e2⟩:=Qi h3
 refine ⟨H,F,F,_,o,QeU h1 h2,e1,?_⟩
 cases o with
 | nx γ=>cases e2;exact fun σ' H' F' S=>wv .non H' F' S.gr QkB
 | rt p=>cases e2;exact fun v H' F' g q=>wv v H' F' g q
 | ro xs=>cases e2;exact fun a vs H' F' g n nF hH q=>wv.of_lst a vs H' F' g n nF hH q
 | bk γ=>cases e2
 | ct γ=>cases e2
theorem fnO {x qual:Str} {st:Stmt} {f:Addr} {fd:FuncData} {N ps:List Str} {k n:Nat} {m:MSt} (Fn:Fun K x qual st f fd) (Sc:FnScope N ps (Qe st)) (hn:ps.length=n)
  (hbody:∀ (cdv:Value) (A:Around) (outer:List Env) (s:Shared) (H:Hp) (E:XK),Room k (A.deeper (envOfC qual (Qe st) s.heap.objs.size f cdv)) →
   SMs (cxOf CX0 P w K mg base N qual (Qe st) f cdv A outer s H E).nox (Qm st) m):FnOk P w K mg base CX0 (k + 1) f fd ps (spO K n (runO N.length n m)):=by
 refine Fn.ok Sc (fun vs H Q E h=>by rw [h.1,hn]) fun cdv A outer s H vs Q E hr h => ?_
 refine ⟨_,hbody cdv A outer s H E hr,?_⟩
 obtain ⟨hl,F,qs,r,h1,h2,h3,wv⟩:=h
 unfold runO at h3
 have hq:qs.length=n:=by rw [← h2.length];exact hl
 rw [if_pos hq] at h3
 obtain ⟨o,e1,e2⟩:=Qi h3
 refine ⟨H,F,F,_,o,QeU h1 h2,e1,?_⟩
 cases o with
 | ro xs=>cases e2;exact fun a vs H' F' g n nF hH q=>wv a vs H' F' g n nF hH q
 | nx γ=>cases e2
 | rt p=>cases e2
 | bk γ=>cases e2
 | ct γ=>cases e2
end
section
variable {X:Cx} {e a b c:Expr} {es:List Expr} {ms ns ls:List Nat} {m m1 m2 m3:MEx} {pos p p2 p3:Pos} {x:Str} {id T:String}
def tyName:PV→String
 | .non => "NoneType"
 | .bl _ => "bool"
 | .int _ => "int"
 | .str _ => "str"
 | .tup _ => "tuple"
 | .lst _ => "list"
 | .obj _ _ _ => "object"
 | .opq _ => "object"
 | .dct _ => "object"
 | .dcw _ => "object"
def isO:PV→Bool
 | .obj _ _ _=>true
 | .opq _=>true
 | .dct _=>true
 | .dcw _=>true
 | _=>false
def isInt:PV→Bool
 | .int _=>true
 | .bl _=>true
 | _=>false
def isBl:PV→Bool
 | .bl _=>true
 | _=>false
def Qia:PV→Bool
 | .str _=>true
 | _=>false
def QjS:PV→Bool
 | .tup _=>true
 | _=>false
def isLst:PV→Bool
 | .lst _=>true
 | _=>false
def Isi (T:String) (f:PV→Bool):Prop:=∀ (p:PV) (K:PySem.W.Frag),isO p=false→PySem.W.kitOne K (.type (tyName p)) (.type T)=some (f p)
theorem QkX:Isi "int" isInt:=fun p K ho=>by cases p <;> first | (cases ho;done) | kernel_rfl
theorem isi_bl:Isi "bool" isBl:=fun p K ho=>by cases p <;> first | (cases ho;done) | kernel_rfl
theorem QkW:Isi "str" Qia:=fun p K ho=>by cases p <;> first | (cases ho;done) | kernel_rfl
theorem isi_tup:Isi "tuple" QjS:=fun p K ho=>by cases p <;> first | (cases ho;done) | kernel_rfl
theorem Qjv {pins:List (Addr×Obj)} {σ:St} {H F:Hp} {s:Shared} {A:Around} {E:Value→Shared→Prop} {Q:Value→Shared→Prop} {v:V} {u:Value} {q:PV} {f:PV→Bool} (I:Inv X pins σ H s) (hF:Same F H) (hi:Isi T f) (r:Rep X.K F q v) (rv:RelV v u)
  (ho:isO q=false) (h:∀ tk,Q (.bool (f q)) { s with toks:=tk }):wpAny (model X.prog X.w) A (call (.builtin "isinstance") [u,.type T]) Q E s:=by
 have e:=hi q X.K ho
 cases q with
 | non=>unfold Rep at r;subst r;cases rv;exact PySem.W.kia_one PySem.W.kitx_none I.kIn True.intro e (fun z=>nomatch z) h
 | bl y=>unfold Rep at r;subst r;cases rv;exact PySem.W.kia_one PySem.W.kitx_bool I.kIn True.intro e (fun z=>nomatch z) h
 | int y=>unfold Rep at r;subst r;obtain ⟨t,rfl⟩:=rv;exact PySem.W.kia_one PySem.W.kitx_int I.kIn True.intro e (fun z=>nomatch z) h
 | str y=>unfold Rep at r;subst r;obtain ⟨t,rfl⟩:=rv;exact PySem.W.kia_one PySem.W.kitx_str I.kIn True.intro e (fun z=>nomatch z) h
 | tup ys =>
  unfold Rep at r
  obtain ⟨a,vs,rfl,k2,_⟩:=r
  cases rv
  obtain ⟨its,_,⟨o,ho,hc,_⟩,_⟩:=I.tuple (hF.seqT k2)
  exact PySem.W.kia_one PySem.W.kitx_tuple I.kIn ⟨o,ho,hc⟩ e (fun z=>nomatch z) h
 | lst ys =>
  unfold Rep at r
  obtain ⟨a,vs,rfl,k2,_⟩:=r
  cases rv
  obtain ⟨its,_,⟨o,n,ho,hc,_⟩,_⟩:=I.list (hF.seq k2)
  exact PySem.W.kia_one PySem.W.kitx_list I.kIn ⟨o,ho,hc⟩ e (fun z=>nomatch z) h
 | obj=>cases ho
 | opq=>cases ho
 | dct=>cases ho
 | dcw=>cases ho
theorem Qin {f:PV→Bool} (hi:Isi T f):QaR X (.builtin "isinstance") (fun vs H Q=>∃ F v q,vs=[v,.ty T]∧Same F H∧Rep X.K F q v∧isO q=false∧Q (.bl (f q)) H):=by
 intro pins s σ H vs us Q I rs h
 obtain ⟨F,v,q,rfl,h1,h2,ho,h3⟩:=h
 obtain ⟨u,w,rfl,ru,rw'⟩:=vals2 rs
 obtain rfl:w=Value.type T:=rw'
 exact Qjv I h1 hi h2 ru ho fun tk=>⟨.bl (f q),H,I.tok tk,rfl,h3⟩
def isiK (f:PV→Bool) (q:PV):Option PV:=if isO q=false then some (.bl (f q)) else none
def mIsi (f:PV→Bool) (m:MEx):MEx:=fun γ=>(m γ).bind (isiK f)
theorem XN {f:PV→Bool} (hi:Isi T f) (h:EM X ms e m) (hg:Gl X "isinstance") (hm:X.mg "isinstance"=none) (hgT:Gl X x) (hmT:X.mg x=none) (hvT:bootBuiltins x=some (.type T))
  (hn:x ≠ "__name__":=by decide) (hdb:(x==("__debug__":Str))=false:=by decide)
  (hs1:starEach (e :: [.Name x p3]) X.env=(false,eval e X.env) :: starEach [.Name x p3] X.env:=by rfl) (hs2:starEach [.Name x p3] X.env=(false,eval (.Name x p3) X.env) :: starEach [] X.env:=by rfl) (hpl:(backTo pos (starEach [.Name x p3] X.env)).any (·.1)=false:=by rfl) :
  EM X ms (.Call (.Name "isinstance" p2) [e,.Name x p3] [] pos) (mIsi f m) :=
 PE.imp (Qav (Qin hi) hg hm (by kernel_rfl) (Qal h (Qal (pe_bltn (v := .ty T) hgT hmT hvT rfl hn hdb) Qef hs2) hs1) (by decide) (by decide) hs1 hpl) fun σ H Q ⟨F,γ,r,k1,k2,k3,w⟩=>by
  obtain ⟨q,e1,e2⟩:=Qi k3
  obtain ⟨ho,e2⟩:=Qz (show (if isO q=false then some (PV.bl (f q)) else none)=some r from e2)
  subst e2
  exact ⟨F,γ,q,k1,k2,e1,fun v H1 F1 g1 q1=>⟨F1,v,q,rfl,g1.sub,q1,ho,(w.go g1).here g1.sub (YH _)⟩⟩
def pLen:List PV→Option PV
 | [.lst xs]=>some (.int xs.length)
 | [.tup xs]=>some (.int xs.length)
 | [.str z]=>if z.length≤LIM then some (.int z.length) else none
 | _=>none
theorem Zk:QgD X (.builtin "len") pLen:=by
 intro pins s σ H vs us Q I rs h
 obtain ⟨F,ps,r,h1,h2,h3,w⟩:=h
 refine call_len pins s σ H vs us Q I rs ?_
 unfold pLen at h3
 split at h3
 ·cases h3
  unfold RepL at h2
  obtain ⟨v,t,rfl,h2,ht⟩:=h2
  unfold RepL at ht
  subst ht
  unfold Rep at h2
  obtain ⟨a,us,rfl,k2,k3⟩:=h2
  exact ⟨.ref a,_,rfl,.inl ⟨us,h1.seq k2,k3.length.symm⟩,w.here h1 (ZD _)⟩
 ·cases h3
  unfold RepL at h2
  obtain ⟨v,t,rfl,h2,ht⟩:=h2
  unfold RepL at ht
  subst ht
  unfold Rep at h2
  obtain ⟨a,us,rfl,k2,k3⟩:=h2
  exact ⟨.ref a,_,rfl,.inr ⟨us,h1.seqT k2,k3.length.symm⟩,w.here h1 (ZD _)⟩
 ·rename_i z
  obtain ⟨c,rfl⟩:=Qz h3
  unfold RepL at h2
  obtain ⟨v,t,rfl,h2,ht⟩:=h2
  unfold RepL at ht
  subst ht
  unfold Rep at h2
  subst h2
  exact ⟨.str z,_,rfl,⟨Nat.le_trans c Zx,rfl⟩,w.here h1 (ZD _)⟩
 ·cases h3
def QfD:List PV→Option (List PV)
 | [.lst xs]=>some xs
 | [.tup xs]=>some xs
 | _=>none
def Xe:List PV→Option PV
 | [.lst xs]=>some (.tup xs)
 | [.tup xs]=>some (.tup xs)
 | _=>none
theorem co_list:QgC X (.type "list") QfD:=by
 intro pins s σ H vs us Q I rs h
 obtain ⟨F,ps,r,h1,h2,h3,w⟩:=h
 refine QgQ pins s σ H vs us Q I rs ?_
 unfold QfD at h3
 split at h3
 ·cases h3
  unfold RepL at h2
  obtain ⟨v,t,rfl,h2,ht⟩:=h2
  unfold RepL at ht
  subst ht
  unfold Rep at h2
  obtain ⟨a,us,rfl,k2,k3⟩:=h2
  exact ⟨a,us,rfl,.inl (h1.seq k2),fun l hl=>w l us _ F (.side h1 hl) hl (h1.free hl) Qq k3⟩
 ·cases h3
  unfold RepL at h2
  obtain ⟨v,t,rfl,h2,ht⟩:=h2
  unfold RepL at ht
  subst ht
  unfold Rep at h2
  obtain ⟨a,us,rfl,k2,k3⟩:=h2
  exact ⟨a,us,rfl,.inr (h1.seqT k2),fun l hl=>w l us _ F (.side h1 hl) hl (h1.free hl) Qq k3⟩
 ·cases h3
theorem Ye:QgD X (.type "tuple") Xe:=by
 intro pins s σ H vs us Q I rs h
 obtain ⟨F,ps,r,h1,h2,h3,w⟩:=h
 refine Qfz pins s σ H vs us Q I rs ?_
 unfold Xe at h3
 split at h3
 ·cases h3
  unfold RepL at h2
  obtain ⟨v,t,rfl,h2,ht⟩:=h2
  unfold RepL at ht
  subst ht
  unfold Rep at h2
  obtain ⟨a,us,rfl,k2,k3⟩:=h2
  refine ⟨a,us,rfl,.inl ⟨h1.seq k2,fun l hl=>w _ _ _ (.laid h1 hl) ?_⟩⟩
  unfold Rep
  exact ⟨l,us,rfl,.of Qq,k3.mono (Grow.laid h1 hl).ext⟩
 ·cases h3
  unfold RepL at h2
  obtain ⟨v,t,rfl,h2,ht⟩:=h2
  unfold RepL at ht
  subst ht
  obtain ⟨a,us,rfl,k2,k3⟩:=(by unfold Rep at h2;exact h2:∃ a us,v = .ref a∧SqT X.K F a us∧RepL X.K F _ us)
  exact ⟨a,us,rfl,.inr ⟨h1.seqT k2,w.here h1 h2⟩⟩
 ·cases h3
def pMin:List PV→Option PV
 | [.int i,.int j]=>some (.int (if j < i then j else i))
 | _=>none
theorem cm_min (hc:X.calm=true):QgD X (.builtin "min") pMin:=by
 intro pins s σ H vs us Q I rs h
 obtain ⟨F,ps,r,h1,h2,h3,w⟩:=h
 refine Qms hc pins s σ H vs us Q I rs ?_
 unfold pMin at h3
 split at h3
 ·cases h3
  unfold RepL at h2
  obtain ⟨v,t,rfl,h2,ht⟩:=h2
  unfold RepL at ht
  obtain ⟨v',t',rfl,h2',ht⟩:=ht
  unfold RepL at ht
  subst ht
  unfold Rep at h2 h2'
  subst h2 h2'
  exact ⟨_,_,rfl,w.here h1 (ZD _)⟩
 ·cases h3
end
def Qcy:List PV→Option (List Int)
 | []=>some []
 | .int i :: xs=>(Qcy xs).map (i :: ·)
 | _ :: _=>none
def Yc:List PV→Option (List Str)
 | []=>some []
 | .str i :: xs=>(Yc xs).map (i :: ·)
 | _ :: _=>none
theorem Qmc (ns:List Int):Qcy (ns.map .int)=some ns:=by
 induction ns with
 | nil=>rfl
 | cons n ns ih=>simp [Qcy,ih]
theorem strs?_map (ns:List Str):Yc (ns.map .str)=some ns:=by
 induction ns with
 | nil=>rfl
 | cons n ns ih=>simp [Yc,ih]
theorem Qgj:∀ {xs:List PV} {ns:List Int},Qcy xs=some ns→xs=ns.map .int
 | [],ns,h=>by cases h;rfl
 | x :: xs,ns,h=>by
  cases x with
  | int i =>
   unfold Qcy at h
   cases e:Qcy xs with
   | none=>rw [e] at h;cases h
   | some ms=>rw [e] at h;cases h;rw [Qgj e];rfl
  | _=>cases h
theorem Qan:∀ {xs:List PV} {ns:List Str},Yc xs=some ns→xs=ns.map .str
 | [],ns,h=>by cases h;rfl
 | x :: xs,ns,h=>by
  cases x with
  | str i =>
   unfold Yc at h
   cases e:Yc xs with
   | none=>rw [e] at h;cases h
   | some ms=>rw [e] at h;cases h;rw [Qan e];rfl
  | _=>cases h
theorem Qgc {K:PySem.W.Frag} {F:Hp}:∀ {ns:List Int} {vs:List V},RepL K F (ns.map .int) vs→vs=ns.map V.int
 | [],vs,h=>by rw [List.map_nil] at h;unfold RepL at h;exact h
 | n :: ns,vs,h=>by
  rw [List.map_cons] at h
  unfold RepL at h
  obtain ⟨v,r,rfl,h2,h3⟩:=h
  unfold Rep at h2
  rw [h2,Qgc h3]
  rfl
theorem Qci {K:PySem.W.Frag} {F:Hp}:∀ (ns:List Int),RepL K F (ns.map .int) (ns.map V.int)
 | [] => .nil
 | n :: ns => .cons (ZD n) (Qci ns)
theorem XL {K:PySem.W.Frag} {F:Hp}:∀ {ns:List Str} {vs:List V},RepL K F (ns.map .str) vs→vs=ns.map V.str
 | [],vs,h=>by rw [List.map_nil] at h;unfold RepL at h;exact h
 | n :: ns,vs,h=>by
  rw [List.map_cons] at h
  unfold RepL at h
  obtain ⟨v,r,rfl,h2,h3⟩:=h
  unfold Rep at h2
  rw [h2,XL h3]
  rfl
theorem YM {K:PySem.W.Frag} {F:Hp}:∀ (ns:List Str),RepL K F (ns.map .str) (ns.map V.str)
 | [] => .nil
 | n :: ns => .cons (Qak n) (YM ns)
theorem Xp:∀ {ns:List Str} {us:List Value},Vals (ns.map V.str) us→StrsAre us ns
 | [],us,r=>by rw [List.map_nil] at r;cases r;exact .nil
 | n :: ns,us,r=>by
  rw [List.map_cons] at r
  cases r with
  | cons r1 r2 =>
   obtain ⟨t,e⟩:=r1
   subst e
   exact .cons n t (Xp r2)
theorem QbE:∀ {vs:List Value} {ns:List Str},StrsAre vs ns→Vals (ns.map V.str) vs
 | _,_,.nil => .nil
 | _,_,.cons n t h => .cons ⟨t,rfl⟩ (QbE h)
section
variable {X:Cx} {e a b c:Expr} {es:List Expr} {ms ns ls:List Nat} {m m1 m2 m3:MEx} {pos p p2 p3:Pos} {x:Str} {id T:String}
def Qec (ns:List Int):List Int:=ns.mergeSort fun a b=>decide (a≤b)
theorem Qju (ns:List Int):(Qec ns).Perm ns:=List.mergeSort_perm _ _
theorem isort_le (ns:List Int):(Qec ns).Pairwise (· ≤ ·):=by
 have:=List.pairwise_mergeSort (le:=fun (a b:Int)=>decide (a≤b)) (fun a b c h1 h2=>by simp at h1 h2 ⊢;omega) (fun a b=>by simp;omega) ns
 exact this.imp fun h=>by simpa using h
theorem QiP {ns ms:List Int} (hp:ms.Perm ns) (hs:ms.Pairwise (· ≤ ·)):ms=Qec ns :=
 List.Perm.eq_of_pairwise (fun x y _ _ h1 h2=>Int.le_antisymm h1 h2) hs (isort_le ns) (hp.trans (Qju ns).symm)
def sLe (a b:Str):Bool := !decide (b.cps.toList < a.cps.toList)
def QM (ns:List Str):List Str:=ns.mergeSort sLe
theorem lt_tri (a b:List Nat) (h1:¬ a < b) (h2:¬ b < a):a=b:=by
 have h3:b≤a:=h1
 have h4:a≤b:=h2
 exact List.le_antisymm h4 h3
theorem Qds (a b c:Str) (h1:sLe a b=true) (h2:sLe b c=true):sLe a c=true:=by
 unfold sLe at *
 simp only [Bool.not_eq_true',decide_eq_false_iff_not] at *
 have h3:a.cps.toList≤b.cps.toList:=h1
 have h4:b.cps.toList≤c.cps.toList:=h2
 exact List.le_trans h3 h4
theorem Qga (a b:Str):(sLe a b||sLe b a)=true:=by
 unfold sLe
 rw [Bool.or_eq_true]
 simp only [Bool.not_eq_true',decide_eq_false_iff_not]
 rcases List.le_total a.cps.toList b.cps.toList with h | h
 ·exact .inl h
 ·exact .inr h
theorem QeX {a b:Str} (h1:sLe a b=true) (h2:sLe b a=true):a=b:=by
 unfold sLe at *
 simp only [Bool.not_eq_true',decide_eq_false_iff_not] at *
 have e:=lt_tri _ _ h2 h1
 obtain ⟨a⟩:=a
 obtain ⟨b⟩:=b
 have e':a=b:=by simpa using e
 rw [e']
theorem Qw (ns:List Str):(QM ns).Perm ns:=List.mergeSort_perm _ _
theorem Qau (ns:List Str):(QM ns).Pairwise (fun a b=>sLe a b=true):=List.pairwise_mergeSort (le:=sLe) Qds Qga ns
theorem QbC {ns ms:List Str} (hp:ms.Perm ns) (hs:ms.Pairwise (fun a b=>sLe a b=true)):ms=QM ns :=
 List.Perm.eq_of_pairwise (fun x y _ _ h1 h2=>QeX h1 h2) hs (Qau ns) (hp.trans (Qw ns).symm)
theorem QaC:∀ (l:List Str) (x:Str),risingS x l=true→(x :: l).Pairwise (fun a b=>sLe a b=true)
 | [],x,_=>by simp
 | y :: l,x,h=>by
  unfold risingS at h
  rw [Bool.and_eq_true,ltCps_eq] at h
  have ih:=QaC l y h.2
  have h1:sLe x y=true:=h.1
  rw [List.pairwise_cons] at ih ⊢
  refine ⟨fun z hz => ?_,by rw [List.pairwise_cons];exact ih⟩
  rcases List.mem_cons.mp hz with rfl | hz
  ·exact h1
  ·exact Qds _ _ _ h1 (ih.1 z hz)
theorem Xy (l:List Str) (h:sortedS l=true):l.Pairwise (fun a b=>sLe a b=true):=by
 cases l with
 | nil=>simp
 | cons x l=>exact QaC l x h
def Qea:List PV→Option (List PV)
 | [.lst xs]=>match Qcy xs with
  | some ns=>if ns.length < 64 then some ((Qec ns).map .int) else none
  | none=>match Yc xs with
   | some ss=>if ss.length < 64 then some ((QM ss).map .str) else none
   | none=>none
 | _=>none
theorem Qap:QgC X (.builtin "sorted") Qea:=by
 intro pins s σ H vs us Q I rs h
 obtain ⟨F,ps,r,h1,h2,h3,w⟩:=h
 unfold Qea at h3
 split at h3
 ·rename_i xs
  unfold RepL at h2
  obtain ⟨v,t,rfl,h2,ht⟩:=h2
  unfold RepL at ht
  subst ht
  unfold Rep at h2
  obtain ⟨a,ws,rfl,k2,k3⟩:=h2
  obtain ⟨u,rfl,ru⟩:=XH rs
  cases ru
  obtain ⟨its,rv,pl,_⟩:=I.list (h1.seq k2)
  have lay:∀ (out:Array Value) (ys:List V) (zs:List PV),Vals ys out.toList→ys.length≤sizeLine→RepL X.K F zs ys→zs=r→EP X pins σ Q (.ref (s.heap.objs.size + 1)) { s with heap:=sortedAll s.heap its out }:=fun out ys zs hv hz hr e=>by
   subst e
   obtain ⟨k,he⟩:=sortedAll_at s.heap its out
   have hn:H (s.heap.objs.size + 1)=none:=I.hok.fresh (Nat.le_succ _)
   refine ⟨.ref (s.heap.objs.size + 1),upd H (s.heap.objs.size + 1) (.lst ys),I.laid (t':=s.toks) (fun b o q=>sortedAll_old q) (Nat.le_succ _) ⟨hz,out.toList,k,hv,?_⟩,rfl,?_⟩
   ·simpa [seqObj] using he
   ·exact w _ ys _ F (.side h1 hn) hn (h1.free hn) Qq hr
  split at h3
  ·rename_i ns hns
   obtain ⟨c,rfl⟩:=Qz h3
   have e2:=Qgj hns
   subst e2
   have e3:=Qgc k3
   subst e3
   have hl:=rv.length
   rw [List.length_map] at hl
   refine sorted_ints pl.isList (Qjy rv) (by omega) fun out ns' a1 a2 a3 => ?_
   have e4:=QiP a2 a3
   refine lay out (ns'.map V.int) (ns'.map .int) (Qdo a1) ?_ (Qci ns') (by rw [e4])
   rw [List.length_map,a2.length_eq]
   exact Nat.le_of_lt (Nat.lt_trans c (by decide))
  ·split at h3
   ·rename_i ss hss
    obtain ⟨c,rfl⟩:=Qz h3
    have e2:=Qan hss
    subst e2
    have e3:=XL k3
    subst e3
    have hl:=rv.length
    rw [List.length_map] at hl
    refine sorted_strs pl.isList (Xp rv) (by omega) fun out ns' a1 a2 a3 => ?_
    have e4:=QbC a2 (Xy _ a3)
    refine lay out (ns'.map V.str) (ns'.map .str) (QbE a1) ?_ (YM ns') (by rw [e4])
    rw [List.length_map,a2.length_eq]
    exact Nat.le_of_lt (Nat.lt_trans c (by decide))
   ·cases h3
 ·cases h3
def rMt (K:PySem.W.Frag) (g:PV→List PV→Option PV):V→List V→Hp→VK→Prop:=fun x vs H Q=>∃ F p ps r,Same F H∧Rep K F p x∧RepL K F ps vs∧g p ps=some r∧Wv K F H r Q
def rMtO (K:PySem.W.Frag) (g:PV→List PV→Option (List PV)):V→List V→Hp→VK→Prop:=fun x vs H Q=>∃ F p ps r,Same F H∧Rep K F p x∧RepL K F ps vs∧g p ps=some r∧Wo K F H r Q
def tyOk (T:String):PV→Bool
 | .str _=>T == "str"
 | .int _=>T == "int"
 | .lst _=>T == "list"
 | _=>false
def mMt (T:String) (g:PV→List PV→Option α) (m:MEx) (ma:PEnv→Option (List PV)):PEnv→Option α:=fun γ=>(m γ).bind fun p=>if tyOk T p=true then (ma γ).bind fun ps=>g p ps else none
theorem Qkr {K:PySem.W.Frag} {F H:Hp} {p:PV} {v:V} (h:Same F H) (r:Rep K F p v) (t:tyOk T p=true):tyV K T v H:=by
 cases p with
 | str z=>unfold Rep at r;subst r;exact eq_of_beq t
 | int z=>unfold Rep at r;subst r;exact eq_of_beq t
 | lst xs=>unfold Rep at r;obtain ⟨a,vs,rfl,k2,_⟩:=r;exact .inl ⟨eq_of_beq t,vs,h.seq k2⟩
 | _=>cases t
variable {o:Expr} {ma:PEnv→Option (List PV)}
theorem em_mt {g:PV→List PV→Option PV} (h:EM X ms o m) (ha:AM X ns (e :: es) ma) {name:Str} {apos cpos:Pos}
  (hp:PE X (.Call (.Attribute o name apos) (e :: es) [] cpos) (tBM X.K T (rMt X.K g) (tM X.K ms m) (tMA X.K ns ma))):EM X (ms++ns) (.Call (.Attribute o name apos) (e :: es) [] cpos) (mMt T g m ma) :=
 PE.imp hp fun σ H Q ⟨F,γ,r,k1,k2,k3,w⟩=>by
  obtain ⟨p,e1,k3⟩:=Qi k3
  have c:tyOk T p=true:=by
   by_cases c:tyOk T p=true
   ·exact c
   ·rw [if_neg c] at k3;cases k3
  rw [if_pos c] at k3
  obtain ⟨ps,e2,k3⟩:=Qi k3
  refine ⟨F,γ,p,k1,k2.left,e1,fun v H1 F1 g1 q1=>⟨Qkr g1.sub q1 c,F1,γ,ps,g1.sub,k2.right.mono g1.ext,e2,fun vs H2 F2 g2 q2 => ?_⟩⟩
  exact ⟨F2,p,ps,r,g2.sub,q1.mono g2.ext,q2,k3,w.go (g1.trans g2)⟩
theorem eo_mt {g:PV→List PV→Option (List PV)} (h:EM X ms o m) (ha:AM X ns (e :: es) ma) {name:Str} {apos cpos:Pos}
  (hp:PE X (.Call (.Attribute o name apos) (e :: es) [] cpos) (tBM X.K T (rMtO X.K g) (tM X.K ms m) (tMA X.K ns ma))):EO X (ms++ns) (.Call (.Attribute o name apos) (e :: es) [] cpos) (mMt T g m ma) :=
 PE.imp hp fun σ H Q ⟨F,γ,r,k1,k2,k3,w⟩=>by
  obtain ⟨p,e1,k3⟩:=Qi k3
  have c:tyOk T p=true:=by
   by_cases c:tyOk T p=true
   ·exact c
   ·rw [if_neg c] at k3;cases k3
  rw [if_pos c] at k3
  obtain ⟨ps,e2,k3⟩:=Qi k3
  refine ⟨F,γ,p,k1,k2.left,e1,fun v H1 F1 g1 q1=>⟨Qkr g1.sub q1 c,F1,γ,ps,g1.sub,k2.right.mono g1.ext,e2,fun vs H2 F2 g2 q2 => ?_⟩⟩
  exact ⟨F2,p,ps,r,g2.sub,q1.mono g2.ext,q2,k3,w.go (g1.trans g2)⟩
def mMt0 (T:String) (g:PV→List PV→Option α) (m:MEx):PEnv→Option α:=fun γ=>(m γ).bind fun p=>if tyOk T p=true then g p [] else none
def QhN:PV→List PV→Option PV
 | .str x,[.lst xs]=>match Yc xs with
  | some ys=>if (ys.map (·.length)).sum + ys.length * x.length≤LIM then some (.str (Txt.join x ys)) else none
  | none=>none
 | _,_=>none
theorem mm_join:MtR X "str.join" (rMt X.K QhN):=by
 intro pins s σ H x xs v us Q I rx rs h
 obtain ⟨F,p,ps,r,h1,h2,h3,h4,w⟩:=h
 unfold QhN at h4
 split at h4
 ·rename_i sep zs
  split at h4
  ·rename_i ys hys
   obtain ⟨c,rfl⟩:=Qz h4
   unfold Rep at h2
   subst h2
   obtain ⟨t,rfl⟩:=rx
   unfold RepL at h3
   obtain ⟨v1,r1,rfl,h3,ht⟩:=h3
   unfold RepL at ht
   subst ht
   unfold Rep at h3
   obtain ⟨a,ws,rfl,k2,k3⟩:=h3
   obtain ⟨u,rfl,ru⟩:=XH rs
   cases ru
   have e2:=Qan hys
   subst e2
   have e3:=XL k3
   subst e3
   obtain ⟨its,rv,pl,_⟩:=I.list (h1.seq k2)
   refine join_list pl.isList (by simpa using Xp rv) (Nat.le_trans c (by decide)) fun t' k=>⟨.str _,H,I.tok _,⟨_,rfl⟩,w.here h1 (Qak _)⟩
  ·cases h4
 ·cases h4
theorem Qli {apos cpos:Pos} (h:EM X ms o m) (ha:AM X ns (e :: es) ma) (hbase:attributeBase o "join" X.env (eval o X.env)=eval o X.env:=by rfl)
  (hfew:((backTo cpos (starEach (e :: es) X.env)).all (fun x => !x.1)&&(backToKw cpos (keywordEach [] X.env)).all (fun x=>x.1.isSome)
   && decide ((e :: es).length + ([]:List Keyword).length + (if ([]:List Keyword).isEmpty then 0 else 1) < 30))=true:=by rfl)
  (hline:(apos.endLine==cpos.line)=true:=by rfl) (hs:starEach (e :: es) X.env=(false,eval e X.env) :: starEach es X.env:=by rfl) (hplain:(backTo cpos (starEach es X.env)).any (·.1)=false:=by rfl) :
  EM X (ms++ns) (.Call (.Attribute o "join" apos) (e :: es) [] cpos) (mMt "str" QhN m ma) :=
 em_mt h ha (Qbq PySem.F.plainAttrs_str PySem.F.slot_str_join PySem.F.type_str_join mm_join h ha hbase hfew hline hs hplain)
def rSlS:V→Option Int→Option Int→Hp→VK→Prop:=fun x lo hi H Q=>∃ z,x = .str z∧z.length≤sizeLine∧Q (.str (Txt.slice z lo hi)) H
theorem Qjw {h:Heap} {a:Addr} {vl vu:Value} {lo hi:Option Int} (hs:h.IsSliceOf a vl vu .none) (pl:IsPart vl lo) (pu:IsPart vu hi):∃ l u,h.IsSlice a l u none∧l.map (·.1)=lo∧u.map (·.1)=hi:=by
 cases pl with
 | none =>
  cases pu with
  | none=>exact ⟨none,none,hs,rfl,rfl⟩
  | int j t=>exact ⟨none,some (j,t),hs,rfl,rfl⟩
 | int i t' =>
  cases pu with
  | none=>exact ⟨some (i,t'),none,hs,rfl,rfl⟩
  | int j t=>exact ⟨some (i,t'),some (j,t),hs,rfl,rfl⟩
theorem sl_str:SlR X rSlS:=by
 intro pins s σ H x v vl vu lo hi sl Q I rx hs pl pu h
 obtain ⟨z,rfl,hz,q⟩:=h
 obtain ⟨t,rfl⟩:=rx
 obtain ⟨l,u,hsl,rfl,rfl⟩:=Qjw hs pl pu
 refine ⟨"str",_,PySem.F.slot_str_getitem.lookup,typeIs_str _ _ _,wpAny_getItem_str_slice (l:=l) (u:=u) (st:=none) hsl rfl ?_⟩
 exact post_val_or_str ⟨Nat.le_trans (Txt.slice_le z _ _) hz,fun t' k=>⟨.str _,H,I.tok _,⟨_,rfl⟩,q⟩⟩
def QjP:PV→Option Int→Option Int→Option PV
 | .str z,lo,hi=>if z.length≤LIM then some (.str (Txt.slice z lo hi)) else none
 | _,_,_=>none
variable {lo hi:Option Expr} {ml mh:PEnv→Option (Option Int)}
theorem Qha (he:EM X ms e m) (hl:OM X ns lo ml) (hh:OM X ls hi mh):EM X (ms++(ns++ls)) (.Subscript e (.Slice lo hi none p2) pos) (sl3 QjP m ml mh):=by
 refine PE.imp (QiB sl_str he hl hh) fun σ H Q ⟨F,γ,r,h1,h2,h3,w⟩ => ?_
 obtain ⟨x,e1,h3⟩:=Qi h3
 obtain ⟨l,e2,h3⟩:=Qi h3
 obtain ⟨h,e3,h3⟩:=Qi h3
 refine ⟨F,γ,x,h1,h2.left,e1,fun vx H1 F1 g1 r1=>⟨F1,γ,l,g1.sub,h2.right.left.mono g1.ext,e2,fun H2 F2 g2=>⟨F2,γ,h,g2.sub,h2.right.right.mono (g1.ext.trans g2.ext),e3,fun H3 F3 g3 => ?_⟩⟩⟩
 have g:=g1.trans (g2.trans g3)
 cases x with
 | str z =>
  have h3:(if z.length≤LIM then some (PV.str (Txt.slice z l h)) else none)=some r:=h3
  obtain ⟨c,rfl⟩:=Qz h3
  unfold Rep at r1
  exact ⟨z,r1,Nat.le_trans c Zx,(w.go g).here g.sub (Qak _)⟩
 | _=>cases h3
end
def Qhd (N:List Str) (osc scope:Scope) (N':List Str) (nt:Nat) (caps:List Nat):Bool :=
 (scope.kind == .function)&&scope.names.all (fun x=>x.2 != NameKind.cell)&&scope.names.all (fun x=>x.2 != NameKind.local||scope.names.lookup x.1==some .local) &&
 scope.names.all (fun x=>x.2 != NameKind.free||(osc.names.lookup x.1==some .cell||osc.names.lookup x.1==some .free))&&(N'.length==nt + caps.length) &&
 (caps.zip (N'.drop nt)).all (fun p=>N[p.1]?==some p.2&&scope.names.lookup p.2==some NameKind.free)
theorem Qmr {N:List Str} {osc scope:Scope} {N':List Str} {nt:Nat} {caps:List Nat} (h:Qhd N osc scope N' nt caps=true):CompOk N osc scope N' nt caps:=by
 unfold Qhd at h
 simp only [Bool.and_eq_true,List.all_eq_true,Bool.or_eq_true,bne_iff_ne,beq_iff_eq,ne_eq] at h
 obtain ⟨⟨⟨⟨⟨h1,h2⟩,h3⟩,h4⟩,h5⟩,h6⟩:=h
 refine ⟨h1,h2,fun x hx e => ?_,fun x hx e => ?_,h5,h6⟩
 ·rcases h3 x hx with z | z
  ·exact absurd e z
  ·exact z
 ·rcases h4 x hx with z | z
  ·exact absurd e z
  ·exact z
theorem Qas {X:Cx} {N:List Str} {osc scope:Scope} {N':List Str} {nt:Nat} {caps:List Nat} (h1:X.N=N) (h2:X.env.scope=osc) (h:Qhd N osc scope N' nt caps=true):CompOk X.N X.env.scope scope N' nt caps:=by
 rw [h1,h2];exact Qmr h
def Cal (P:Program) (w:World) (K:PySem.W.Frag) (mg:Str→Option Value) (base:Heap) (k:Nat) (x:Str) (n:Nat) (g:List PV→Option PV):Prop :=
 ∃ f fd ps,FnOk P w K mg base CX0 k f fd ps (spM K n g)∧mg x=some (.ref f)∧PySem.W.keepIn K (.ref f)=true∧Qbx K fd ps []
def CalO (P:Program) (w:World) (K:PySem.W.Frag) (mg:Str→Option Value) (base:Heap) (k:Nat) (x:Str) (n:Nat) (g:List PV→Option (List PV)):Prop :=
 ∃ f fd ps,FnOk P w K mg base CX0 k f fd ps (spO K n g)∧mg x=some (.ref f)∧PySem.W.keepIn K (.ref f)=true∧Qbx K fd ps []
section
variable {X:Cx} {e:Expr} {es:List Expr} {ms:List Nat} {ma:PEnv→Option (List PV)} {x:Str} {p pos:Pos} {k j n:Nat}
theorem Qx {g:List PV→Option PV} (c:Cal X.prog X.w X.K X.mg X.base k x n g) (hn:∀ ps r,g ps=some r→ps.length=n) (hr:Room k X.A) (hg:Gl X x)
  (ha:AM X ms (e :: es) ma) (hdb:(x==("__debug__":Str))=false:=by decide) (he:starEach (e :: es) X.env=(false,eval e X.env) :: starEach es X.env:=by rfl) (hpl:(backTo pos (starEach es X.env)).any (·.1)=false:=by rfl) :
  EM X ms (.Call (.Name x p) (e :: es) [] pos) (Qj g ma):=by
 obtain ⟨f,fd,ps,F,hm,hk,hb⟩:=c
 exact em_call F hn hr hg hm hk hb ha hdb he hpl
theorem eo_cal {g:List PV→Option (List PV)} (c:CalO X.prog X.w X.K X.mg X.base k x n g) (hn:∀ ps r,g ps=some r→ps.length=n) (hr:Room k X.A) (hg:Gl X x)
  (ha:AM X ms (e :: es) ma) (hdb:(x==("__debug__":Str))=false:=by decide) (he:starEach (e :: es) X.env=(false,eval e X.env) :: starEach es X.env:=by rfl) (hpl:(backTo pos (starEach es X.env)).any (·.1)=false:=by rfl) :
  EO X ms (.Call (.Name x p) (e :: es) [] pos) (Qj g ma):=by
 obtain ⟨f,fd,ps,F,hm,hk,hb⟩:=c
 exact eo_call F hn hr hg hm hk hb ha hdb he hpl
theorem Xh {m:MEx} (h:EM X ms e m) (hs:starEach [e] X.env=(false,eval e X.env) :: starEach [] X.env:=by rfl):PA X [e] (tMA X.K ms (Qc m aNil)):=by
 have z:=Qb h Qf hs
 unfold AM at z
 rw [List.append_nil] at z
 exact z
theorem law_sp {K:PySem.W.Frag} {H:Hp} {a:Addr} {ns:List Int} {g:List PV→Option PV} {E:XK} (h:∀ ns:List Int,ns.length≤63→g [.lst (ns.map .int)]=some (.bl true)) (hl:ns.length≤63) (hS:SqL K H a (ns.map V.int)) :
  spM K 1 g [.ref a] H (fun v _=>v = .bl true) E:=by
 refine ⟨rfl,H,[.lst (ns.map .int)],.bl true,Same.refl _,.cons ?_ .nil,h ns hl,fun v H' F' _ r => ?_⟩
 ·unfold Rep
  exact ⟨a,ns.map V.int,rfl,hS,Qci ns⟩
 ·unfold Rep at r
  exact r
end
def pN (n:Nat):PV := .int (n:Int)
def mN (n:Nat):MEx:=mC (pN n)
def QfE:List PV→Option (List PV)
 | [.lst xs]=>some (xs.zipIdx.map fun x => .tup [pN x.2,x.1])
 | _=>none
def pEnumT:List PV→Option (List PV)
 | [.tup xs]=>some (xs.zipIdx.map fun x => .tup [pN x.2,x.1])
 | _=>none
def iSeq (m:MEx):PEnv→Option (List PV):=fun γ=>(m γ).bind fun p=>match p with
 | .lst xs=>some xs
 | .tup xs=>some xs
 | _=>none
def once {α:Type} [BEq α]:List α→List α
 | []=>[]
 | x :: xs=>x :: (once xs).filter fun y => !(y==x)
def Up (xs:Array Nat):Prop:=xs.toList.Pairwise (· < ·)
theorem Up.get {xs:Array Nat} (h:Up xs) {i k:Nat} {x y:Nat} (hik:i < k) (hx:xs[i]?=some x) (hy:xs[k]?=some y):x < y:=by
 unfold Up at h
 rw [List.pairwise_iff_getElem] at h
 obtain ⟨hi,rfl⟩:=Array.getElem?_eq_some_iff.mp hx
 obtain ⟨hk,rfl⟩:=Array.getElem?_eq_some_iff.mp hy
 have:=h i k (by simpa using hi) (by simpa using hk) hik
 simpa using this
theorem Qfq {xs:Array Nat} {j:Nat} (up:Up xs):∀ (fuel lo hi:Nat),hi - lo≤fuel→lo≤hi→hi≤xs.size→(∀ i x,i < lo→xs[i]?=some x→x < j)→(∀ i x,hi≤i→xs[i]?=some x→j≤x) →
  SetTable.below.go xs j fuel lo hi≤xs.size∧(∀ i x,i < SetTable.below.go xs j fuel lo hi→xs[i]?=some x→x < j)∧(∀ i x,SetTable.below.go xs j fuel lo hi≤i→xs[i]?=some x→j≤x)
 | 0,lo,hi,hf,hl,hh,h1,h2=>by
  have:lo=hi:=by omega
  subst this
  exact ⟨hh,h1,h2⟩
 | fuel + 1,lo,hi,hf,hl,hh,h1,h2=>by
  unfold SetTable.below.go
  by_cases hlt:lo < hi
  ·rw [if_pos hlt]
   dsimp only
   have hm:(lo + hi) / 2 < xs.size:=by omega
   have hg:xs[(lo + hi) / 2]?=some xs[(lo + hi) / 2]:=Array.getElem?_eq_getElem hm
   have hd:xs.getD ((lo + hi) / 2) j=xs[(lo + hi) / 2]:=by simp [Array.getD,hm]
   by_cases hc:xs.getD ((lo + hi) / 2) j < j
   ·rw [if_pos hc]
    refine Qfq up fuel _ hi (by omega) (by omega) hh (fun i x hi' hx => ?_) h2
    rcases Nat.lt_or_ge i ((lo + hi) / 2) with z | z
    ·have:=up.get z hx hg
     omega
    ·have:i=(lo + hi) / 2:=by omega
     subst this
     rw [hg] at hx
     cases hx
     omega
   ·rw [if_neg hc]
    refine Qfq up fuel lo _ (by omega) (by omega) (by omega) h1 fun i x hi' hx => ?_
    rcases Nat.lt_or_ge ((lo + hi) / 2) i with z | z
    ·have:=up.get z hg hx
     omega
    ·have:i=(lo + hi) / 2:=by omega
     subst this
     rw [hg] at hx
     cases hx
     omega
  ·rw [if_neg hlt]
   have:lo=hi:=by omega
   subst this
   exact ⟨hh,h1,h2⟩
theorem QaP {xs:Array Nat} (up:Up xs) (j:Nat):SetTable.below xs j≤xs.size∧(∀ i x,i < SetTable.below xs j→xs[i]?=some x→x < j)∧(∀ i x,SetTable.below xs j≤i→xs[i]?=some x→j≤x) :=
 Qfq up xs.size 0 xs.size (by omega) (by omega) (Nat.le_refl _) (fun i x h _=>by omega) (fun i x h e=>by
  have:=(Array.getElem?_eq_some_iff.mp e).1
  omega)
theorem below_at {xs:Array Nat} (up:Up xs) {i j:Nat} (h:xs[i]?=some j):SetTable.below xs j=i:=by
 obtain ⟨h1,h2,h3⟩:=QaP up j
 rcases Nat.lt_trichotomy (SetTable.below xs j) i with z | z | z
 ·have hi:=(Array.getElem?_eq_some_iff.mp h).1
  have hg:xs[SetTable.below xs j]?=some xs[SetTable.below xs j]:=Array.getElem?_eq_getElem (by omega)
  have a:=h3 _ _ (Nat.le_refl _) hg
  have b:=up.get z hg h
  omega
 ·exact z
 ·have:=h2 i j z h
  omega
theorem QjL {xs:Array Nat} (up:Up xs) {i j:Nat} (h:xs[i]?=some j):SetTable.below xs (j + 1)=i + 1:=by
 obtain ⟨h1,h2,h3⟩:=QaP up (j + 1)
 have hi:=(Array.getElem?_eq_some_iff.mp h).1
 rcases Nat.lt_trichotomy (SetTable.below xs (j + 1)) (i + 1) with z | z | z
 ·have:=h3 i j (by omega) h
  omega
 ·exact z
 ·have hg:xs[i + 1]?=some xs[i + 1]:=Array.getElem?_eq_getElem (by omega)
  have a:=h2 _ _ z hg
  have b:=up.get (Nat.lt_succ_self i) h hg
  omega
theorem QjK {xs:Array Nat} (up:Up xs):SetTable.below xs 0=0:=by
 obtain ⟨h1,h2,h3⟩:=QaP up 0
 rcases Nat.eq_zero_or_pos (SetTable.below xs 0) with z | z
 ·exact z
 ·have hg:xs[0]?=some xs[0]:=Array.getElem?_eq_getElem (by omega)
  have:=h2 0 _ z hg
  omega
theorem QbM {α:Type} (xs:Array α) (p:Nat) (x:α):(SetTable.insertAt xs p x).toList=xs.toList.take p++x :: xs.toList.drop p:=by
 unfold SetTable.insertAt
 simp [Array.toList_extract,List.extract_eq_take_drop]
 exact List.take_of_length_le (by simp)
theorem Qlx {xs:Array Nat} (up:Up xs) {j:Nat} (hn:j∉xs.toList):Up (SetTable.insertAt xs (SetTable.below xs j) j):=by
 obtain ⟨h1,h2,h3⟩:=QaP up j
 unfold Up
 rw [QbM,List.pairwise_append,List.pairwise_cons]
 have lo:∀ y∈xs.toList.take (SetTable.below xs j),y < j:=fun y hy=>by
  obtain ⟨i,hi,rfl⟩:=List.mem_take_iff_getElem.mp hy
  exact h2 i _ (by omega) (by
   rw [Array.getElem?_eq_some_iff]
   exact ⟨by simp at hi;omega,by simp⟩)
 have hi:∀ y∈xs.toList.drop (SetTable.below xs j),j < y:=fun y hy=>by
  have hm:y∈xs.toList:=List.mem_of_mem_drop hy
  obtain ⟨i,hi,rfl⟩:=List.mem_drop_iff_getElem.mp hy
  have:=h3 (SetTable.below xs j + i) _ (by omega) (by
   rw [Array.getElem?_eq_some_iff]
   exact ⟨by simp at hi;omega,rfl⟩)
  have ne:j≠xs.toList[SetTable.below xs j + i]:=fun e=>hn (by rw [e];exact hm)
  simp at ne
  simp
  omega
 refine ⟨List.Pairwise.sublist (List.take_sublist _ _) up,⟨fun y hy=>hi y hy,List.Pairwise.sublist (List.drop_sublist _ _) up⟩,fun a ha b hb => ?_⟩
 rcases List.mem_cons.mp hb with e | e
 ·rw [e];exact lo a ha
 ·exact Nat.lt_trans (lo a ha) (hi b e)
theorem Qiw {t:SetTable} (up:Up t.place) {j:Nat} (h:∀ i,t.slot j ≠ .live i):j∉t.place.toList:=by
 intro hm
 obtain ⟨i,hi,e⟩:=List.mem_iff_getElem.mp hm
 have hg:t.place[i]?=some j:=by
  rw [Array.getElem?_eq_some_iff]
  exact ⟨by simpa using hi,by simpa using e⟩
 have hb:=below_at up hg
 refine h i ?_
 unfold SetTable.slot
 dsimp only
 rw [hb,hg,if_pos (by simp)]
theorem Qfa {t:SetTable} {ha:Nat→Int} {h:Int}:∀ (fuel:Nat) (p:SetTable.Probe) (j:Nat) (d:Option Nat),(∀ q,p.dummy=some q→t.slot q = .dummy)→SetTable.probe.go t ha h fuel p=some (.empty j d)→t.slot j = .empty∧∀ q,d=some q→t.slot q = .dummy
 | 0,p,j,d,_,e=>by cases e
 | fuel + 1,p,j,d,hp,e=>by
  unfold SetTable.probe.go at e
  split at e
  ·rename_i hs
   cases e
   exact ⟨hs,hp⟩
  ·rename_i hs
   refine Qfa fuel _ j d (fun q hq => ?_) e
   have hq:(t.advance { p with dummy:=some p.j }).dummy=some q:=hq
   have hd:(t.advance { p with dummy:=some p.j }).dummy=some p.j:=by
    unfold SetTable.advance
    split <;> rfl
   rw [hd] at hq
   cases hq
   exact hs
  ·split at e
   ·cases e
   ·refine Qfa fuel _ j d (fun q hq=>hp q ?_) e
    have hd:(t.advance p).dummy=p.dummy:=by
     unfold SetTable.advance
     split <;> rfl
    rw [hd] at hq
    exact hq
theorem QgM {t:SetTable} (up:Up t.place) {h:Int} {j:Nat} {b:Bool} (e:t.freeSlot h=some (j,b)):j∉t.place.toList:=by
 unfold SetTable.freeSlot at e
 split at e
 ·rename_i i d hq
  obtain ⟨h1,h2⟩:=Qfa _ _ _ _ (fun q hq=>by cases hq) hq
  cases e
  cases d with
  | none =>
   refine Qiw up fun k z => ?_
   have h1:t.slot i = .empty:=h1
   rw [show ((none:Option Nat).getD i)=i from rfl,h1] at z
   cases z
  | some q =>
   refine Qiw up fun k z => ?_
   have h2:=h2 q rfl
   rw [show ((some q).getD i)=q from rfl,h2] at z
   cases z
 ·cases e
theorem up_range (n:Nat):Up (Array.range n):=by
 unfold Up
 rw [Array.toList_range]
 exact List.pairwise_lt_range
theorem Qcz {α:Type} (f:Nat→Option α) (n:Nat):(((List.range n).filterMap fun j=>(f j).map (j,·)).map (·.1)).Pairwise (· < ·):=by
 have key:∀ l:List Nat,l.Pairwise (· < ·)→(((l.filterMap fun j=>(f j).map (j,·)).map (·.1)).Pairwise (· < ·))∧∀ x∈((l.filterMap fun j=>(f j).map (j,·)).map (·.1)),x∈l:=by
  intro l
  induction l with
  | nil=>intro _;exact ⟨by simp,by simp⟩
  | cons y l ih =>
   intro hp
   rw [List.pairwise_cons] at hp
   obtain ⟨i1,i2⟩:=ih hp.2
   cases hf:f y with
   | none =>
    rw [List.filterMap_cons_none (by rw [hf];rfl)]
    exact ⟨i1,fun x hx=>List.mem_cons_of_mem _ (i2 x hx)⟩
   | some z =>
    rw [List.filterMap_cons_some (b:=(y,z)) (by rw [hf];rfl),List.map_cons]
    refine ⟨List.pairwise_cons.mpr ⟨fun x hx=>hp.1 x (i2 x hx),i1⟩,fun x hx => ?_⟩
    rcases List.mem_cons.mp hx with e | e
    ·rw [e];exact List.mem_cons_self
    ·exact List.mem_cons_of_mem _ (i2 x e)
 exact (key _ List.pairwise_lt_range).1
def Kept (L:Bool) (t:SetTable):Prop:=t.led=L∧Up t.place
theorem XF {L:Bool} {t:SetTable} (k:Kept L t) (n:Nat):Kept L (t.standIn n):=⟨k.1,up_range n⟩
theorem Qjt {L:Bool} {t:SetTable} (k:Kept L t) (b:Bool):Kept L { t with plain:=b }:=k
theorem QhZ {L:Bool} {t:SetTable} (k:Kept L t) (es:Array (Int×Value)) (h:Int) (x:Value):Kept L (layNew t es h x).2.1:=by
 unfold layNew
 split
 ·rename_i j b e
  dsimp only
  unfold SetTable.orStandIn
  have k2:Kept L (t.put j).1:=⟨k.1,Qlx k.2 (QgM k.2 e)⟩
  split
  ·exact k2
  ·exact XF k2 _
 ·exact XF k _
theorem Qjs {L:Bool} {t:SetTable} (k:Kept L t) (es:Array (Int×Value)) (n:Nat):Kept L (relayAll t es n).2.1:=by
 unfold relayAll
 split
 ·rename_i t' order e
  dsimp only
  split
  ·unfold SetTable.relaid SetTable.laid at e
   cases hl:SetTable.layClean (SetTable.sizeAbove n - 1) (es.map (·.1)) with
   | none=>rw [hl] at e;cases e
   | some owner =>
    rw [hl] at e
    cases e
    refine ⟨k.1,?_⟩
    unfold Up
    rw [List.toList_toArray]
    exact Qcz (fun j=>owner.getD j none) _
  ·exact XF k _
 ·exact XF k _
section
variable {prog:Program} {w:World} {A:Around} {E:Value→Shared→Prop} {s:Shared}
def SetL (prog:Program) (w:World) (L:Bool) (h:Heap) (a:Addr) (M:List Int):Prop :=
 ∃ o es ep t,h.get? a=some o∧o.ExactSet∧o.data = .set es ep t∧ElemsOf (intKind prog w) es.toList∧(∀ k,k∈M↔∃ e∈es.toList,(intKind prog w).is k e.2=true) ∧
  es.size < scanBound∧t.fits es.size=true∧es.size=M.length∧M.Nodup∧Kept L t
theorem SetL.at {L:Bool} {h h':Heap} {a:Addr} {M:List Int} (x:SetL prog w L h a M) (e:∀ o,h.get? a=some o→h'.get? a=some o):SetL prog w L h' a M:=by
 obtain ⟨o,es,ep,t,ho,r⟩:=x
 exact ⟨o,es,ep,t,e o ho,r⟩
def more (M:List Int) (k:Int):List Int:=if k∈M then M else M++[k]
end
def byT (w:World):Bool:=w.params.followText "set-order"
section
variable {prog:Program} {w:World} {A:Around} {E:Value→Shared→Prop} {s:Shared}
theorem setNew (v:Value) {Q₁:Value→Shared→Prop} (fin:Q₁ (.ref s.heap.objs.size) { s with heap:=s.heap.push { cls := .type "set",dict:=none,data := .set #[] 0 (.fresh 0 0 (!byT w)) } }) :
  codeAny (model prog w) A (.call (.builtin "set.__new__") ⟨[.type "set",v],[]⟩) (wants Q₁ E) s:=by
 refine codeAny_of_tree ?_
 show wpAny _ A.in1 (do checkBuiltinCall "set.__new__" ⟨[.type "set",v],[]⟩;again (.builtin "set.__new__" ⟨[.type "set",v],[]⟩)) _ _ s
 refine wpAny_bind (wpAny_of_eq (PySem.F.newCall_set_1 v) (wpAny_pure ⟨plainId_quiet PySem.F.plain_set_new _,codeAny_builtin PySem.F.entry_set_new ?_⟩))
 rw [Around.under_plainId PySem.F.plain_set_new _]
 unfold Builtin.«set.__new__» Builtin.Frozenset.newClass
 have sub:=sub_set_self
 obtain ⟨hp,g,d,tk,os⟩:=s
 dsimp only
 wp_walk
 refine wpAny_askSetting (wpAny_pure ?_)
 dsimp only
 simp only [newObj]
 refine wpAny_bind (wpAny_alloc (wpAny_pure ?_))
 exact wpAny_pure fin
end
section
namespace SF
theorem own_si:Manifest.owners.lookup (String.ofList ['r','o','t','a','r','e','t','i','_','t','e','s'].reverse)=some Manifest.sig_set_iterator:=by kernel_rfl
theorem si_next:PySem.Slot "set_iterator" "__next__" "set_iterator.__next__" := .of (owner := "set_iterator") (n := "__next__") (by rw [typeLookup_type,builtinLookup_eq_fast];kernel_rfl) (by decide +kernel) (by decide +kernel) (by decide +kernel) (by first | exact .inl (by decide +kernel) | exact .inr (by decide +kernel)) (by rw [isSubtype_type];kernel_rfl)
theorem si_entry:entryFor table "set_iterator.__next__"=some Builtin.«set_iterator.__next__»:=entryFor_of_tree (by kernel_rfl)
theorem si_args (a:Value):argsOk "set_iterator.__next__" ⟨[a],[]⟩:=by
 unfold argsOk;rw [signature?_of (id := "set_iterator.__next__") (n:=['_','_','t','x','e','n','_','_']) (o:=['r','o','t','a','r','e','t','i','_','t','e','s']) (by kernel_rfl) own_si];kernel_rfl
theorem set_iter:entryFor table "set.__iter__"=some Builtin.«frozenset.__iter__»:=entryFor_alias (id' := "frozenset.__iter__") (by kernel_rfl) rfl (by decide +kernel) (by kernel_rfl)
end SF
theorem QaN {α:Type}:∀ {l:List α} {i:Nat} (h:i < l.length),(l[i] :: l.eraseIdx i).Perm l
 | x :: l,0,_ => .refl _
 | x :: l,i + 1,h=>by
  have ih:=QaN (l:=l) (i:=i) (by simpa using h)
  simp only [List.getElem_cons_succ,List.eraseIdx_cons_succ]
  exact (List.Perm.swap _ _ _).trans (ih.cons x)
theorem QkH {α:Type} (f:Nat→Nat):∀ (fuel k:Nat) (l:List α) (out:Array α),l.length=fuel→(pickOrder.go f fuel k l out).toList.Perm (out.toList++l)
 | 0,k,l,out,h=>by
  rw [List.length_eq_zero_iff.mp h,List.append_nil]
  exact .refl _
 | fuel + 1,k,l,out,h=>by
  have hp:0 < l.length:=by omega
  have hlt:f k % l.length < l.length:=Nat.mod_lt _ hp
  unfold pickOrder.go
  rw [List.getElem?_eq_getElem hlt]
  dsimp only
  refine (QkH f fuel (k + 1) _ _ (by rw [List.length_eraseIdx,if_pos hlt];omega)).trans ?_
  rw [Array.toList_push,List.append_assoc]
  refine List.Perm.append_left _ ?_
  exact QaN hlt
theorem QbF {α:Type} (f:Nat→Nat) (xs:Array α):(pickOrder f xs).toList.Perm xs.toList:=by
 have:=QkH f xs.size 0 xs.toList #[] (by simp)
 simpa [pickOrder] using this
section
variable {prog:Program} {w:World} {A:Around} {E:Value→Shared→Prop} {s:Shared}
theorem QjF {src:Source} {n:Nat} {Q:Nat→Shared→Prop} (hn:n≠0) (h:∀ i d,i < n→Q i { s with drawn:=d }):wpAny (model prog w) A (choose src n) Q E s:=fun Γ p _=>by
 show Sem.wp (model prog w) Γ (.choose src n .pure) _ _ p s
 rw [Sem.wp_choose]
 exact ⟨hn,by rw [Sem.wp_pure];exact h _ _ (Nat.mod_lt _ (Nat.pos_of_ne_zero hn))⟩
theorem Qfm {α:Type}:∀ (n:Nat) (xs:List α) (s:Shared) (Q:List α→Shared→Prop),xs.length=n→(∀ ys d,ys.Perm xs→Q ys { s with drawn:=d })→wpAny (model prog w) A (drawOrder n xs) Q E s
 | 0,xs,s,Q,hn,h=>by
  unfold drawOrder
  rw [List.length_eq_zero_iff.mp hn] at h
  exact wpAny_pure (h [] s.drawn (.refl _))
 | n + 1,[],s,Q,hn,h=>by simp at hn
 | n + 1,x :: xs,s,Q,hn,h=>by
  unfold drawOrder
  refine wpAny_bind (QjF (by simp) fun i d hi => ?_)
  rw [List.getElem?_eq_getElem hi]
  dsimp only
  refine wpAny_bind (Qfm n _ _ _ (by rw [List.length_eraseIdx,if_pos hi];simp at hn ⊢;omega) fun ys d' p => ?_)
  exact wpAny_pure (h _ _ ((List.Perm.cons _ p).trans (QaN hi)))
end
end
def SIt (h:Heap) (I D:Addr) (first:Value) (i n ep:Nat):Prop:=∃ o,h.get? I=some o∧o.cls = .type "set_iterator"∧o.data = .fields #[first,rawInt i,.ref D,rawInt n,rawInt ep]
def SetC (h:Heap) (D:Addr) (es:Array (Int×Value)) (ep:Nat) (t:SetTable):Prop:=∃ o,h.get? D=some o∧o.ExactSet∧o.data = .set es ep t∧t.fits es.size=true
section
variable {prog:Program} {w:World} {A:Around} {E:Value→Shared→Prop} {s:Shared} {I D:Addr} {es:Array (Int×Value)} {ep:Nat} {t:SetTable} {i:Nat}
theorem SIt.typeIs {first:Value} {n:Nat} (x:SIt s.heap I D first i n ep):s.TypeIs (.ref I) "set_iterator":=let ⟨o,ho,hc,_⟩:=x;⟨o,ho,hc⟩
theorem SIt.at {h h':Heap} {first:Value} {n:Nat} (x:SIt h I D first i n ep) (e:∀ o,h.get? I=some o→h'.get? I=some o):SIt h' I D first i n ep:=let ⟨o,ho,r⟩:=x;⟨o,e _ ho,r⟩
theorem SetC.at {h h':Heap} (x:SetC h D es ep t) (e:∀ o,h.get? D=some o→h'.get? D=some o):SetC h' D es ep t:=let ⟨o,ho,r⟩:=x;⟨o,e _ ho,r⟩
theorem QcY {h:Heap} {o:Obj} {vs:Array Value} {j:Nat} {x:Value} (ho:h.get? I=some o) (hd:o.data = .fields vs):∃ o',(h.update I (Obj.mapFields (·.setIfInBounds j x))).get? I=some o'∧o'.cls=o.cls∧o'.data = .fields (vs.setIfInBounds j x) :=
 ⟨_,Heap.get?_update_self _ ho (Obj.isFreed_of_fields (Obj.data_mapFields hd _)),Obj.cls_mapFields ..,Obj.data_mapFields hd _⟩
theorem Qkw {slot next:Nat} {v:Value} {Q:Option Value→Shared→Prop} (hit:SIt s.heap I D (rawInt slot) i es.size ep) (hS:SetC s.heap D es ep t)
  (hnx:∀ (A':Around) (E':Value→Shared→Prop) (R:Option (Value×Nat)→Shared→Prop),R (some (v,next)) s→wpAny (model prog w) A' (setNext D slot i ep) R E' s)
  (fin:∀ h',SIt h' I D (rawInt next) (i + 1) es.size ep→Heap.SameBut I s.heap h'→Q (some v) { s with heap:=h' }):wpAny (model prog w) A (pyNext (.ref I)) Q E s:=by
 obtain ⟨o,ho,hc,hd⟩:=id hit
 obtain ⟨oS,hoS,hex,hdS,hf⟩:=hS
 unfold pyNext
 refine wpAny_bind (wpAny_attempt (wpAny_callSpecial?_slot (name:=Str.ofString "__next__") hit.typeIs SF.si_next (wpAny_call_entry SF.si_next hit.typeIs SF.si_entry ?_ (SF.si_args _))))
 unfold Builtin.«set_iterator.__next__»
 refine wpAny_bind (wpAny_of_eq (a:=(Value.ref I,[])) rfl (wpAny_bind (wpAny_fieldsOf ho hd ?_)))
 dsimp only [rawInt]
 refine wpAny_bind (wpAny_setEntries_of hoS hdS hf ?_)
 rw [if_neg (by simp)]
 refine wpAny_bind (hnx _ _ _ ?_)
 dsimp only
 obtain ⟨o1,at1,c1,d1⟩:=QcY (j:=0) (x:=Value.int (next:Int) 0) ho hd
 refine wpAny_bind (wpAny_setField ho hd (by simp) (wpAny_bind (wpAny_setField at1 d1 (by simp) ?_)))
 obtain ⟨o2,at2,c2,d2⟩:=QcY (j:=1) (x:=Value.int ((i:Int) + 1) 0) at1 d1
 exact wpAny_pure ⟨v,rfl,wpAny_pure (fin _ ⟨o2,at2,c2.trans (c1.trans hc),by rw [d2];simp [rawInt]⟩ ((Heap.SameBut.update _ I _).trans (Heap.SameBut.update _ I _)))⟩
theorem Qiv {h1:Heap} {Q:Option Value→Shared→Prop} (calm:A.handled=none) (fin:∀ h',(∀ b o,h1.get? b=some o→h'.get? b=some o)→Q none { s with heap:=h' }) :
  wpAny (model prog w) A.in1 (newExc (.type "StopIteration") [] >>= fun e=>(raiseNew e:Sem PySem.Fin)) (fun fin s'=>∃ v,fin=Fin.done (Flow.ret v)∧wpAny (model prog w) A (pure (some v)) Q E s')
   (fun e s'=>wpAny (model prog w) A (do let b ← isInstance e (.type "StopIteration");if b=true then pure none else throw e) Q E s') { s with heap:=h1 }:=by
 refine wpAny_bind ?_
 simp only [newExc,newTuple]
 refine wpAny_bind (wpAny_newObj_type ?_ (by size_fits))
 refine wpAny_bind (m:=firstArgMember _ _) (wpAny_of_eq (a:=Value.none) (by first | rfl | (simp only [firstArgMember];rfl)) (wpAny_newObj_type ?_ (by size_fits)))
 simp only [raiseNew]
 refine wpAny_bind (wpAny_handled ?_)
 rw [show A.in1.handled=none from calm]
 refine wpAny_bind (wpAny_pure (wpAny_throw ?stop))
 case stop =>
 have ty:∀ (o:Obj) (h2:Heap),o.cls = .type "StopIteration"→o.isFreed=false→Shared.TypeIs { s with heap:=h2.push o } (.ref h2.objs.size) "StopIteration":=fun o h2 hc hf=>⟨o,Heap.get?_push_size _ hf,hc⟩
 refine wpAny_bind (wpAny_isInstance (T := "StopIteration") (b:=true) (ty _ _ rfl rfl) isSubtype_stop ?_)
 exact wpAny_pure (fin _ fun b o e=>Heap.get?_push_of_some _ (Heap.get?_push_of_some _ e))
theorem Qkx {slot:Nat} {Q:Option Value→Shared→Prop} (calm:A.handled=none) (hit:SIt s.heap I D (rawInt slot) i es.size ep) (hS:SetC s.heap D es ep t)
  (hnx:∀ (A':Around) (E':Value→Shared→Prop) (R:Option (Value×Nat)→Shared→Prop),R none s→wpAny (model prog w) A' (setNext D slot i ep) R E' s)
  (fin:∀ h',(∀ b o,b≠I→s.heap.get? b=some o→h'.get? b=some o)→Q none { s with heap:=h' }):wpAny (model prog w) A (pyNext (.ref I)) Q E s:=by
 obtain ⟨o,ho,hc,hd⟩:=id hit
 obtain ⟨oS,hoS,hex,hdS,hf⟩:=hS
 unfold pyNext
 refine wpAny_bind (wpAny_attempt (wpAny_callSpecial?_slot (name:=Str.ofString "__next__") hit.typeIs SF.si_next (wpAny_call_entry SF.si_next hit.typeIs SF.si_entry ?_ (SF.si_args _))))
 unfold Builtin.«set_iterator.__next__»
 refine wpAny_bind (wpAny_of_eq (a:=(Value.ref I,[])) rfl (wpAny_bind (wpAny_fieldsOf ho hd ?_)))
 dsimp only [rawInt]
 refine wpAny_bind (wpAny_setEntries_of hoS hdS hf ?_)
 rw [if_neg (by simp)]
 refine wpAny_bind (hnx _ _ _ ?_)
 dsimp only
 refine wpAny_bind (wpAny_setField ho hd (by simp) ?_)
 exact Qiv calm fun h' k=>fin h' fun b o hb e=>k b o ((Heap.get?_update_other _ _ (Ne.symm hb)).trans e)
theorem si_dsome {ys:Array Value} {Tp pl:Nat} {e:Int×Value} {Q:Option Value→Shared→Prop} (hit:SIt s.heap I D (.ref Tp) i es.size ep) (hS:SetC s.heap D es ep t) (hTp:IsTup s.heap Tp ys) (hy:ys[i]?=some (rawInt pl)) (he:es[pl]?=some e)
  (fin:∀ h',SIt h' I D (.ref Tp) (i + 1) es.size ep→Heap.SameBut I s.heap h'→Q (some e.2) { s with heap:=h' }):wpAny (model prog w) A (pyNext (.ref I)) Q E s:=by
 obtain ⟨o,ho,hc,hd⟩:=id hit
 obtain ⟨oS,hoS,hex,hdS,hf⟩:=hS
 unfold pyNext
 refine wpAny_bind (wpAny_attempt (wpAny_callSpecial?_slot (name:=Str.ofString "__next__") hit.typeIs SF.si_next (wpAny_call_entry SF.si_next hit.typeIs SF.si_entry ?_ (SF.si_args _))))
 unfold Builtin.«set_iterator.__next__»
 refine wpAny_bind (wpAny_of_eq (a:=(Value.ref I,[])) rfl (wpAny_bind (wpAny_fieldsOf ho hd ?_)))
 dsimp only [rawInt]
 refine wpAny_bind (wpAny_setEntries_of hoS hdS hf ?_)
 rw [if_neg (by simp)]
 obtain ⟨oT,hoT,_,nT,hdT⟩:=hTp
 refine wpAny_bind (wpAny_seqItems hoT hdT ?_)
 dsimp only
 rw [Int.toNat_natCast,hy]
 dsimp only [rawInt]
 unfold setNextDrawn
 refine wpAny_bind (wpAny_bind (wpAny_setState_of hoS hdS hf ?_))
 dsimp only
 rw [if_neg (by simp),Int.toNat_natCast,he]
 dsimp only
 refine wpAny_pure (wpAny_bind (wpAny_setField ho hd (by simp) ?_))
 obtain ⟨o2,at2,c2,d2⟩:=QcY (j:=1) (x:=Value.int ((i:Int) + 1) 0) ho hd
 exact wpAny_pure ⟨_,rfl,wpAny_pure (fin _ ⟨o2,at2,c2.trans hc,by rw [d2];simp [rawInt]⟩ (Heap.SameBut.update _ I _))⟩
theorem si_dnone {ys:Array Value} {Tp:Nat} {Q:Option Value→Shared→Prop} (calm:A.handled=none) (hit:SIt s.heap I D (.ref Tp) i es.size ep) (hS:SetC s.heap D es ep t) (hTp:IsTup s.heap Tp ys) (hy:ys[i]?=none)
  (fin:∀ h',(∀ b o,b≠I→s.heap.get? b=some o→h'.get? b=some o)→Q none { s with heap:=h' }):wpAny (model prog w) A (pyNext (.ref I)) Q E s:=by
 obtain ⟨o,ho,hc,hd⟩:=id hit
 obtain ⟨oS,hoS,hex,hdS,hf⟩:=hS
 obtain ⟨oT,hoT,_,nT,hdT⟩:=hTp
 unfold pyNext
 refine wpAny_bind (wpAny_attempt (wpAny_callSpecial?_slot (name:=Str.ofString "__next__") hit.typeIs SF.si_next (wpAny_call_entry SF.si_next hit.typeIs SF.si_entry ?_ (SF.si_args _))))
 unfold Builtin.«set_iterator.__next__»
 refine wpAny_bind (wpAny_of_eq (a:=(Value.ref I,[])) rfl (wpAny_bind (wpAny_fieldsOf ho hd ?_)))
 dsimp only [rawInt]
 refine wpAny_bind (wpAny_setEntries_of hoS hdS hf ?_)
 rw [if_neg (by simp)]
 refine wpAny_bind (wpAny_seqItems hoT hdT ?_)
 dsimp only
 rw [Int.toNat_natCast,hy]
 dsimp only
 obtain ⟨o1,at1,c1,d1⟩:=QcY (j:=0) (x:=Value.int 0 0) ho hd
 refine wpAny_bind (wpAny_setField ho hd (by simp) (wpAny_bind (wpAny_setField at1 d1 (by simp) ?_)))
 exact Qiv calm fun h' k=>fin h' fun b o hb e=>k b o ((Heap.get?_update_other _ _ (Ne.symm hb)).trans ((Heap.get?_update_other _ _ (Ne.symm hb)).trans e))
theorem QkR (hT:byT w=true) (hS:SetC s.heap D es ep t) {slot:Nat} (A':Around) (E':Value→Shared→Prop) (R:Option (Value×Nat)→Shared→Prop) (h:R (((pickOrder (w.params.setOrder D ep) es)[i]?).map fun e=>(e.2,slot)) s):wpAny (model prog w) A' (setNext D slot i ep) R E' s:=by
 obtain ⟨oS,hoS,hex,hdS,hf⟩:=hS
 unfold setNext setsByText
 refine wpAny_bind (wpAny_setState_of hoS hdS hf ?_)
 dsimp only
 refine wpAny_bind (wpAny_bind (wpAny_askSetting (wpAny_pure ?_)))
 refine (show wpAny _ A' (if byT w=true then _ else _) R E' s from ?_)
 rw [if_pos hT,if_neg (by simp)]
 unfold setWalk setsByText
 refine wpAny_bind (wpAny_bind (wpAny_setState_of hoS hdS hf ?_))
 dsimp only
 refine wpAny_bind (wpAny_bind (wpAny_askSetting (wpAny_pure ?_)))
 refine (show wpAny _ A' (if byT w=true then _ else _) _ E' s from ?_)
 rw [if_pos hT]
 refine wpAny_bind (wpAny_askSetting (wpAny_pure (wpAny_pure ?_)))
 exact h
def QcP (es:Array (Int×Value)) (t:SetTable):Bool := !t.plain&&decide (es.size > 1)
theorem QiH (hT:byT w=false) (hS:SetC s.heap D es ep t) (hD:QcP es t=false) (hL:t.led=true) {slot:Nat} (A':Around) (E':Value→Shared→Prop) (R:Option (Value×Nat)→Shared→Prop)
  (h:R (match es[SetTable.below t.place slot]?,t.place[SetTable.below t.place slot]? with | some (_,x),some j=>some (x,j + 1) | _,_=>none) s):wpAny (model prog w) A' (setNext D slot i ep) R E' s:=by
 obtain ⟨oS,hoS,hex,hdS,hf⟩:=hS
 unfold setNext setsByText
 refine wpAny_bind (wpAny_setState_of hoS hdS hf ?_)
 dsimp only
 refine wpAny_bind (wpAny_bind (wpAny_askSetting (wpAny_pure ?_)))
 refine (show wpAny _ A' (if byT w=true then _ else _) R E' s from ?_)
 rw [if_neg (by rw [hT];decide)]
 refine (show wpAny _ A' (if QcP es t=true then _ else _) R E' s from ?_)
 rw [if_neg (by rw [hD];decide)]
 refine (show wpAny _ A' ((if (!t.led && !es.isEmpty)=true then unsupported "set:maker-not-led" else pure ()) >>= _) R E' s from ?_)
 rw [if_neg (by rw [hL];simp)]
 exact wpAny_bind (wpAny_pure (wpAny_pure h))
end
section
namespace SF
theorem si_iter:PySem.Slot "set_iterator" "__iter__" "set_iterator.__iter__" := .of (owner := "set_iterator") (n := "__iter__") (by rw [typeLookup_type,builtinLookup_eq_fast];kernel_rfl) (by decide +kernel) (by decide +kernel) (by decide +kernel) (by first | exact .inl (by decide +kernel) | exact .inr (by decide +kernel)) (by rw [isSubtype_type];kernel_rfl)
theorem si_iargs (a:Value):argsOk "set_iterator.__iter__" ⟨[a],[]⟩:=by
 unfold argsOk;rw [signature?_of (id := "set_iterator.__iter__") (n:=['_','_','r','e','t','i','_','_']) (o:=['r','o','t','a','r','e','t','i','_','t','e','s']) (by kernel_rfl) own_si];kernel_rfl
theorem si_ientry:entryFor table "set_iterator.__iter__"=some Builtin.«dict_keyiterator.__iter__»:=entryFor_alias (id' := "dict_keyiterator.__iter__") (by kernel_rfl) (by first | rfl | decide +kernel | (unfold String.splitOn;simp +decide [String.splitOnAux])) (by decide +kernel) (by kernel_rfl)
end SF
section
variable {prog:Program} {w:World} {A:Around} {E:Value→Shared→Prop} {s:Shared} {I D:Addr} {es:Array (Int×Value)} {ep:Nat} {t:SetTable}
theorem QgU {first:Value} {i n:Nat} {Q:Value→Shared→Prop} (hit:SIt s.heap I D first i n ep) (h:Q (.ref I) s):wpAny (model prog w) A (pyIter (.ref I)) Q E s:=by
 refine wpAny_pyIter_slot hit.typeIs SF.si_iter (wpAny_call_entry SF.si_iter hit.typeIs SF.si_ientry ?_ (SF.si_iargs _))
 show wpAny _ _ (ret (.ref I)) _ _ s
 exact wpAny_pure ⟨_,rfl,"set_iterator",_,hit.typeIs,SF.si_next.lookup,h⟩
def cur (place:Array Nat):Nat→Nat
 | 0=>0
 | i + 1=>(place[i]?).getD 0 + 1
theorem QiZ {place:Array Nat} {i j:Nat} (h:place[i]?=some j):cur place (i + 1)=j + 1:=by
 show (place[i]?).getD 0 + 1=j + 1
 rw [h];rfl
theorem Qgr {place:Array Nat} (up:Up place):∀ {i:Nat},i≤place.size→SetTable.below place (cur place i)=i
 | 0,_=>QjK up
 | i + 1,h=>by
  have hi:i < place.size:=by omega
  have e:place[i]?=some place[i]:=Array.getElem?_eq_getElem hi
  rw [QiZ e]
  exact QjL up e
theorem Qlv (hT:byT w=true) (ne:D≠I) (A':Around) (calm:A'.handled=none):Walks prog w A' I [I,D] [I] es.size (fun i v=>((pickOrder (w.params.setOrder D ep) es)[i]?).map (·.2)=some v) (fun i h=>i≤es.size∧SIt h I D (rawInt 0) i es.size ep∧SetC h D es ep t) where
 sub:=fun b hb=>by simp at hb;simp [hb]
 frame:=fun i h h' x k=>⟨x.1,x.2.1.at fun o e=>k I (by simp) o e,x.2.2.at fun o e=>k D (by simp) o e⟩
 item:=fun i s Q E hi x fin=>by
  have sz:(pickOrder (w.params.setOrder D ep) es).size=es.size:=by
   have:=(QbF (w.params.setOrder D ep) es).length_eq
   simpa using this
  have hg:(pickOrder (w.params.setOrder D ep) es)[i]?=some ((pickOrder (w.params.setOrder D ep) es)[i]'(by omega)):=Array.getElem?_eq_getElem (by omega)
  refine Qkw (slot:=0) (next:=0) (v:=((pickOrder (w.params.setOrder D ep) es)[i]'(by omega)).2) x.2.1 x.2.2 (fun A' E' R h=>QkR hT x.2.2 A' E' R (by rw [hg];exact h)) fun h' z sb => ?_
  exact fin _ h' s.toks (by rw [hg];rfl) ⟨hi,z,x.2.2.at fun o e=>(sb.2 D ne).trans e⟩ fun b o hb e=>(sb.2 b fun q=>hb (by simp [q])).trans e
 done:=fun s Q E x fin=>by
  have sz:(pickOrder (w.params.setOrder D ep) es).size=es.size:=by
   have:=(QbF (w.params.setOrder D ep) es).length_eq
   simpa using this
  have hg:(pickOrder (w.params.setOrder D ep) es)[es.size]?=none:=Array.getElem?_eq_none (by omega)
  exact Qkx (slot:=0) calm x.2.1 x.2.2 (fun A' E' R h=>QkR hT x.2.2 A' E' R (by rw [hg];exact h)) fun h' k=>fin h' s.toks fun b o hb e=>k b o (fun q=>hb (by simp [q])) e
 self:=fun _ _ _ _ x h=>QgU x.2.1 h
theorem Qjf (hT:byT w=false) (hD:QcP es t=false) (kp:Kept true t) (fits:t.fits es.size=true) (ne:D≠I) (A':Around) (calm:A'.handled=none):Walks prog w A' I [I,D] [I] es.size (fun i v=>(es[i]?).map (·.2)=some v) (fun i h=>i≤es.size∧SIt h I D (rawInt (cur t.place i:Nat)) i es.size ep∧SetC h D es ep t) where
 sub:=fun b hb=>by simp at hb;simp [hb]
 frame:=fun i h h' x k=>⟨x.1,x.2.1.at fun o e=>k I (by simp) o e,x.2.2.at fun o e=>k D (by simp) o e⟩
 item:=fun i s Q E hi x fin=>by
  have ps:t.place.size=es.size:=by
   unfold SetTable.fits at fits
   simp at fits
   exact fits.1
  have g1:es[i]?=some es[i]:=Array.getElem?_eq_getElem hi
  have g2:t.place[i]?=some (t.place[i]'(by omega)):=Array.getElem?_eq_getElem (by omega)
  have hb:=Qgr kp.2 (i:=i) (by omega)
  refine Qkw (next:=cur t.place (i + 1)) (v:=es[i].2) x.2.1 x.2.2 (fun A' E' R h=>QiH hT x.2.2 hD kp.1 A' E' R (by
   rw [hb,g1,g2]
   rw [QiZ g2] at h
   exact h)) fun h' z sb => ?_
  exact fin _ h' s.toks (by rw [g1];rfl) ⟨hi,z,x.2.2.at fun o e=>(sb.2 D ne).trans e⟩ fun b o hb e=>(sb.2 b fun q=>hb (by simp [q])).trans e
 done:=fun s Q E x fin=>by
  have ps:t.place.size=es.size:=by
   unfold SetTable.fits at fits
   simp at fits
   exact fits.1
  have g1:es[es.size]?=none:=Array.getElem?_eq_none (Nat.le_refl _)
  have hb:=Qgr kp.2 (i:=es.size) (by omega)
  exact Qkx calm x.2.1 x.2.2 (fun A' E' R h=>QiH hT x.2.2 hD kp.1 A' E' R (by rw [hb,g1];exact h)) fun h' k=>fin h' s.toks fun b o hb e=>k b o (fun q=>hb (by simp [q])) e
 self:=fun _ _ _ _ x h=>QgU x.2.1 h
theorem Qjg {Tp:Addr} {ys:List Nat} (hy:ys.Perm (List.range es.size)) (ne:D≠I) (ne2:Tp≠I) (A':Around) (calm:A'.handled=none):Walks prog w A' I [I,D,Tp] [I] es.size (fun i v=>((ys[i]?).bind fun j=>es[j]?).map (·.2)=some v)
  (fun i h=>i≤es.size∧SIt h I D (.ref Tp) i es.size ep∧SetC h D es ep t∧IsTup h Tp (ys.map fun (j:Nat)=>rawInt j).toArray) where
 sub:=fun b hb=>by simp at hb;simp [hb]
 frame:=fun i h h' x k=>⟨x.1,x.2.1.at fun o e=>k I (by simp) o e,x.2.2.1.at fun o e=>k D (by simp) o e,let ⟨o,ho,r⟩:=x.2.2.2;⟨o,k Tp (by simp) o ho,r⟩⟩
 item:=fun i s Q E hi x fin=>by
  have hl:ys.length=es.size:=by rw [hy.length_eq,List.length_range]
  have g1:ys[i]?=some (ys[i]'(by omega)):=List.getElem?_eq_getElem (by omega)
  have hm:ys[i]'(by omega) < es.size:=List.mem_range.mp (hy.mem_iff.mp (List.getElem_mem (by omega)))
  have g2:es[ys[i]'(by omega)]?=some (es[ys[i]'(by omega)]'hm):=Array.getElem?_eq_getElem hm
  refine si_dsome (pl:=ys[i]'(by omega)) x.2.1 x.2.2.1 x.2.2.2 (by simp [g1]) g2 fun h' z sb => ?_
  exact fin _ h' s.toks (by rw [g1,Option.bind_some,g2];rfl) ⟨hi,z,x.2.2.1.at fun o e=>(sb.2 D ne).trans e,let ⟨o,ho,r⟩:=x.2.2.2;⟨o,(sb.2 Tp ne2).trans ho,r⟩⟩ fun b o hb e=>(sb.2 b fun q=>hb (by simp [q])).trans e
 done:=fun s Q E x fin=>by
  have hl:ys.length=es.size:=by rw [hy.length_eq,List.length_range]
  exact si_dnone calm x.2.1 x.2.2.1 x.2.2.2 (by simp;omega) fun h' k=>fin h' s.toks fun b o hb e=>k b o (fun q=>hb (by simp [q])) e
 self:=fun _ _ _ _ x h=>QgU x.2.1 h
end
end
section
variable {prog:Program} {w:World} {A:Around} {E:Value→Shared→Prop} {s:Shared} {D:Addr} {es:Array (Int×Value)} {ep:Nat} {t:SetTable}
theorem SetC.typeIs (x:SetC s.heap D es ep t):s.TypeIs (.ref D) "set":=let ⟨o,ho,hex,_⟩:=x;⟨o,ho,hex.1⟩
theorem iter_set {Q:Value→Shared→Prop} (hS:SetC s.heap D es ep t) (kp:Kept (!byT w) t) (small:es.size < scanBound)
  (fin:∀ (I:Addr) (h':Heap) (d:Drawn) (fp:List Addr) (ord:List (Int×Value)) (P:Nat→Value→Prop) (St:Nat→Heap→Prop),(∀ b o,s.heap.get? b=some o→h'.get? b=some o)→(∀ b∈fp,b < h'.objs.size)→(∀ b∈fp,b=D∨s.heap.objs.size≤b)→I∈fp→s.heap.objs.size≤h'.objs.size →
   ord.Perm es.toList→(∀ i v,P i v→(ord[i]?).map (·.2)=some v)→(∀ A':Around,A'.handled=none→Walks prog w A' I fp [I] es.size P St)→St 0 h'→D≠I→Q (.ref I) { s with heap:=h',drawn:=d }) :
  wpAny (model prog w) A (pyIter (.ref D)) Q E s:=by
 obtain ⟨oS,hoS,hex,hdS,hf⟩:=id hS
 refine wpAny_pyIter_slot hS.typeIs PySem.F.slot_set_iter (wpAny_call_entry PySem.F.slot_set_iter hS.typeIs SF.set_iter ?_ (PySem.F.args_set_iter_1 _))
 unfold Builtin.«frozenset.__iter__» Builtin.Frozenset.slot0 slotArgs
 simp only [List.isEmpty_nil,Bool.not_true,Bool.false_eq_true,↓reduceIte,bind_assoc,List.length_nil,bne_self_eq_false]
 unfold Builtin.Frozenset.addrOf Builtin.Frozenset.sizeOf
 refine wpAny_bind (wpAny_pure ?_)
 try dsimp only
 refine wpAny_bind (wpAny_pure ?_)
 refine wpAny_bind (wpAny_bind (wpAny_setEntries_of hoS hdS hf (wpAny_pure ?_)))
 unfold setDrawn setsByText
 refine wpAny_bind (wpAny_bind (wpAny_setState_of hoS hdS hf ?_))
 dsimp only
 refine wpAny_bind (wpAny_bind (wpAny_askSetting (wpAny_pure ?_)))
 refine wpAny_pure ?_
 refine (show wpAny _ A.in1 (if (!byT w&&QcP es t)=true then _ else _) _ E s from ?_)
 have lt:D < s.heap.objs.size:=Heap.lt_size hoS
 have plain:∀ (P:Nat→Value→Prop) (St:Addr→Nat→Heap→Prop) (ord:List (Int×Value)),ord.Perm es.toList→(∀ i v,P i v→(ord[i]?).map (·.2)=some v)→(∀ I,D≠I→∀ A':Around,A'.handled=none→Walks prog w A' I [I,D] [I] es.size P (St I)) →
   (∀ h',SIt h' s.heap.objs.size D (rawInt 0) 0 es.size ep→SetC h' D es ep t→St s.heap.objs.size 0 h') →
   wpAny (model prog w) A.in1 (do
    let first ← pure (rawInt 0)
    let k ← setEpoch D
    let it ← newFields "set_iterator" [first,rawInt 0,Value.ref D,rawInt (es.size:Nat),rawInt (k:Nat)]
    ret it) (fun fin s'=>∃ v,fin=Fin.done (Flow.ret v)∧∃ T' r,s'.TypeIs v T'∧typeLookup (Value.type T') (Str.ofString "__next__")=pure (some r)∧Q v s') E s:=by
  intro P St ord hp hP hW hSt
  refine wpAny_bind (wpAny_pure (wpAny_bind ?_))
  unfold setEpoch
  refine wpAny_bind (wpAny_setState_of hoS hdS hf (wpAny_pure ?_))
  unfold newFields
  refine wpAny_bind (wpAny_newObj_type (wpAny_pure ⟨_,rfl,"set_iterator",_,⟨_,Heap.get?_push_size _ rfl,rfl⟩,SF.si_next.lookup,?_⟩) (by size_fits))
  have sit:SIt (s.heap.push { cls := .type "set_iterator",data := .fields [rawInt 0,rawInt 0,Value.ref D,rawInt (es.size:Nat),rawInt (ep:Nat)].toArray }) s.heap.objs.size D (rawInt 0) 0 es.size ep:=⟨_,Heap.get?_push_size _ rfl,rfl,rfl⟩
  refine fin s.heap.objs.size _ s.drawn [s.heap.objs.size,D] ord P (St s.heap.objs.size) (fun b o e=>Heap.get?_push_of_some _ e) (fun b hb => ?_) (fun b hb => ?_) (by simp) (by rw [Heap.size_push];exact Nat.le_succ _) hp hP (fun A' c=>hW _ (Nat.ne_of_lt lt) A' c) (hSt _ sit (hS.at fun o e=>Heap.get?_push_of_some _ e)) (Nat.ne_of_lt lt)
  ·rw [Heap.size_push]
   rcases List.mem_cons.mp hb with q | q
   ·rw [q];exact Nat.lt_succ_self _
   ·rw [List.mem_singleton.mp q];exact Nat.lt_succ_of_lt lt
  ·rcases List.mem_cons.mp hb with q | q
   ·rw [q];exact .inr (Nat.le_refl _)
   ·exact .inl (List.mem_singleton.mp q)
 cases hT:byT w with
 | true =>
  rw [if_neg (by simp)]
  exact plain _ (fun I i h=>i≤es.size∧SIt h I D (rawInt 0) i es.size ep∧SetC h D es ep t) (pickOrder (w.params.setOrder D ep) es).toList (QbF _ _) (fun i v h=>by rw [Array.getElem?_toList];exact h) (fun I ne A' c=>Qlv hT ne A' c) fun h' x y=>⟨Nat.zero_le _,x,y⟩
 | false =>
  rw [hT] at kp
  cases hD:QcP es t with
  | false =>
   rw [if_neg (by simp)]
   exact plain _ (fun I i h=>i≤es.size∧SIt h I D (rawInt (cur t.place i:Nat)) i es.size ep∧SetC h D es ep t) es.toList (.refl _) (fun i v h=>by rw [Array.getElem?_toList];exact h) (fun I ne A' c=>Qjf hT hD kp hf ne A' c) fun h' x y=>⟨Nat.zero_le _,x,y⟩
  | true =>
   rw [if_pos (by simp)]
   refine wpAny_bind (Qfm _ _ _ _ (List.length_range) fun ys d hy => ?_)
   have hl:ys.length=es.size:=by rw [hy.length_eq,List.length_range]
   have hz:(ys.map fun (j:Nat)=>rawInt j).toArray.size≤sizeLine:=by
    rw [List.size_toArray,List.length_map,hl]
    exact fits_of_scanBound small
   unfold newTuple
   refine wpAny_bind (wpAny_newObj_type ?_ hz)
   unfold setEpoch
   refine wpAny_bind (wpAny_bind (wpAny_setState_of (Heap.get?_push_of_some _ hoS) hdS hf (wpAny_pure ?_)))
   unfold newFields
   refine wpAny_bind (wpAny_newObj_type (wpAny_pure ⟨_,rfl,"set_iterator",_,⟨_,Heap.get?_push_size _ rfl,rfl⟩,SF.si_next.lookup,?_⟩) (by size_fits))
   have lt2:D < (s.heap.push { cls := .type "tuple",data := .seq (ys.map fun (j:Nat)=>rawInt j).toArray }).objs.size:=by rw [Heap.size_push];exact Nat.lt_succ_of_lt lt
   have lt3:s.heap.objs.size < (s.heap.push { cls := .type "tuple",data := .seq (ys.map fun (j:Nat)=>rawInt j).toArray }).objs.size:=by rw [Heap.size_push];exact Nat.lt_succ_self _
   have sit:SIt ((s.heap.push { cls := .type "tuple",data := .seq (ys.map fun (j:Nat)=>rawInt j).toArray }).push { cls := .type "set_iterator",data := .fields [Value.ref s.heap.objs.size,rawInt 0,Value.ref D,rawInt (es.size:Nat),rawInt (ep:Nat)].toArray })
    (s.heap.push { cls := .type "tuple",data := .seq (ys.map fun (j:Nat)=>rawInt j).toArray }).objs.size D (.ref s.heap.objs.size) 0 es.size ep:=⟨_,Heap.get?_push_size _ rfl,rfl,rfl⟩
   refine fin _ _ d [_,D,s.heap.objs.size] (ys.map fun j=>(es[j]?).getD (0,.none)) _ _ (fun b o e=>Heap.get?_push_of_some _ (Heap.get?_push_of_some _ e)) (fun b hb => ?_) (fun b hb => ?_) (by simp) (by rw [Heap.size_push,Heap.size_push];exact Nat.le_succ_of_le (Nat.le_succ _)) ?_ ?_
    (fun A' c=>Qjg (Tp:=s.heap.objs.size) hy (Nat.ne_of_lt lt2) (Nat.ne_of_lt lt3) A' c) ⟨Nat.zero_le _,sit,hS.at fun o e=>Heap.get?_push_of_some _ (Heap.get?_push_of_some _ e),⟨_,Heap.get?_push_of_some _ (Heap.get?_push_size _ rfl),rfl,_,rfl⟩⟩ (Nat.ne_of_lt lt2)
   ·rw [Heap.size_push]
    rcases List.mem_cons.mp hb with q | q
    ·rw [q];exact Nat.lt_succ_self _
    ·rcases List.mem_cons.mp q with q | q
     ·rw [q];exact Nat.lt_succ_of_lt lt2
     ·rw [List.mem_singleton.mp q];exact Nat.lt_succ_of_lt lt3
   ·rcases List.mem_cons.mp hb with q | q
    ·rw [q];exact .inr (Nat.le_of_lt lt3)
    ·rcases List.mem_cons.mp q with q | q
     ·exact .inl q
     ·rw [List.mem_singleton.mp q];exact .inr (Nat.le_refl _)
   ·have e:es.toList=(List.range es.size).map fun j=>(es[j]?).getD (0,.none):=by
     apply List.ext_getElem?
     intro i
     rw [List.getElem?_map,Array.getElem?_toList]
     by_cases h:i < es.size
     ·rw [List.getElem?_range h]
      simp [h]
     ·rw [List.getElem?_eq_none (by rw [List.length_range];omega),Array.getElem?_eq_none (by omega)]
      rfl
    rw [e]
    exact hy.map _
   ·intro i v h
    rw [List.getElem?_map]
    cases hi:ys[i]? with
    | none=>rw [hi] at h;cases h
    | some j =>
     rw [hi,Option.bind_some] at h
     cases hj:es[j]? with
     | none=>rw [hj] at h;cases h
     | some x=>rw [hj] at h;simp [hj];simpa using h
theorem Qbp {α:Type} [DecidableEq α]:∀ {M ks:List α},M.Nodup→(∀ x∈M,x∈ks)→ks.length≤M.length→ks.Perm M
 | [],ks,_,_,h=>by
  rw [List.length_eq_zero_iff.mp (Nat.le_zero.mp h)]
 | x :: M,ks,hn,hs,hl=>by
  rw [List.nodup_cons] at hn
  have hx:x∈ks:=hs x List.mem_cons_self
  have p:=List.perm_cons_erase hx
  refine p.trans (List.Perm.cons x (Qbp hn.2 (fun y hy => ?_) ?_))
  ·exact (List.mem_erase_of_ne (fun e=>hn.1 (by rw [← e];exact hy))).mpr (hs y (List.mem_cons_of_mem _ hy))
  ·rw [List.length_erase_of_mem hx]
   simp at hl
   omega
theorem ite_t {α:Type} {M:Model} {c:Bool} {a b:Sem α} {R:α→Shared→Prop} (h:c=true) (q:wpAny M A a R E s):wpAny M A (if c=true then a else b) R E s:=by
 rw [if_pos h];exact q
theorem hint_set {R:Bool→Shared→Prop} (hT:s.TypeIs (.ref D) "set") (h:R false s):wpAny (model prog w) A (Builtin.List.listLengthHint (.ref D)) R E s:=by
 unfold Builtin.List.listLengthHint
 refine wpAny_bind (wpAny_specialOf hT PySem.F.slot_set_len.lookup ?_)
 dsimp only
 rw [show splitId "set.__len__"=some ("set","__len__") from by kernel_rfl]
 dsimp only
 refine wpAny_bind (wpAny_isInstance hT sub_set_self ?_)
 simp only [Bool.not_true,Bool.false_eq_true,if_false]
 refine ite_t (by kernel_rfl) (wpAny_bind (wpAny_typeOf hT ?_))
 exact wpAny_pure h
theorem Qil {Q:List Value→Shared→Prop} (calm:A.handled=none) (hS:SetC s.heap D es ep t) (kp:Kept (!byT w) t) (small:es.size < scanBound)
  (fin:∀ (h':Heap) (tk:Nat) (d:Drawn) (ord:List (Int×Value)),(∀ b o,s.heap.get? b=some o→h'.get? b=some o)→s.heap.objs.size≤h'.objs.size→ord.Perm es.toList→Q (ord.map (·.2)) { s with heap:=h',toks:=tk,drawn:=d }) :
  wpAny (model prog w) A (collect (.ref D)) Q E s:=by
 obtain ⟨oS,hoS,hex,hdS,hf⟩:=id hS
 have lt:D < s.heap.objs.size:=Heap.lt_size hoS
 have hne:s.heap.objs.size≠D:=Nat.ne_of_gt lt
 unfold collect
 refine wpAny_bind (wpAny_runValue (codeAny_builtin PySem.F.entry_proto_collect ?_))
 rw [Around.under_plainId PySem.F.plain_proto_collect _]
 show wpAny _ A.in1 (newList [] >>= fun l=>again (.builtin "list.__iadd__" ⟨[l,.ref D],[]⟩)) _ _ s
 refine wpAny_bind (wpAny_newObj_type (wpAny_pure ⟨plainId_quiet PySem.F.plain_list_iadd _,codeAny_builtin PySem.F.entry_list_iadd ?_⟩))
 rw [Around.under_plainId PySem.F.plain_list_iadd _]
 have hS1:SetC (s.heap.push { cls := .type "list",data := .seq ([]:List Value).toArray }) D es ep t:=hS.at fun o e=>Heap.get?_push_of_some _ e
 show wpAny _ A.in1 (Builtin.List.listExtendWith (.ref s.heap.objs.size) (.ref D) (.ref s.heap.objs.size)) _ _ _
 unfold Builtin.List.listExtendWith
 refine wpAny_bind (wpAny_typeOf (s:={ s with heap:=s.heap.push { cls := .type "list",data := .seq ([]:List Value).toArray } }) hS1.typeIs ?_)
 have q1:Builtin.List.listSameRef (.ref s.heap.objs.size) (.ref D)=false:=by simp [Builtin.List.listSameRef,hne]
 have q2:(Value.type "set"==Value.type "list")=false:=by decide
 have q3:(Value.type "set"==Value.type "tuple")=false:=by decide
 simp only [q1,q2,q3,Bool.or_false,Bool.false_eq_true,if_false]
 refine wpAny_bind (iter_set (s:={ s with heap:=s.heap.push { cls := .type "list",data := .seq ([]:List Value).toArray } }) hS1 kp small fun I h2 d fp ord P St k2 hfp hfp2 hI hsz hp hP hW st hDI => ?_)
 refine wpAny_bind (wpAny_holding ?_)
 have hS2:SetC h2 D es ep t:=hS1.at fun o e=>k2 D o e
 refine hint_set (s:={ s with heap:=h2,drawn:=d }) hS2.typeIs ?_
 refine ite_t (by kernel_rfl) (wpAny_bind (wpAny_rule (wpAny_bind ?_)))
 have L0:h2.get? s.heap.objs.size=some { cls := .type "list",data := .seq ([]:List Value).toArray }:=k2 _ _ (Heap.get?_push_size _ rfl)
 show wpAny _ A.in1 (updateSeq s.heap.objs.size (·.push .none) >>= fun _=>updateSeq s.heap.objs.size (·.pop)) _ _ _
 refine wpAny_bind (wpAny_updateSeq L0 rfl ?_)
 have L1:=Heap.get?_update_self (Obj.mapSeq (·.push Value.none)) L0 rfl
 refine wpAny_updateSeq L1 rfl ?_
 have L2:=Heap.get?_update_self (Obj.mapSeq (·.pop)) L1 rfl
 have nin:s.heap.objs.size∉fp:=fun z=>by
  rcases hfp2 _ z with q | q
  ·exact hne q
  ·have q:(s.heap.push { cls := .type "list",data := .seq ([]:List Value).toArray }).objs.size≤s.heap.objs.size:=q
   rw [Heap.size_push] at q
   exact absurd q (Nat.not_succ_le_self _)
 have W:=(hW A.in1 (by simp [calm]):Walks prog w A.in1 I fp [I] es.size P St)
 have oth:∀ b o,b≠s.heap.objs.size→h2.get? b=some o→((h2.update s.heap.objs.size (Obj.mapSeq (·.push Value.none))).update s.heap.objs.size (Obj.mapSeq (·.pop))).get? b=some o:=fun b o hb e =>
  (Heap.get?_update_other _ _ (Ne.symm hb)).trans ((Heap.get?_update_other _ _ (Ne.symm hb)).trans e)
 refine wpAny_pure ⟨plainId_quiet PySem.F.plain_extend_loop _,codeAny_extend_loopS W.toS (fits_of_scanBound small) _ nin _ es.size 0 _ _ _ rfl (Nat.zero_le _) (W.frame 0 _ _ st fun b hb o e=>oth b o (fun q=>nin (q ▸ hb)) e) L2 (ItemsOf.nil P) fun s' acc c hm hS' hacc => ?_⟩
 refine wpAny_bind (wpAny_load hS' (wpAny_pure ?_))
 obtain ⟨h3,g3,d3,tk3,os3⟩:=s'
 obtain rfl:g3=s.gens:=hm.gens
 obtain rfl:d3=d:=hm.drawn
 obtain rfl:os3=s.os:=hm.os
 have ol:ord.length=es.size:=by
  have:=hp.length_eq
  simpa using this
 have e:acc.toList=ord.map (·.2):=by
  apply List.ext_getElem?
  intro j
  rw [List.getElem?_map,Array.getElem?_toList]
  by_cases hj:j < es.size
  ·have g:acc[j]?=some (acc[j]'(by rw [hacc.1];exact hj)):=Array.getElem?_eq_getElem _
   rw [g]
   exact (hP j _ (hacc.2 j _ g)).symm
  ·rw [Array.getElem?_eq_none (by rw [hacc.1];omega),List.getElem?_eq_none (by omega)]
   rfl
 rw [e]
 refine fin h3 tk3 d3 ord (fun b o q => ?_) ?_ hp
 ·have bl:b < s.heap.objs.size:=Heap.lt_size q
  refine hm.heap b o (fun z => ?_) (oth b o (Nat.ne_of_lt bl) (k2 b o (Heap.get?_push_of_some _ q)))
  rcases List.mem_cons.mp z with z | z
  ·exact absurd z (Nat.ne_of_lt bl)
  ·rw [List.mem_singleton.mp z] at bl
   rcases hfp2 I hI with y | y
   ·exact hDI y.symm
   ·have y:(s.heap.push { cls := .type "list",data := .seq ([]:List Value).toArray }).objs.size≤I:=y
    rw [Heap.size_push] at y
    exact absurd (Nat.lt_of_lt_of_le bl (Nat.le_of_succ_le y)) (Nat.lt_irrefl _)
 ·exact Nat.le_of_lt (Heap.lt_size hS')
end
section
variable {X:Cx} {e a b c:Expr} {es:List Expr} {ms ns ls:List Nat} {m m1 m2 m3:MEx} {ma:PEnv→Option (List PV)} {pos p p1 p2 p3 pos':Pos} {x:Str} {id T:String}
theorem _root_.L2.Inv.drawn {pins:List (Addr×Obj)} {σ:St} {H:Hp} {s:Shared} (I:Inv X pins σ H s) (d:Drawn):Inv X pins σ H { s with drawn:=d }:=⟨I.ok,I.os,I.bare,I.base,I.loc,I.cell,I.free,I.freeC,I.pin,I.hok,I.len⟩
end
end L2.PM
namespace L2.PM
open PySem PySem.Spec PyProof.Rows
open PySem.AutoSeq1 (wpAny_loadPart')
end L2.PM
namespace L2.PM
open PySem PySem.Spec PyProof.Rows
section
variable {X:Cx} {pins:List (Addr×Obj)} {σ:St} {H:Hp} {s:Shared} {h':Heap}
theorem _root_.L2.Inv.turnsNew {ch:List Addr} {tk:Nat} {T:Addr} {o:HO} (I:Inv X pins σ H s) (hf:∀ b∈ch,FpOk X pins H b) (k:∀ b u,b∉ch→s.heap.get? b=some u→h'.get? b=some u) (hT:s.heap.objs.size≤T)
  (new:YK X.prog X.w (upd H T o) h' T o):Inv X pins σ (upd H T o) { s with heap:=h',toks:=tk }:=by
 have hn:H T=none:=I.hok.fresh hT
 have lt:∀ b u,s.heap.get? b=some u→b≠T:=fun b u e z=>absurd (Nat.lt_of_lt_of_le (Heap.lt_size e) (z ▸ hT)) (Nat.lt_irrefl _)
 have nch:∀ b u,H b=some u→b∉ch:=fun b u e z=>by rw [(hf b z).1] at e;cases e
 refine I.call' (ch:=ch) rfl ⟨fun b u e _ _ hc=>k b u hc e,fun b u e _ _ hc=>⟨u.slots,k b u hc e⟩,fun b u e n _=>by rw [Qr (lt b u e)];exact n,fun b u e hc=>⟨u,k b u hc e⟩,fun b xs e=>by rw [Qr (Qs e hn)];exact e,
  fun b u v e=>by rw [Qr (Qs e hn)];exact e,fun b ps e=>⟨#[],by rw [Qr (Qs e hn)];simpa using e⟩⟩ (fun b u e => ?_) I.bare fun b hb => ?_
 ·by_cases hb:b=T
  ·subst hb
   rw [Qq] at e
   cases e
   exact new
  ·rw [Qr hb] at e
   refine (I.hok b u e).stay (fun c v hc q=>k c v ?_ q) (fun c q=>by rw [Qr (Qs q hn)];exact q) fun c xs q=>by rw [Qr (Qs q hn)];exact q
   rcases hc with z | z
   ·rw [z];exact nch b u e
   ·exact nch c _ z
 ·obtain ⟨_,f1,_,f3,f4,f5⟩:=hf b hb
  exact ⟨f3,f1,f4,f5⟩
theorem _root_.L2.Inv.turns {ch:List Addr} {tk:Nat} (I:Inv X pins σ H s) (hf:∀ b∈ch,FpOk X pins H b) (k:∀ b u,b∉ch→s.heap.get? b=some u→h'.get? b=some u):Inv X pins σ H { s with heap:=h',toks:=tk }:=by
 have nch:∀ b u,H b=some u→b∉ch:=fun b u e z=>by rw [(hf b z).1] at e;cases e
 refine I.call' (ch:=ch) rfl ⟨fun b u e _ _ hc=>k b u hc e,fun b u e _ _ hc=>⟨u.slots,k b u hc e⟩,fun b u e n _=>n,fun b u e hc=>⟨u,k b u hc e⟩,fun b xs e=>e,fun b u v e=>e,fun b ps e=>⟨#[],by simpa using e⟩⟩ (fun b u e => ?_) I.bare fun b hb => ?_
 ·refine (I.hok b u e).stay (fun c v hc q=>k c v ?_ q) (fun c q=>q) fun c xs q=>q
  rcases hc with z | z
  ·rw [z];exact nch b u e
  ·exact nch c _ z
 ·obtain ⟨_,f1,_,f3,f4,f5⟩:=hf b hb
  exact ⟨f3,f1,f4,f5⟩
end
def Ite (sq:Hp→List V→Prop):It :=
 ⟨fun i H=>∃ xs x,sq H xs∧xs[i]?=some x,fun i H v H'=>∃ T x,v = .ref T∧H T=none∧H'=upd H T (.tup [.int i,x])∧∀ xs,sq H xs→xs[i]?=some x,fun i H=>∃ xs,sq H xs∧xs.length≤i⟩
section
variable {X:Cx} {e a b c:Expr} {es:List Expr} {ms ns ls:List Nat} {m m1 m2 m3:MEx} {ma:PEnv→Option (List PV)} {pos p p1 p2 p3 pos':Pos} {x:Str} {id T:String} {tg:Expr}
theorem im_seq (h:EM X ms e m):IM X ms tg e (iSeq m):=by
 intro pins s σ H R I q
 obtain ⟨F,γ,xs,h1,h2,h3,w⟩:=q
 obtain ⟨p,e1,e2⟩:=Qi h3
 cases p with
 | lst ys =>
  cases e2
  exact Yx h pins s σ H R I ⟨F,γ,_,h1,h2,by unfold iLst;rw [e1];rfl,w⟩
 | tup ys =>
  cases e2
  exact Qkk h pins s σ H R I ⟨F,γ,_,h1,h2,by unfold iTpl;rw [e1];rfl,w⟩
 | _=>cases e2
end
section
namespace SF
end SF
end
end L2.PM
namespace L2.PM
open PySem PySem.Spec PyProof.Rows
open PySem.AutoSeq1 (wpAny_loadPart')
end L2.PM
namespace L2.PM
open PySem
def extK (ms:List Nat) (i:Nat) (γ:PEnv):PV→Option Slot→Option Out
 | .tup ys,some (.ow xs)=>if xs.length + ys.length < LIM∧(!ms.contains i)=true then some (.nx ((Zt (flat (.tup ys)) ms γ).set i (.ow (xs++ys)))) else none
 | _,_=>none
def sExt (ms:List Nat) (i:Nat) (m:MEx):MSt:=fun γ=>(m γ).bind fun r=>extK ms i γ r γ[i]?
def pRep:PV→PV→Option (List PV)
 | .lst a,.int k=>if -1000≤k∧k≤1000∧a.length≤1000 then some (List.replicate k.toNat a).flatten else none
 | _,_=>none
def bls?:List PV→Option (List Bool)
 | []=>some []
 | .bl b :: xs=>(bls? xs).map (b :: ·)
 | _ :: _=>none
theorem Qjd:∀ {xs:List PV} {bs:List Bool},bls? xs=some bs→xs=bs.map PV.bl
 | [],bs,h=>by cases h;rfl
 | .bl b :: xs,bs,h=>by
  have h:(bls? xs).map (b :: ·)=some bs:=h
  cases e:bls? xs with
  | none=>rw [e] at h;cases h
  | some cs=>rw [e] at h;cases h;rw [Qjd e];rfl
 | .non :: _,_,h=>by cases h
 | .int _ :: _,_,h=>by cases h
 | .str _ :: _,_,h=>by cases h
 | .tup _ :: _,_,h=>by cases h
 | .lst _ :: _,_,h=>by cases h
theorem Qjc:∀ bs:List Bool,bls? (bs.map PV.bl)=some bs
 | []=>rfl
 | b :: bs=>by
  show (bls? (bs.map PV.bl)).map (b :: ·)=_
  rw [Qjc bs];rfl
def QjQ:List PV→Option PV
 | [.lst xs]=>(bls? xs).map fun bs => .bl (bs.all id)
 | _=>none
end L2.PM
namespace L2.PM
open PySem PySem.Spec PyProof.Rows
namespace SF
end SF
section
variable {prog:Program} {w:World} {A:Around} {E:Value→Shared→Prop} {s:Shared}
def IsRv (h:Heap) (a l:Addr) (i:Int):Prop:=∃ o,h.get? a=some o∧o.cls = .type "reversed"∧o.data = .fields #[.ref l,rawInt i]
theorem IsRv.at {h h':Heap} {a l:Addr} {i:Int} (x:IsRv h a l i) (e:∀ o,h.get? a=some o→h'.get? a=some o):IsRv h' a l i:=let ⟨o,ho,r⟩:=x;⟨o,e _ ho,r⟩
end
end L2.PM
namespace L2.PM
open PySem PySem.Spec PyProof.Rows
open PySem.AutoSeq1 (wpAny_loadPart')
theorem Qjq (l:Addr) (items:Array Value) (n:Nat) (b:Addr) (items2:Array Value) (o2:Obj) (n2:Nat) (hc:o2.cls = .type "tuple") (hd:o2.data = .seq items2 n2)
  (hs0:¬(!items.isEmpty&&Builtin.List.listTooLong (items.size + items2.size))=true) (hs1:items.size≤sizeLine) (hs2:items.size + items2.size≤sizeLine + 1) :
  Meets (Builtin.«list.extend» ⟨[.ref l,.ref b],[]⟩) (fun _ R s=>s.heap.get? l=some { cls := .type "list",dict:=none,data := .seq items n,slots := #[] }∧s.heap.get? b=some o2∧R (.ok (.ret Value.none)) { s with heap:=s.heap.update l (Obj.mapSeq fun x=>x++items2),toks:=s.toks }) :=
 .of_wp fun prog w A R s h=>by
  obtain ⟨c2,d2,data2,sl2⟩:=o2
  dsimp only at hc hd
  subst hc hd
  obtain ⟨hp,g,d,tk,os⟩:=s;obtain ⟨hl,hb,h⟩:=h;have f1:=PySem.AutoSeq1.idx_int;have f2:=PySem.AutoSeq1.sub_tuple_tuple;have f3:=PySem.AutoSeq1.sub_list_list;have f4:=PySem.AutoSeq1.sub_tuple_list;have f5:=PySem.AutoSeq1.sub_list_tuple;
  have hz':(items++items2).size≤sizeLine + 1:=by rw [Array.size_append];exact hs2
  wp_walk using (wpAny_updateSeq hl rfl (hz:=hs1) (_hz':=hz')),wpAny_loadPart' hl,wpAny_loadPart' hb;exact ⟨_,rfl,h⟩
section
variable {X:Cx} {e a b c:Expr} {es:List Expr} {ms ns ls:List Nat} {m m1 m2 m3:MEx} {ma:PEnv→Option (List PV)} {pos p p1 p2 p3 pos':Pos} {x:Str} {id T:String} {tg:Expr}
def rExtT (K:PySem.W.Frag):V→List V→Hp→VK→Prop:=fun x vs H Q=>∃ l b xs zs,x = .ref l∧vs=[.ref b]∧H l=some (.lst xs)∧SqT K H b zs∧xs.length + zs.length≤sizeLine∧Q .non (upd H l (.lst (xs++zs)))
theorem mt_extT:MtM X "list.extend" (rExtT X.K):=by
 intro pins s σ H x vs v us Q I rx rv h
 obtain ⟨l,b,xs,zs,rfl,rfl,hH,hB,hz,q⟩:=h
 cases rx
 obtain ⟨u,rfl,ru⟩:=rv.one
 cases ru
 obtain ⟨z,its,n,r,hl,e⟩:=I.lstM hH
 obtain ⟨its2,r2,pt,z2⟩:=I.tuple hB
 obtain ⟨o2,e2,hc,n2,hd⟩:=pt
 have hl2:=r2.length
 have hsz:its.toArray.size + its2.toArray.size≤sizeLine:=by rw [List.size_toArray,List.size_toArray];omega
 have hlong:¬ (!its.toArray.isEmpty&&Builtin.List.listTooLong (its.toArray.size + its2.toArray.size))=true:=by
  rw [QiI hsz,Bool.and_false]
  exact Bool.false_ne_true
 refine call_meets F.slot_list_extend ⟨_,e,rfl⟩ F.entry_list_extend (F.args_list_extend_2 _ _)
  (Qjq l its.toArray n b its2.toArray o2 n2 hc hd hlong (by rw [List.size_toArray];omega) (by omega)) ⟨e,e2,?_⟩
 refine ⟨.non,_,I.lset (its':=its++its2) hH e (by simp) (r.append r2) ?_,rfl,q⟩
 rw [List.length_append]
 omega
end
end L2.PM
namespace L2.PM
open PySem PySem.Spec PyProof.Rows
section
variable {X:Cx}
theorem Qio:∀ {bs:List Bool} {its:List Value},Vals (bs.map V.bl) its→its=bs.map Value.bool
 | [],_,h=>by cases h;rfl
 | b :: bs,_,h=>by
  cases h with
  | cons h1 h2=>rw [Qio h2,show _=Value.bool b from h1];rfl
theorem Qiz {K:PySem.W.Frag} {F:Hp}:∀ {bs:List Bool} {vs:List V},RepL K F (bs.map PV.bl) vs→vs=bs.map V.bl
 | [],vs,h=>by
  rw [List.map_nil] at h
  unfold RepL at h
  exact h
 | b :: bs,vs,h=>by
  rw [List.map_cons] at h
  unfold RepL at h
  obtain ⟨v,t,rfl,h1,h2⟩:=h
  unfold Rep at h1
  rw [h1,Qiz h2];rfl
theorem kept_it {s:Shared} {h':Heap} {o:Obj} (hk:∀ b x,b∉[s.heap.objs.size]→(s.heap.push o).get? b=some x→h'.get? b=some x):∀ b x,s.heap.get? b=some x→h'.get? b=some x :=
 fun b x e=>hk b x (fun hm=>by rw [List.mem_singleton.mp hm] at e;exact Nat.lt_irrefl _ (Heap.lt_size e)) (Heap.get?_push_of_some _ e)
theorem rng_all (bs:List Bool):((List.range bs.length).all fun i=>(bs[i]?).getD true)=bs.all id:=by
 rw [Bool.eq_iff_iff,List.all_eq_true,List.all_eq_true]
 constructor
 ·intro h x hx
  obtain ⟨i,hi,rfl⟩:=List.mem_iff_getElem.mp hx
  have:=h i (List.mem_range.mpr hi)
  simpa [hi] using this
 ·intro h i hi
  have hi:=List.mem_range.mp hi
  simpa [hi] using h bs[i] (List.getElem_mem hi)
theorem Qmt (hc:X.calm=true):QaR X (.builtin "all") (fun vs H Q=>∃ (a:Addr) (bs:List Bool),vs=[.ref a]∧SqL X.K H a (bs.map V.bl)∧Q (.bl (bs.all id)) H):=by
 intro pins s σ H vs us Q I rs h
 obtain ⟨a,bs,rfl,h2,h3⟩:=h
 obtain ⟨u,rfl,ru⟩:=XH rs
 cases ru
 obtain ⟨its,r,pl,_⟩:=I.list h2
 have e:=Qio r
 subst e
 have hl:=pl.isList
 have hlt:a < s.heap.objs.size:=by obtain ⟨_,e,_⟩:=hl;exact Heap.lt_size e
 refine call_all_walk (wpAny_pyIter_list hl ?_)
 refine ⟨s.heap.objs.size,[s.heap.objs.size,a],[s.heap.objs.size],(bs.map Value.bool).toArray.size,_,_,fun i=>(bs[i]?).getD true,rfl,Walks.list (A:=X.A.in1) (I.ok.hd hc) _ a (Nat.ne_of_lt hlt) (bs.map Value.bool).toArray,
  ⟨⟨_,Heap.get?_push_size _ rfl,rfl,rfl⟩,hl.push _⟩,fun i v s' Q' E' hP hQ => ?_,fun h' tk hk => ?_⟩
 ·have hP:(bs.map Value.bool)[i]?=some v:=by simpa using hP
  rw [List.getElem?_map,Option.map_eq_some_iff] at hP
  obtain ⟨b,e,rfl⟩:=hP
  simp only [e,Option.getD_some] at hQ
  exact wpAny_truthy_bool hQ
 ·have e:((List.range (bs.map Value.bool).toArray.size).all fun i=>(bs[i]?).getD true)=bs.all id:=by
   rw [List.size_toArray,List.length_map];exact rng_all bs
  rw [e]
  exact ⟨.bl (bs.all id),H,I.kept (t':=tk) (kept_it hk),rfl,h3⟩
theorem cm_all (hc:X.calm=true):QgD X (.builtin "all") QjQ:=by
 intro pins s σ H vs us Q I rs h
 obtain ⟨F,ps,r,h1,h2,h3,w⟩:=h
 refine Qmt hc pins s σ H vs us Q I rs ?_
 unfold QjQ at h3
 split at h3
 ·rename_i xs
  obtain ⟨bs,e1,rfl⟩:=Yp h3
  have e2:=Qjd e1
  subst e2
  unfold RepL at h2
  obtain ⟨v,t,rfl,h2,ht⟩:=h2
  unfold RepL at ht
  subst ht
  unfold Rep at h2
  obtain ⟨a,us,rfl,k2,k3⟩:=h2
  have e3:=Qiz k3
  subst e3
  exact ⟨a,bs,rfl,h1.seq k2,w.here h1 (YH _)⟩
 ·cases h3
end
theorem Qjj {P:Program} {w:World} {K:PySem.W.Frag} {elts:List Expr} {kk:Nat} {pp:Pos} (a it e:Addr) (hne:e≠it):Turn P w K (.Tuple elts kk pp) (Ite fun H xs=>SqL K H a xs) [e,it] e (fun i h=>(∃ old,IsEnum h e it i old)∧h.IsListIter it a i) where
 mem:=by simp
 obj:=fun i h st b hb=>by
  obtain ⟨⟨old,he⟩,o,ho,c,d⟩:=st
  rcases List.mem_cons.mp hb with z | z
  ·subst z
   exact ⟨_,he,fun v q=>by
    have q:Data.fields _=Data.cell v:=q
    cases q⟩
  ·rw [List.mem_singleton.mp z]
   exact ⟨o,ho,fun v q=>by rw [d] at q;cases q⟩
 keep:=fun i h h' st k=>by
  obtain ⟨⟨old,he⟩,st2⟩:=st
  exact ⟨⟨old,k e (by simp) _ he⟩,st2.at fun o q=>k it (by simp) o q⟩
 item:=by
  intro X hP hw hK hc i pins s σ H E I hf st hg
  subst hP hw hK
  obtain ⟨xs,x,hq,hx⟩:=hg
  obtain ⟨its,rv,pl,hz⟩:=I.list hq
  have p:=pl.isList
  obtain ⟨u,hu,ru⟩:=rv.get hx
  have hlen:=rv.length
  have hi:i < its.length:=(List.getElem?_eq_some_iff.mp hu).1
  have nai:a≠it:=fun z=>by
   obtain ⟨⟨oi,hoi,ci,_⟩⟩:=(⟨st.2⟩:Nonempty _)
   obtain ⟨oa,hoa,ca,_⟩:=p
   rw [z,hoi] at hoa
   cases hoa
   rw [ci] at ca
   exact absurd ca (by decide)
  have nae:e∉[it,a]:=fun z=>by
   rcases List.mem_cons.mp z with z | z
   ·exact hne z
   ·have z:=List.mem_singleton.mp z
    obtain ⟨⟨old,he⟩,_⟩:=st
    obtain ⟨oa,hoa,ca,_⟩:=p
    rw [← z,he] at hoa
    cases hoa
    exact absurd (show Value.type "enumerate"=Value.type "list" from ca) (by decide)
  have W:=WalksT.enumerateD (A:=X.A) (Draws.list (prog:=X.prog) (w:=X.w) (A:=X.A.in1) (by have:=I.ok.hd hc;simp [this]) it a nai its.toArray) e hne nae (by simp)
  refine W.item i s _ _ (by simpa using hi) ⟨st.1,st.2,p⟩ fun T vals h1 tk hp hT tup mid k1 => ?_
  obtain ⟨tt,y,hy,rfl⟩:=hp
  have hy:y=u:=by
   rw [List.getElem?_toArray,hu] at hy
   exact (Option.some.inj hy).symm
  subst hy
  have apart:=W.apart i T h1 mid
  refine ⟨_,rfl,W.go elts kk pp i T { s with heap:=h1,toks:=tk } _ _ mid fun h2 st2 k2 => ?_⟩
  have hn:H T=none:=I.hok.fresh hT
  have tup2:h2.IsTuple T #[.int i tt,y]:=tup.at fun o q=>k2 T o apart q
  have I2:Inv X pins σ (upd H T (.tup [.int i,x])) { s with heap:=h2,toks:=tk }:=I.turnsNew (ch:=[e,it]) (o := .tup [.int i,x]) hf (fun b o hb q=>k2 b o hb (k1 b o hb q)) hT ⟨by show 2≤sizeLine;decide,[.int i tt,y],.cons ⟨tt,rfl⟩ (.cons ru .nil),QaB.pair tup2⟩
  refine ⟨.ref T,_,I2,rfl,⟨T,x,rfl,hn,rfl,fun ys hy=>by rw [I.list_inj hy hq];exact hx⟩,⟨st2.1,st2.2.1⟩,fun b hb => ?_⟩
  have hbT:b≠T:=fun z=>apart (z ▸ hb)
  rw [Qr hbT]
  exact (hf b hb).1
 done:=by
  intro X hP hw hK hc i pins s σ H E I hf st hg
  subst hP hw hK
  obtain ⟨xs,hq,hx⟩:=hg
  obtain ⟨its,rv,pl,hz⟩:=I.list hq
  have p:=pl.isList
  have hlen:=rv.length
  obtain ⟨⟨old,he⟩,st2⟩:=st
  have D:Draws X.prog X.w X.A.in1 it [it,a] i (fun _ _=>True) (fun j h=>j=i∧h.IsListIter it a i∧h.IsList a its.toArray) :=
   {live:=fun _ _ q=>let ⟨_,⟨o,ho,_⟩,_⟩:=q;⟨o,ho⟩
    frame:=fun _ _ _ q k=>⟨q.1,q.2.1.at fun o z=>k it (by simp) o z,q.2.2.at fun o z=>k a (by simp) o z⟩
    item:=fun j s Q E hj q _=>absurd q.1 (Nat.ne_of_lt hj)
    done:=fun s Q E q fin=>wpAny_nextOf_list_end (by have:=I.ok.hd hc;simp [this]) q.2.1 q.2.2 (by simp;omega) fin }
  exact wpAny_pyNext_enum_endD D he ⟨rfl,st2,p⟩ fun h1 k=>⟨rfl,I.turns (tk:=s.toks) (ch:=[e,it]) hf fun b o hb q=>k b o (fun z=>hb (by simp [z])) q⟩
 self:=fun A i s Q E st h=>wpAny_pyIter_enum st.1.choose_spec h
section
variable {X:Cx} {e a b c:Expr} {es:List Expr} {ms ns ls:List Nat} {m m1 m2 m3:MEx} {ma:PEnv→Option (List PV)} {pos p p1 p2 p3 pos':Pos} {x:Str} {id T:String} {tg:Expr}
theorem star_int {i:Int} {j:Nat} {q:Pos} {es:List Expr} {env:Env}:starEach (.Constant (.int i) j q :: es) env=(false,eval (.Constant (.int i) j q) env) :: starEach es env:=rfl
theorem Yy {i:Int} {j:Nat} {q:Pos} (hr:AM X [] es ma):AM X [] (.Constant (.int i) j q :: es) (Qc (mC (.int i)) ma):=Qb Qg hr star_int
theorem pi_enumL {elts:List Expr} {kk:Nat} {pp:Pos} {ta:TA} (hg:Gl X "enumerate") (hm:X.mg "enumerate"=none) (ha:PA X [a] ta) (hs:starEach [a] X.env=[(false,eval a X.env)]:=by rfl) :
  PI X (.Tuple elts kk pp) (.Call (.Name "enumerate" p) [a] [] pos) (fun σ H R=>ta σ H fun vs H1=>∃ l,vs=[.ref l]∧(∃ xs,SqL X.K H1 l xs)∧R (Ite fun H xs=>SqL X.K H l xs) H1):=by
 intro pins s σ H R I h
 refine Call_ (QfJ I hg hm (show bootBuiltins "enumerate"=some (.type "enumerate") from by kernel_rfl) (PyProof.Rows.callWith_type1 (thn (ha pos pins s σ H _ I h) fun us s1 ⟨vs,H1,I1,r1,q1⟩ => ?_) hs rfl))
 obtain ⟨l,rfl,⟨xs,hq⟩,q⟩:=q1
 obtain ⟨u,rfl,ru⟩:=XH r1
 cases ru
 obtain ⟨its,rv,pl,hz⟩:=I1.list hq
 refine call_enumerate_list pl.isList fun h' he hit _ k => ?_
 refine wpAny_pyIter_enum he ?_
 refine ⟨s1.heap.objs.size + 1,[s1.heap.objs.size + 1,s1.heap.objs.size],_,_,H1,rfl,I1.kept (t':=s1.toks) k,Qjj l s1.heap.objs.size (s1.heap.objs.size + 1) (Nat.succ_ne_self _),⟨⟨_,he⟩,hit⟩,fun b hb => ?_,q⟩
 have hle:s1.heap.objs.size≤b:=by
  rcases List.mem_cons.mp hb with z | z
  ·rw [z];exact Nat.le_succ _
  ·rw [List.mem_singleton.mp z];exact Nat.le_refl _
 exact I1.fpOk hle (I1.hok.fresh hle)
theorem QiQ {elts:List Expr} {kk:Nat} {pp:Pos} (hc:X.calm=true) (hg:Gl X "enumerate") (hm:X.mg "enumerate"=none) (ha:AM X ms [a] ma) (hs:starEach [a] X.env=[(false,eval a X.env)]:=by rfl) :
  IM X ms (.Tuple elts kk pp) (.Call (.Name "enumerate" p) [a] [] pos) (Qj QfE ma) :=
 PI.imp (pi_enumL hg hm ha hs) fun σ H R ⟨F,γ,xs,k1,k2,k3,w⟩=>by
  obtain ⟨qs,e1,k3⟩:=Qi k3
  refine ⟨F,γ,qs,k1,k2,e1,fun vs H1 F1 g1 q1 => ?_⟩
  unfold QfE at k3
  split at k3
  ·rename_i ys
   cases k3
   unfold RepL at q1
   obtain ⟨v,t,rfl,q1,qt⟩:=q1
   unfold RepL at qt
   subst qt
   unfold Rep at q1
   obtain ⟨l,us,rfl,sl,rl⟩:=q1
   refine ⟨l,rfl,⟨us,g1.sub.seq sl⟩,w _ _ _ g1 ?_⟩
   refine ⟨fun i H2 hi e2 => ?_,fun i H2 v H3 hi e2 y => ?_,fun H2 e2 => ?_⟩
   ·have hv:i < us.length:=by
     rw [rl.length]
     simpa using hi
    exact ⟨us,us[i],e2.seq sl,by simp [hv]⟩
   ·obtain ⟨T,x,rfl,hn,rfl,y⟩:=y
    obtain ⟨p,e3,e4⟩:=rl.back (y us (e2.seq sl))
    refine ⟨.tup [pN i,p],?_,fun F2 x1 x2 => ?_⟩
    ·simp [e3]
    ·refine ⟨upd F2 T (.tup [.int i,x]),.laid x2 hn,?_⟩
     unfold Rep
     exact ⟨T,[.int i,x],rfl,.of Qq,.cons (ZD _) (.cons (e4.mono (x1.trans (Grow.laid (o := .tup [.int i,x]) x2 hn).ext)) .nil)⟩
   ·exact ⟨us,e2.seq sl,by rw [rl.length];simp⟩
  ·cases k3
end
section
variable {X:Cx}
theorem op_repS:OpR X (binaryOp .Mult) (fun x y H Q=>∃ l k xs,x = .ref l∧y = .int k∧SqL X.K H l xs ∧ -(2 ^ 63)≤k∧k < 2 ^ 63∧xs.length * k.toNat≤2 ^ 24∧∀ p,H p=none→Q (.ref p) (upd H p (.lst (List.replicate k.toNat xs).flatten))):=by
 intro pins s σ H x y v u Q I rx ry h
 obtain ⟨l,k,xs,rfl,rfl,hH,h1,h2,hz,q⟩:=h
 cases rx
 obtain ⟨t,rfl⟩:=ry
 obtain ⟨its,r,⟨⟨cls,dd,data,sl⟩,n,e,c,_,d⟩,_⟩:=I.list hH
 simp only at c d
 subst c d
 have hsz':its.toArray.size * k.toNat≤2 ^ 24:=by rw [List.size_toArray,← r.length];exact hz
 refine wpAny_binaryOp_repeat_ref (T := "list") (U := "int") (by decide) ⟨_,e,rfl⟩ (fun s'=>typeIs_int s' k t) noFill_list_mul PySem.F.fills_int_mul PySem.F.slot_int_rmul repeat_list PySem.F.slot_int_index.lookup
  (call_meets PySem.F.slot_int_rmul (typeIs_int s k t) PySem.F.entry_int_rmul (PySem.F.args_int_rmul_2 _ _) (lm_int_rmul_list_any k t l its.toArray n dd sl)
   ⟨e,rfl,⟨_,e,rfl⟩,call_meets PySem.F.slot_list_mul ⟨_,e,rfl⟩ PySem.F.entry_list_mul (PySem.F.args_list_mul_2 _ _)
    (lm_list_mul_any l its.toArray n dd sl k t (by simp [Builtin.List.listFitsIndex];omega) (by omega) (by simp [Builtin.List.listTooLong,sizeLine];omega))
    ⟨e,?_⟩⟩)
 rw [listMul_foldl_if]
 have hs:(2:Nat) ^ 24≤sizeLine:=by decide
 exact ⟨.ref _,_,I.lnew (t':=s.toks) (r.rep k.toNat) (by rw [len_rep,Nat.mul_comm];omega),rfl,q _ I.fresh⟩
theorem RepL.rep {K:PySem.W.Frag} {F:Hp} {ps:List PV} {vs:List V} (h:RepL K F ps vs):∀ k:Nat,RepL K F (List.replicate k ps).flatten (List.replicate k vs).flatten
 | 0 => .nil
 | k + 1=>by
  rw [List.replicate_succ,List.flatten_cons,List.replicate_succ,List.flatten_cons]
  exact h.append (RepL.rep h k)
theorem oo_rep:OpO X (binaryOp .Mult) pRep:=by
 intro pins s σ H x y v u Q I rx ry h
 obtain ⟨F,p,q,r,h1,h2,h3,h4,w⟩:=h
 cases p <;> cases q <;> first
  | (exfalso;cases h4;done)
  | skip
 rename_i xs k
 have h4:(if -1000≤k∧k≤1000∧xs.length≤1000 then some (List.replicate k.toNat xs).flatten else none)=some r:=h4
 obtain ⟨c,rfl⟩:=Qz h4
 unfold Rep at h2 h3
 obtain ⟨a,vs,rfl,sa,ra⟩:=h2
 subst h3
 refine op_repS pins s σ H _ _ v u Q I rx ry ⟨a,k,vs,rfl,rfl,h1.seq sa,by omega,by omega,?_,fun p hp => ?_⟩
 ·rw [ra.length]
  have:k.toNat≤1000:=by omega
  exact Nat.le_trans (Nat.mul_le_mul c.2.2 this) (by decide)
 ·have nF:F p=none:=h1.free hp
  exact w p _ _ F (.side h1 hp) hp nF Qq (RepL.rep ra k.toNat)
end
section
variable {X:Cx} {pos p:Pos} {x:Str}
theorem em_globI {i:Int} {t:Tok} (hg:Gl X x) (hm:X.mg x=some (.int i t)) (hd:(x==("__debug__":Str))=false:=by decide):EM X [] (.Name x pos) (mC (.int i)) :=
 PE.imp (QkJ (v := .int i) hg hm ⟨t,rfl⟩ hd) fun σ H Q ⟨F,γ,r,h1,h2,h3,w⟩=>by
  cases h3;exact w.here h1 (by unfold Rep;rfl)
def GT (K:PySem.W.Frag) (a:Addr) (ts:List Str):Prop:=∃ (o:Obj) (its:Array Value) (n:Nat),K.lookup a=some o∧o.cls = .type "tuple"∧o.dict=none∧o.data = .seq its n∧its.size≤sizeLine∧Vals (ts.map V.str) its.toList
theorem em_globT {a:Addr} {ts:List Str} (hg:Gl X x) (hm:X.mg x=some (.ref a)) (ht:GT X.K a ts) (hd:(x==("__debug__":Str))=false:=by decide):EM X [] (.Name x pos) (mC (.tup (ts.map .str))) :=
 PE.imp (QkJ (v := .ref a) hg hm rfl hd) fun σ H Q ⟨F,γ,r,h1,h2,h3,w⟩=>by
  cases h3
  refine w.here h1 ?_
  unfold Rep
  exact ⟨a,ts.map V.str,rfl,.inr ht,YM ts⟩
end
section
variable {X:Cx}
theorem QlQ:OpR X (compareOp .LtE) (fun x y H Q=>∃ i j,x = .str i∧y = .str j∧Q (.bl (sLe i j)) H):=by
 intro pins s σ H x y v u Q I rx ry h
 obtain ⟨i,j,rfl,rfl,q⟩:=h
 obtain ⟨t,rfl⟩:=rx
 obtain ⟨t',rfl⟩:=ry
 exact P.le_str (fin_bl I q rfl)
def pLeS:PV→PV→Option PV
 | .str a,.str b=>some (.bl (sLe a b))
 | _,_=>none
theorem om_leS:OpM X (compareOp .LtE) pLeS:=by
 intro pins s σ H x y v u Q I rx ry h
 obtain ⟨F,p,q,r,h1,h2,h3,h4,w⟩:=h
 cases p <;> cases q <;> first
  | (exfalso;cases h4;done)
  | skip
 cases h4
 unfold Rep at h2 h3
 exact QlQ pins s σ H x y v u Q I rx ry ⟨_,_,h2,h3,w.here h1 (YH _)⟩
end
def Its (x:Str):It:=⟨fun i _=>i < x.cps.size,fun i H v H'=>H'=H∧∃ c,x.cps[i]?=some c∧v = .str ⟨#[c]⟩,fun i _=>x.cps.size≤i⟩
theorem turn_str {P:Program} {w:World} {K:PySem.W.Frag} {tg:Expr} (x:Str) (t:Tok) (it:Addr):Turn P w K tg (Its x) [it] it (fun i h=>h.IsStrIter it "str_ascii_iterator" x t i) where
 mem:=by simp
 obj:=fun i h st b hb=>by
  have e:b=it:=by simpa using hb
  subst e
  obtain ⟨o,e,c,d⟩:=st
  exact ⟨o,e,fun v z=>by rw [d] at z;cases z⟩
 keep:=fun i h h' st k=>by
  obtain ⟨o,e,c,d⟩:=st
  exact ⟨o,k it (by simp) o e,c,d⟩
 item:=by
  intro X hP hw hK hc i pins s σ H E I hf st hg
  subst hP hw hK
  have hi:i < x.cps.size:=hg
  obtain ⟨f0,f1,f2,f3,f4,f5⟩:=hf it (by simp)
  refine wpAny_pyNext_ascii_item st (c:=x.cps[i]) (Array.getElem?_eq_getElem hi) fun h' st' sb => ?_
  have I1:Inv X pins σ H { s with heap:=h',toks:=s.toks + 1 }:=I.turned (t':=s.toks + 1) (fun b o hb e=>(sb.2 b hb).trans e) f0 f1 f3 f4 f5
  obtain ⟨o,e,c,d⟩:=id st'
  exact ⟨_,rfl,QjT (s:={ s with heap:=h',toks:=s.toks + 1 }) e c d (by decide) ⟨.str ⟨#[x.cps[i]]⟩,H,I1,⟨_,rfl⟩,⟨rfl,_,Array.getElem?_eq_getElem hi,rfl⟩,st',fun b hb=>(hf b hb).1⟩⟩
 done:=by
  intro X hP hw hK hc i pins s σ H E I hf st hg
  subst hP hw hK
  have hi:x.cps.size≤i:=hg
  obtain ⟨f0,f1,f2,f3,f4,f5⟩:=hf it (by simp)
  exact wpAny_pyNext_ascii_end (I.ok.hd hc) st (Array.getElem?_eq_none hi) fun h' eb=>⟨rfl,I.turned (t':=s.toks) (fun b o hb e=>eb b o hb e) f0 f1 f3 f4 f5⟩
 self:=fun _ _ _ _ _ st h=>wpAny_pyIter_striter_ascii st h
section
variable {X:Cx} {tg e:Expr} {ms:List Nat} {m:MEx}
theorem pi_str {l:Expr} {tl:TE} (hl:PE X l tl):PI X tg l (fun σ H R=>tl σ H fun v H1=>∃ x,v = .str x∧x.cps.all (· < 128)=true∧R (Its x) H1):=by
 intro pins s σ H R I h
 refine thn (hl pins s σ H _ I h) fun v s1 ⟨y,H1,I1,r1,q1⟩ => ?_
 obtain ⟨x,e,ha,q⟩:=q1
 subst e
 obtain ⟨t,rfl⟩:=r1
 refine wpAny_pyIter_ascii ha ?_
 refine ⟨s1.heap.objs.size,[s1.heap.objs.size],_,_,H1,rfl,I1.kept (t':=s1.toks) fun b o e=>Heap.get?_push_of_some _ e,turn_str x t _,⟨_,Heap.get?_push_size _ rfl,rfl,rfl⟩,fun b hb => ?_,q⟩
 have e:b=s1.heap.objs.size:=by simpa using hb
 subst e
 exact I1.fpOk (Nat.le_refl _) (I1.hok.fresh (Nat.le_refl _))
def Qbh (x:Str):List PV:=x.cps.toList.map fun c => .str ⟨#[c]⟩
def itX:PV→Option (List PV)
 | .str x=>if x.cps.all (· < 128)=true then some (Qbh x) else none
 | _=>none
def iStr (m:MEx):PEnv→Option (List PV):=fun γ=>(m γ).bind itX
theorem im_str (h:EM X ms e m):IM X ms tg e (iStr m):=PI.imp (pi_str h) fun σ H R ⟨F,γ,xs,h1,h2,h3,w⟩=>by
 obtain ⟨p,e1,e2⟩:=Qi h3
 refine ⟨F,γ,p,h1,h2,e1,fun v H' F' g q => ?_⟩
 cases p with
 | str x =>
  have e2:(if x.cps.all (· < 128)=true then some (Qbh x) else none)=some xs:=e2
  obtain ⟨ha,rfl⟩:=Qz e2
  unfold Rep at q
  subst q
  refine ⟨x,rfl,ha,w _ _ _ g ?_⟩
  have hl:(Qbh x).length=x.cps.size:=by simp [Qbh]
  refine ⟨fun i H hi e => ?_,fun i H v H' hi e y => ?_,fun H e => ?_⟩
  ·rw [hl] at hi;exact hi
  ·obtain ⟨rfl,c,hc,rfl⟩:=y
   refine ⟨.str ⟨#[c]⟩,?_,fun F1 x1 x2=>⟨F1,.refl x2,Qak _⟩⟩
   unfold Qbh
   rw [List.getElem?_map,Array.getElem?_toList,hc]
   rfl
  ·show x.cps.size≤_
   rw [hl]
   exact Nat.le_refl _
 | _=>cases e2
end
end L2.PM
namespace L2.PM
open PySem PySem.Spec PyProof.Rows PySem.Builtin PySem.Builtin.Str
section
variable {prog:Program} {w:World} {A:Around} {E:Value→Shared→Prop} {s:Shared} {x y:Str} {t u:Tok}
theorem QlC {Q:Value→Shared→Prop} (hy:(y.length==0)=false)
  (h:∀ l k,l.map (·.1)=Txt.split x y→l.length≤sizeLine→Q (.ref s.heap.objs.size) { s with heap:=s.heap.push { cls := .type "list",data := .seq (strValues l).toArray },toks:=k })
  (hsz:x.length + 2≤sizeLine):wpAny (model prog w) A (call (.builtin "str.split") [.str x t,.str y u]) Q E s:=by
 have hn:(partsBetween x (occurrences x y 0 x.length (x.length + 1)) y.length).length≤sizeLine:=by
  have e1:=StrLaws.occ_length_le x y 0 x.length (x.length + 1)
  rw [length_partsBetween];omega
 cases h1:(decide (x.length < y.length)||decide (strKind x < strKind y))
 ·cases hf:(occurrences x y 0 x.length (x.length + 1)).isEmpty
  ·refine call_meets F.slot_str_split (typeIs_str _ _ _) F.entry_str_split (F.args_str_split_2 _ _) (meets_str_split_sep x y t u h1 hy hf (by omega) hn) ?_
   show wants Q E _ { s with toks:=_,heap:=s.heap.push { cls := .type "list",data := .seq (strsFrom s.toks (partsBetween x (occurrences x y 0 x.length (x.length + 1)) y.length)).toArray } }
   rw [strsFrom_eq]
   refine h (numbered s.toks _) _ ((numbered_texts _ _).trans ((if_neg (ne_true_of_eq_false h1)).trans (if_neg (ne_true_of_eq_false hf))).symm) ?_
   have:=congrArg List.length (numbered_texts s.toks (partsBetween x (occurrences x y 0 x.length (x.length + 1)) y.length))
   rw [List.length_map] at this
   rw [this]
   exact hn
  ·exact call_meets F.slot_str_split (typeIs_str _ _ _) F.entry_str_split (F.args_str_split_2 _ _) (meets_str_split_not_found x y t u h1 hy hf)
    (h [(x,t)] s.toks ((if_neg (ne_true_of_eq_false h1)).trans (if_pos hf)).symm (by show 1≤sizeLine;decide))
 ·exact call_meets F.slot_str_split (typeIs_str _ _ _) F.entry_str_split (F.args_str_split_2 _ _) (meets_str_split_cannot_occur x y t u h1)
   (h [(x,t)] s.toks (if_pos h1).symm (by show 1≤sizeLine;decide))
end
section
variable {X:Cx} {o e:Expr} {es:List Expr} {ms ns:List Nat} {m:MEx} {ma:PEnv→Option (List PV)}
def Qbi:PV→List PV→Option (List PV)
 | .str x,[.str y]=>if (y.length==0)=false∧x.length + 2≤LIM then some ((Txt.split x y).map .str) else none
 | _,_=>none
theorem Qep:∀ l:List (Str×Tok),Vals ((l.map (·.1)).map V.str) (strValues l)
 | [] => .nil
 | p :: l => .cons ⟨p.2,rfl⟩ (Qep l)
theorem mm_split:MtR X "str.split" (rMtO X.K Qbi):=by
 intro pins s σ H x xs v us Q I rx rs h
 obtain ⟨F,p,ps,r,h1,h2,h3,h4,w⟩:=h
 unfold Qbi at h4
 split at h4
 ·rename_i x y
  obtain ⟨⟨c1,c2⟩,rfl⟩:=Qz h4
  unfold Rep at h2
  subst h2
  obtain ⟨t,rfl⟩:=rx
  unfold RepL at h3
  obtain ⟨v1,r1,rfl,h3,ht⟩:=h3
  unfold RepL at ht
  subst ht
  unfold Rep at h3
  subst h3
  obtain ⟨u,rfl,ru⟩:=XH rs
  obtain ⟨t2,rfl⟩:=ru
  refine QlC c1 (fun l k el hl => ?_) (Nat.le_trans c2 Zx)
  have hp:H s.heap.objs.size=none:=I.hok.fresh (Nat.le_refl _)
  have nF:F s.heap.objs.size=none:=h1.free hp
  have hv:=Qep l
  rw [el] at hv
  exact ⟨.ref _,_,I.lnew (t':=k) hv (by rw [List.length_map,← el,List.length_map];exact hl),rfl,w _ _ _ F (.side h1 hp) hp nF Qq (YM _)⟩
 ·cases h4
theorem QiW {apos cpos:Pos} (h:EM X ms o m) (ha:AM X ns (e :: es) ma) (hbase:attributeBase o "split" X.env (eval o X.env)=eval o X.env:=by rfl)
  (hfew:((backTo cpos (starEach (e :: es) X.env)).all (fun x => !x.1)&&(backToKw cpos (keywordEach [] X.env)).all (fun x=>x.1.isSome)
   && decide ((e :: es).length + ([]:List Keyword).length + (if ([]:List Keyword).isEmpty then 0 else 1) < 30))=true:=by rfl)
  (hline:(apos.endLine==cpos.line)=true:=by rfl) (hs:starEach (e :: es) X.env=(false,eval e X.env) :: starEach es X.env:=by rfl) (hplain:(backTo cpos (starEach es X.env)).any (·.1)=false:=by rfl) :
  EO X (ms++ns) (.Call (.Attribute o "split" apos) (e :: es) [] cpos) (mMt "str" Qbi m ma) :=
 eo_mt h ha (Qbq PySem.F.plainAttrs_str PySem.F.slot_str_split PySem.F.type_str_split mm_split h ha hbase hfew hline hs hplain)
end
end L2.PM
namespace L2.PM
open PySem PySem.Spec PyProof.Rows
section
variable {X:Cx}
def QkE:V→List V→Hp→VK→Prop:=fun x vs H Q=>∃ l xs y i,x = .ref l∧vs=[.int i,y]∧H l=some (.lst xs)∧0≤i∧i≤xs.length∧xs.length < sizeLine∧xs.length≤100000∧Q .non (upd H l (.lst (xs.take i.toNat++y :: xs.drop i.toNat)))
theorem QlT:MtM X "list.insert" QkE:=by
 intro pins s σ H x vs v us Q I rx rv h
 obtain ⟨l,xs,y,i,rfl,rfl,hH,h0,hi,hz,hz2,q⟩:=h
 cases rx
 cases rv with
 | cons r1 rv =>
  cases rv with
  | cons r2 rv =>
   cases rv
   obtain ⟨t,rfl⟩:=r1
   obtain ⟨z,its,n,r,hl,e⟩:=I.lstM hH
   have hfit:¬(!Builtin.List.listFitsIndex i)=true:=by
    have:Builtin.List.listFitsIndex i=true:=by
     unfold Builtin.List.listFitsIndex
     simp
     omega
    simp [this]
   refine call_meets PySem.F.slot_list_insert ⟨_,e,rfl⟩ PySem.F.entry_list_insert (PySem.F.args_list_insert_3 _ _ _) (PySem.AutoListH.list_insert_list_int_val_1 l its.toArray n i t _ hfit (by rw [List.size_toArray];omega)) ⟨e,?_⟩
   refine ⟨.non,_,I.lset (its':=its.take i.toNat++_ :: its.drop i.toNat) hH e ?_ ((r.take _).append (.cons r2 (r.drop _))) ?_,rfl,q⟩
   ·have h1:¬ i < 0:=by omega
    simp only [h1,if_false,List.size_toArray]
    have h2:min i.toNat its.length=i.toNat:=by omega
    rw [h2]
    apply Array.toList_inj.mp
    simp
    exact List.take_of_length_le (by rw [List.length_drop];exact Nat.le_refl _)
   ·rw [List.length_append,List.length_cons,List.length_take,List.length_drop]
    omega
variable {e k:Expr} {ms:List Nat} {m mk:MEx} {p2 pos:Pos}
def insK (ms:List Nat) (i:Nat) (γ:PEnv) (xs:List PV) (r:PV):PV→Option Out
 | .int j=>if 0≤j∧j≤xs.length∧xs.length≤1000∧(flat r || !ms.contains i)=true then some (.nx ((Zt (flat r) ms γ).set i (.ow (xs.take j.toNat++r :: xs.drop j.toNat)))) else none
 | _=>none
def sIns (ms:List Nat) (i:Nat) (mk m:MEx):MSt:=fun γ=>match γ[i]? with
 | some (.ow xs)=>(mk γ).bind fun j=>(m γ).bind fun r=>insK ms i γ xs r j
 | _=>none
end
section
variable {X:Cx} {o e:Expr} {es:List Expr} {ms ns:List Nat} {m:MEx} {ma:PEnv→Option (List PV)}
def QfC:PV→List PV→Option PV
 | .str x,[.tup xs]=>match Yc xs with
  | some ys=>if (ys.map (·.length)).sum + ys.length * x.length≤LIM then some (.str (Txt.join x ys)) else none
  | none=>none
 | _,_=>none
theorem mm_joinT:MtR X "str.join" (rMt X.K QfC):=by
 intro pins s σ H x xs v us Q I rx rs h
 obtain ⟨F,p,ps,r,h1,h2,h3,h4,w⟩:=h
 unfold QfC at h4
 split at h4
 ·rename_i sep zs
  split at h4
  ·rename_i ys hys
   obtain ⟨c,rfl⟩:=Qz h4
   unfold Rep at h2
   subst h2
   obtain ⟨t,rfl⟩:=rx
   unfold RepL at h3
   obtain ⟨v1,r1,rfl,h3,ht⟩:=h3
   unfold RepL at ht
   subst ht
   unfold Rep at h3
   obtain ⟨a,ws,rfl,k2,k3⟩:=h3
   obtain ⟨u,rfl,ru⟩:=XH rs
   cases ru
   have e2:=Qan hys
   subst e2
   have e3:=XL k3
   subst e3
   obtain ⟨its,rv,pt,_⟩:=I.tuple (h1.seqT k2)
   refine join_tuple pt (by simpa using Xp rv) (Nat.le_trans c (by decide)) fun t' k=>⟨.str _,H,I.tok _,⟨_,rfl⟩,w.here h1 (Qak _)⟩
  ·cases h4
 ·cases h4
theorem em_joinT {apos cpos:Pos} (h:EM X ms o m) (ha:AM X ns (e :: es) ma) (hbase:attributeBase o "join" X.env (eval o X.env)=eval o X.env:=by rfl)
  (hfew:((backTo cpos (starEach (e :: es) X.env)).all (fun x => !x.1)&&(backToKw cpos (keywordEach [] X.env)).all (fun x=>x.1.isSome)
   && decide ((e :: es).length + ([]:List Keyword).length + (if ([]:List Keyword).isEmpty then 0 else 1) < 30))=true:=by rfl)
  (hline:(apos.endLine==cpos.line)=true:=by rfl) (hs:starEach (e :: es) X.env=(false,eval e X.env) :: starEach es X.env:=by rfl) (hplain:(backTo cpos (starEach es X.env)).any (·.1)=false:=by rfl) :
  EM X (ms++ns) (.Call (.Attribute o "join" apos) (e :: es) [] cpos) (mMt "str" QfC m ma) :=
 em_mt h ha (Qbq PySem.F.plainAttrs_str PySem.F.slot_str_join PySem.F.type_str_join mm_joinT h ha hbase hfew hline hs hplain)
end
end L2.PM
namespace L2.PM
open PySem
def exlK (ms:List Nat) (i:Nat) (γ:PEnv):PV→Option Slot→Option Out
 | .lst ys,some (.ow xs)=>if xs.length + ys.length < LIM∧(!ms.contains i)=true then some (.nx ((Zt (flat (.lst ys)) ms γ).set i (.ow (xs++ys)))) else none
 | _,_=>none
def sExl (ms:List Nat) (i:Nat) (m:MEx):MSt:=fun γ=>(m γ).bind fun r=>exlK ms i γ r γ[i]?
def QcU:List PV→Option PV
 | [.tup xs]=>match Yc xs with
  | some ss=>if ss.length < 1000 then some (.int (once ss).length) else none
  | none=>none
 | _=>none
end L2.PM
namespace L2.PM
open PySem PySem.Spec PyProof.Rows
section
variable {X:Cx} {e a b c:Expr} {es:List Expr} {ms ns ls:List Nat} {m m1 m2 m3:MEx} {ma:PEnv→Option (List PV)} {pos p p1 p2 p3 pos':Pos} {x:Str} {id T:String} {tg:Expr}
def rExtL (K:PySem.W.Frag):V→List V→Hp→VK→Prop:=fun x vs H Q=>∃ l b xs zs,x = .ref l∧vs=[.ref b]∧H l=some (.lst xs)∧SqL K H b zs∧xs.length + zs.length≤sizeLine∧Q .non (upd H l (.lst (xs++zs)))
end
open PySem.AutoSeq1 (wpAny_loadPart')
theorem QlV (l:Addr) (us:Array Value) (n:Nat) (b:Addr) (ws:Array Value) (o2:Obj) (n2:Nat) (hc:o2.cls = .type "list") (hd:o2.data = .seq ws n2)
  (hs0:¬(!us.isEmpty&&Builtin.List.listTooLong (us.size + ws.size))=true) (hs1:us.size≤sizeLine) (hs2:us.size + ws.size≤sizeLine + 1) :
  Meets (Builtin.«list.extend» ⟨[.ref l,.ref b],[]⟩) (fun _ R s=>s.heap.get? l=some { cls := .type "list",dict:=none,data := .seq us n,slots := #[] }∧s.heap.get? b=some o2∧R (.ok (.ret Value.none)) { s with heap:=s.heap.update l (Obj.mapSeq fun x=>x++ws),toks:=s.toks }) :=
 .of_wp fun prog w A R s h=>by
  obtain ⟨c2,d2,data2,sl2⟩:=o2
  dsimp only at hc hd
  subst hc hd
  obtain ⟨hp,g,d,tk,os⟩:=s;obtain ⟨hl,hb,h⟩:=h;have f1:=PySem.AutoSeq1.idx_int;have f2:=PySem.AutoSeq1.sub_tuple_tuple;have f3:=PySem.AutoSeq1.sub_list_list;have f4:=PySem.AutoSeq1.sub_tuple_list;have f5:=PySem.AutoSeq1.sub_list_tuple
  have hz:(us++ws).size≤sizeLine + 1:=by rw [Array.size_append];exact hs2
  wp_walk using (wpAny_updateSeq hl rfl (hz:=hs1) (_hz':=hz)),wpAny_loadPart' hl,wpAny_loadPart' hb;exact ⟨_,rfl,h⟩
section
variable {X:Cx} {e a b c:Expr} {es:List Expr} {ms ns ls:List Nat} {m m1 m2 m3:MEx} {ma:PEnv→Option (List PV)} {pos p p1 p2 p3 pos':Pos} {x:Str} {id T:String} {tg:Expr}
theorem mt_exl:MtM X "list.extend" (rExtL X.K):=by
 intro pins s σ H x vs v us Q I rx rv h
 obtain ⟨l,b,xs,zs,rfl,rfl,hH,hB,hz,q⟩:=h
 cases rx
 obtain ⟨u,rfl,ru⟩:=rv.one
 cases ru
 obtain ⟨z,its,n,r,hl,e⟩:=I.lstM hH
 obtain ⟨its2,r2,pt,z2⟩:=I.list hB
 obtain ⟨o2,e2,hc,n2,hd⟩:=pt.isList
 have hl2:=r2.length
 have hsz:its.toArray.size + its2.toArray.size≤sizeLine:=by rw [List.size_toArray,List.size_toArray];omega
 have hlong:¬ (!its.toArray.isEmpty&&Builtin.List.listTooLong (its.toArray.size + its2.toArray.size))=true:=by
  rw [QiI hsz,Bool.and_false]
  exact Bool.false_ne_true
 refine call_meets F.slot_list_extend ⟨_,e,rfl⟩ F.entry_list_extend (F.args_list_extend_2 _ _)
  (QlV l its.toArray n b its2.toArray o2 n2 hc hd hlong (by rw [List.size_toArray];omega) (by omega)) ⟨e,e2,?_⟩
 refine ⟨.non,_,I.lset (its':=its++its2) hH e (by simp) (r.append r2) ?_,rfl,q⟩
 rw [List.length_append]
 omega
end
structure FunD (K:PySem.W.Frag) (x qual:Str) (st:Stmt) (f:Addr) (fd:FuncData) (j:Int):Prop where
 ex:∃ (T:Addr) (oc:Value) (od:Option Addr) (kV doc pm:Value) (an:Option Addr) (cdv ct:Value) (osl:Array (Option Value)),
  fd=PySem.W.fnOf x qual (Qp st) (Qm st) (Qe st) (.ref T) kV doc pm an cdv ct∧K.lookup f=some ⟨oc,od,.func fd,osl⟩∧PySem.W.codeIn K cdv qual=true ∧
  ∃ (tc:Value) (td:Option Addr) (tk:Tok) (tn:Nat) (ts:Array (Option Value)),K.lookup T=some ⟨tc,td,.seq #[.int j tk] tn,ts⟩
 kp:PySem.W.keepIn K (.ref f)=true
theorem funD_mk {K:PySem.W.Frag} {x qual:Str} {st:Stmt} {f T:Addr} {oc tc:Value} {od an td:Option Addr} {osl ts:Array (Option Value)} {kV doc pm cdv ct:Value} {j:Int} {tk:Tok} {tn:Nat} (l:K.lookup f=some ⟨oc,od,.func (PySem.W.fnOf x qual (Qp st) (Qm st) (Qe st) (.ref T) kV doc pm an cdv ct),osl⟩)
  (c:PySem.W.codeIn K cdv qual=true) (k:PySem.W.keepIn K (.ref f)=true) (t:K.lookup T=some ⟨tc,td,.seq #[.int j tk] tn,ts⟩):FunD K x qual st f (PySem.W.fnOf x qual (Qp st) (Qm st) (Qe st) (.ref T) kV doc pm an cdv ct) j :=
 ⟨⟨T,oc,od,kV,doc,pm,an,cdv,ct,osl,rfl,l,c,tc,td,tk,tn,ts,t⟩,k⟩
section
variable {P:Program} {w:World} {K:PySem.W.Frag} {mg:Str→Option Value} {base:Heap}
theorem FunD.ok {x qual:Str} {st:Stmt} {f:Addr} {fd:FuncData} {j:Int} {N ps:List Str} {k:Nat} {sp:Sp} (F:FunD K x qual st f fd j) (S:FnScope N ps (Qe st)) (len:∀ vs H Q E,sp vs H Q E→vs.length=ps.length)
  (hbody:∀ (cdv:Value) (A:Around) (outer:List Env) (s:Shared) (H:Hp) (vs:List V) (Q:VK) (E:XK),Room k (A.deeper (envOfC qual (Qe st) s.heap.objs.size f cdv))→sp vs H Q E →
   ∃ t,PSs (cxOf CX0 P w K mg base N qual (Qe st) f cdv A outer s H E).nox (Qm st) t∧t { nx:=fun _ H'=>Q .non H',rt:=Q } (Qaa N vs) H):FnOk P w K mg base CX0 (k + 1) f fd ps sp:=by
 obtain ⟨T,oc,od,kV,doc,pm,an,cdv,ct,osl,rfl,lk,hcd,_⟩:=F.ex
 refine fn_of lk hcd S len fun A outer s H vs Q E hr hsp => ?_
 obtain ⟨t,h,q⟩:=hbody cdv A outer s H vs Q E hr hsp
 exact ⟨t,h.nox,q⟩
theorem fnMD {x qual:Str} {st:Stmt} {f:Addr} {fd:FuncData} {j:Int} {N ps:List Str} {k n:Nat} {m:MSt} (Fn:FunD K x qual st f fd j) (Sc:FnScope N ps (Qe st)) (hn:ps.length=n)
  (hbody:∀ (cdv:Value) (A:Around) (outer:List Env) (s:Shared) (H:Hp) (E:XK),Room k (A.deeper (envOfC qual (Qe st) s.heap.objs.size f cdv)) →
   SMs (cxOf CX0 P w K mg base N qual (Qe st) f cdv A outer s H E).nox (Qm st) m):FnOk P w K mg base CX0 (k + 1) f fd ps (spM K n (runV N.length n m)):=by
 refine Fn.ok Sc (fun vs H Q E h=>by rw [h.1,hn]) fun cdv A outer s H vs Q E hr h => ?_
 refine ⟨_,hbody cdv A outer s H E hr,?_⟩
 obtain ⟨hl,F,qs,r,h1,h2,h3,wv⟩:=h
 unfold runV at h3
 have hq:qs.length=n:=by rw [← h2.length];exact hl
 rw [if_pos hq] at h3
 obtain ⟨o,e1,e2⟩:=Qi h3
 refine ⟨H,F,F,_,o,QeU h1 h2,e1,?_⟩
 cases o with
 | nx γ=>cases e2;exact fun σ' H' F' S=>wv .non H' F' S.gr QkB
 | rt p=>cases e2;exact fun v H' F' g q=>wv v H' F' g q
 | ro xs=>cases e2;exact fun a vs H' F' g n nF hH q=>wv.of_lst a vs H' F' g n nF hH q
 | bk γ=>cases e2
 | ct γ=>cases e2
theorem FunD.binds {x qual:Str} {st:Stmt} {f:Addr} {fd:FuncData} {j:Int} {ps:List Str} (F:FunD K x qual st f fd j)
  (h:∀ (dV kV doc pm:Value) (an:Option Addr) (cdv ct d:Value) (us:List Value),us.length=ps.length→∃ k:Option (Array Value)→Sem (List (Str×Value)),bindArgs (PySem.W.fnOf x qual (Qp st) (Qm st) (Qe st) dV kV doc pm an cdv ct) ⟨us,[]⟩=seqItems? dV >>= k∧k (some #[d])=pure (ps.zip us)):Qbx K fd ps []:=by
 obtain ⟨T,oc,od,kV,doc,pm,an,cdv,ct,osl,rfl,lk,hcd,tc,td,tk,tn,ts,t⟩:=F.ex
 intro s us X hl
 rw [List.append_nil] at hl ⊢
 obtain ⟨k,e1,e2⟩:=h (.ref T) kV doc pm an cdv ct (.int j tk) us hl
 exact BindsTo.of_defaults rfl (X _ _ t) rfl e1 e2
theorem FunD.bindsD {x qual:Str} {st:Stmt} {f:Addr} {fd:FuncData} {j:Int} {ps:List Str} (F:FunD K x qual st f fd j)
  (h:∀ (dV kV doc pm:Value) (an:Option Addr) (cdv ct d:Value) (us:List Value),us.length + 1=ps.length→∃ k:Option (Array Value)→Sem (List (Str×Value)),bindArgs (PySem.W.fnOf x qual (Qp st) (Qm st) (Qe st) dV kV doc pm an cdv ct) ⟨us,[]⟩=seqItems? dV >>= k∧k (some #[d])=pure (ps.zip (us++[d]))) :
  ∃ tk:Tok,Qbx K fd ps [.int j tk]:=by
 obtain ⟨T,oc,od,kV,doc,pm,an,cdv,ct,osl,rfl,lk,hcd,tc,td,tk,tn,ts,t⟩:=F.ex
 refine ⟨tk,fun s us X hl => ?_⟩
 obtain ⟨k,e1,e2⟩:=h (.ref T) kV doc pm an cdv ct (.int j tk) us (by simpa using hl)
 exact BindsTo.of_defaults rfl (X _ _ t) rfl e1 e2
end
def CalD (P:Program) (w:World) (K:PySem.W.Frag) (mg:Str→Option Value) (base:Heap) (k:Nat) (x:Str) (n:Nat) (j:Int) (g:List PV→Option PV):Prop :=
 ∃ f fd ps,FnOk P w K mg base CX0 k f fd ps (spM K n g)∧mg x=some (.ref f)∧PySem.W.keepIn K (.ref f)=true∧Qbx K fd ps []∧∃ tk:Tok,Qbx K fd ps [.int j tk]
theorem CalD.cal {P:Program} {w:World} {K:PySem.W.Frag} {mg:Str→Option Value} {base:Heap} {k:Nat} {x:Str} {n:Nat} {j:Int} {g:List PV→Option PV} (c:CalD P w K mg base k x n j g):Cal P w K mg base k x n g:=by
 obtain ⟨f,fd,ps,h1,h2,h3,h4,_⟩:=c
 exact ⟨f,fd,ps,h1,h2,h3,h4⟩
abbrev hz1 (h:Heap) (a:Addr):Heap:=h.push { cls := .type "tuple_iterator",data := .fields #[.ref a,.int 0 0] }
abbrev hz2 (h:Heap) (a c:Addr):Heap:=(hz1 h a).push { cls := .type "list_iterator",data := .fields #[.ref c,.int 0 0] }
section
variable {prog:Program} {w:World} {A:Around} {E:Value→Shared→Prop} {s:Shared}
def YJ (prog:Program) (w:World) (L:Bool) (h:Heap) (a:Addr) (M:List Str):Prop :=
 ∃ o es ep t,h.get? a=some o∧o.ExactSet∧o.data = .set es ep t∧ElemsOf (strKind prog w) es.toList∧(∀ k,k∈M↔∃ e∈es.toList,(strKind prog w).is k e.2=true) ∧
  es.size < scanBound∧t.fits es.size=true∧es.size=M.length∧M.Nodup∧Kept L t
theorem YJ.at {L:Bool} {h h':Heap} {a:Addr} {M:List Str} (x:YJ prog w L h a M) (e:∀ o,h.get? a=some o→h'.get? a=some o):YJ prog w L h' a M:=by
 obtain ⟨o,es,ep,t,ho,r⟩:=x
 exact ⟨o,es,ep,t,e o ho,r⟩
def Xd (M:List Str) (k:Str):List Str:=if k∈M then M else M++[k]
theorem XU {M:List Str} (h:M.Nodup) (k:Str):(Xd M k).Nodup:=by
 unfold Xd
 split
 ·exact h
 ·rename_i hk
  rw [List.nodup_append]
  exact ⟨h,by simp,fun a ha b hb=>by
   rw [List.mem_singleton] at hb
   subst hb
   exact fun e=>hk (e ▸ ha)⟩
theorem QeK {h:Heap} {a:Addr} {o:Obj} {es:Array (Int×Value)} {ep:Nat} {t:SetTable} (ho:h.get? a=some o) (hd:o.data = .set es ep t) (es':Array (Int×Value)) (t':SetTable) :
  (h.update a (Obj.putSet es' t')).get? a=some { o with data := .set es' (ep + 1) t' }:=by
 have e:=putSet_of es' t' hd
 have z:=Heap.get?_update_self (Obj.putSet es' t') ho (by rw [e];rfl)
 rw [e] at z
 exact z
theorem QcB {M:List Str} {k:Str} {v:Value} {l l':List (Int×Value)} (hk:(strKind prog w).is k v=true) (hm:∀ k,k∈M↔∃ e∈l,(strKind prog w).is k e.2=true) (hn:k∉M) (p:l'.Perm (l++[((strKind prog w).hash k,v)])) (j:Str) :
  j∈Xd M k↔∃ e∈l',(strKind prog w).is j e.2=true:=by
 unfold Xd
 rw [if_neg hn,List.mem_append,List.mem_singleton]
 constructor
 ·rintro (z | rfl)
  ·obtain ⟨e,he,q⟩:=(hm j).mp z
   exact ⟨e,p.mem_iff.mpr (List.mem_append_left _ he),q⟩
  ·exact ⟨_,p.mem_iff.mpr (List.mem_append_right _ (List.mem_singleton_self _)),hk⟩
 ·rintro ⟨e,he,q⟩
  rcases List.mem_append.mp (p.mem_iff.mp he) with z | z
  ·exact .inl ((hm j).mpr ⟨e,z,q⟩)
  ·rw [List.mem_singleton.mp z] at q
   exact .inr ((strKind prog w).inj v j k q hk)
theorem add_LS {L:Bool} {a:Addr} {M:List Str} {k:Str} {tk:Tok} {Q:Bool→Shared→Prop} (hS:YJ prog w L s.heap a M) (room:M.length + 1 < scanBound)
  (fin:∀ b h',Heap.SameBut a s.heap h'→YJ prog w L h' a (Xd M k)→Q b { s with heap:=h' }):wpAny (model prog w) A (setAddHashed a (.str k tk) ((strKind prog w).hash k)) Q E s:=by
 obtain ⟨o,es,ep,t,ho,hex,hd,hel,hm,hb,hf,hn,hnd,hkp⟩:=hS
 have hk:(strKind prog w).is k (.str k tk)=true:=strKind_is _ _ _ _
 have hsc:(Value.str k tk).scannable=true:=rfl
 have tail:∀ (g:Bool→Sem Unit),(∀ (b:Bool) (s₁:Shared) (R:Unit→Shared→Prop),R () s₁→wpAny (model prog w) A (g b) R E s₁)→∀ (eA:Array (Int×Value)) (tB:SetTable) (wd:Bool) (R:Option Bool→Shared→Prop),
   ElemsOf (strKind prog w) eA.toList→(∀ j,j∈Xd M k↔∃ e∈eA.toList,(strKind prog w).is j e.2=true)→eA.size < scanBound→tB.fits eA.size=true→eA.size=(Xd M k).length→Kept L tB →
   (∀ h',Heap.SameBut a s.heap h'→YJ prog w L h' a (Xd M k)→R (some true) { s with heap:=h' }) →
   wpAny (model prog w) A (do
    storeSet a eA tB
    if (!wd&&tB.tooFull)=true then do
      g (relayAll tB eA (SetTable.grown eA.size)).2.2
      storeSet a (relayAll tB eA (SetTable.grown eA.size)).1 (relayAll tB eA (SetTable.grown eA.size)).2.1
      pure (some true)
     else pure (some true)) R E s:=by
  intro g hg eA tB wd R h1 h2 h3 h4 h5 h6 hR
  have at1:=QeK ho hd eA tB
  refine wpAny_bind (wpAny_storeSet_of ho hd ?_ (fits_of_scanBound h3))
  have sb1:=Heap.SameBut.update s.heap a (Obj.putSet eA tB)
  split
  ·have p:=relayAll_perm tB eA (SetTable.grown eA.size)
   have ff:=relayAll_fits tB eA (SetTable.grown eA.size)
   have kk:=Qjs h6 eA (SetTable.grown eA.size)
   generalize relayAll tB eA (SetTable.grown eA.size)=rl at p ff kk ⊢
   obtain ⟨es2,t3,gave⟩:=rl
   have sz:es2.size=eA.size:=by
    have:=p.length_eq
    simpa using this
   refine wpAny_bind (hg _ _ _ (wpAny_bind (wpAny_storeSet_of at1 rfl ?_ (fits_of_scanBound (by show es2.size < _;rw [sz];exact h3)))))
   have at2:=QeK at1 rfl es2 t3
   refine wpAny_pure (hR _ (sb1.trans (Heap.SameBut.update _ a _)) ⟨_,es2,_,t3,at2,hex,rfl,h1.perm p,fun j=>(h2 j).trans ⟨fun ⟨e,he,q⟩=>⟨e,p.mem_iff.mpr he,q⟩,fun ⟨e,he,q⟩=>⟨e,p.mem_iff.mp he,q⟩⟩,by rw [sz];exact h3,ff,by rw [sz];exact h5,XU hnd k,kk⟩)
  ·exact wpAny_pure (hR _ sb1 ⟨_,eA,_,tB,at1,hex,rfl,h1,h2,h3,h4,h5,XU hnd k,h6⟩)
 unfold setAddHashed setAddHashedIn
 refine wpAny_holding (wpAny_bind (wpAny_setState_of ho hd hf ?_))
 dsimp only
 rw [byScan_of hsc hb hel,if_pos rfl]
 unfold setAddByScan
 refine wpAny_bind (wpAny_bind (wpAny_rule (wpAny_bind (wpAny_setScan_of hk ho hd hf hel ?_))))
 cases hr:List.findIdx? (fun e=>(strKind prog w).is k e.2) es.toList with
 | some j =>
  obtain ⟨hj,pj,_⟩:=List.findIdx?_eq_some_iff_getElem.mp hr
  have hkM:k∈M:=(hm k).mpr ⟨_,List.getElem_mem hj,pj⟩
  refine wpAny_pure (wpAny_pure ?_)
  have z:=fin false s.heap (Heap.SameBut.refl a s.heap) (by
   unfold Xd
   rw [if_pos hkM]
   exact ⟨o,es,ep,t,ho,hex,hd,hel,hm,hb,hf,hn,hnd,hkp⟩)
  exact z
 | none =>
  have hkM:k∉M:=fun z=>by
   obtain ⟨e,he,q⟩:=(hm k).mp z
   rw [List.findIdx?_eq_none_iff.mp hr e he] at q
   cases q
  have gw:∀ (b:Bool) (s₁:Shared) (R:Unit→Shared→Prop),R () s₁→wpAny (model prog w) A (match b with | true=>rule "set.scan.the-table-gave-way" | false=>pure ()) R E s₁:=fun b s₁ R hq=>by
   cases b
   ·exact wpAny_pure hq
   ·exact wpAny_rule hq
  have pm:=layNew_perm t es ((strKind prog w).hash k) (.str k tk)
  have fi:=layNew_fits t es ((strKind prog w).hash k) (.str k tk)
  have kp:=QhZ hkp es ((strKind prog w).hash k) (.str k tk)
  dsimp only
  generalize layNew t es ((strKind prog w).hash k) (.str k tk)=ly at pm fi kp ⊢
  obtain ⟨eA,t1,wd,gave⟩:=ly
  dsimp only at pm fi kp ⊢
  rw [Array.toList_push] at pm
  have sz:eA.size=es.size + 1:=by
   have:=pm.length_eq
   simpa using this
  have szM:eA.size=(Xd M k).length:=by
   unfold Xd
   rw [if_neg hkM,sz,hn]
   simp
  refine wpAny_bind (gw _ _ _ ?_)
  have done:∀ h',Heap.SameBut a s.heap h'→YJ prog w L h' a (Xd M k)→wpAny (model prog w) A (match some true with | some added=>pure added | none=>setAddHashedIn a (.str k tk) ((strKind prog w).hash k) 99999) Q E { s with heap:=h' }:=fun h' sb z=>wpAny_pure (fin true h' sb z)
  split
  ·refine wpAny_bind ?_
   rw [hashByValue_scannable 8 hsc]
   refine wpAny_pure (tail _ gw eA _ wd _ ((hel.push hk hsc).perm pm) (QcB hk hm hkM pm) (by omega) ?_ szM ?_ done)
   ·split
    ·exact fi
    ·exact SetTable.fits_plain_off fi
   ·split
    ·exact kp
    ·exact Qjt kp _
  ·refine wpAny_bind (wpAny_pure ?_)
   rw [if_pos rfl]
   exact tail _ gw eA _ wd _ ((hel.push hk hsc).perm pm) (QcB hk hm hkM pm) (by omega) fi szM kp done
end
def Qbn (val:Nat→Str) (i:Nat):List Str:=((List.range i).map val).foldl Xd []
theorem Qer (val:Nat→Str) (i:Nat):Qbn val (i + 1)=Xd (Qbn val i) (val i):=by
 unfold Qbn
 rw [List.range_succ,List.map_append,List.foldl_append]
 rfl
theorem Qgf (M:List Str) (k:Str):(Xd M k).length≤M.length + 1:=by
 unfold Xd
 split
 ·omega
 ·simp
theorem QfY (val:Nat→Str):∀ i,(Qbn val i).length≤i
 | 0=>Nat.le_refl _
 | i + 1=>by
  rw [Qer]
  have:=Qgf (Qbn val i) (val i)
  have:=QfY val i
  omega
section
variable {prog:Program} {w:World} {A:Around} {E:Value→Shared→Prop} {s:Shared}
theorem QeS {R:Result→Shared→Prop} {I:Addr} {fp wr:List Addr} {G:Array GenState→Array GenState→Prop} {n:Nat} {P:Nat→Value→Prop} {St:Nat→Shared→Prop} {L:Bool}
  (W:WalksS prog w A.in1 I fp wr G n P St) (D:Addr) (out:D∉fp) (val:Nat→Str) (hval:∀ i v,P i v→∃ t,v = .str (val i) t) (small:n + 1 < scanBound) :
  ∀ (k i:Nat) (s:Shared),n - i=k→i≤n→St i s→YJ prog w L s.heap D (Qbn val i) →
   (∀ s',Moved (D :: wr) G s s'→YJ prog w L s'.heap D (Qbn val n)→R (.ok (.ret .none)) s')→codeAny (model prog w) A (.builtin "set.update.loop" ⟨[.ref D,.ref I],[]⟩) R s
 | 0,i,s,hk,hi,st,hS,fin=>by
  obtain rfl:i=n:=by omega
  have dw:D∉wr:=fun z=>out (W.sub _ z)
  refine codeAny_builtin PyProof.Rows.F.entry_set_update_loop ?_
  rw [Around.under_plainId PyProof.Rows.F.plain_set_update_loop _]
  show wpAny _ A.in1 (pyNext (.ref I) >>= _) _ _ s
  refine wpAny_bind (W.done s _ _ st fun s' mv => ?_)
  show wpAny _ A.in1 (ret Value.none) _ _ s'
  exact wpAny_pure (fin s' (mv.mono fun b hb=>List.mem_cons_of_mem _ hb) (hS.at fun o e=>mv.heap D o dw e))
 | k + 1,i,s,hk,hi,st,hS,fin=>by
  have dw:D∉wr:=fun z=>out (W.sub _ z)
  refine codeAny_builtin PyProof.Rows.F.entry_set_update_loop ?_
  rw [Around.under_plainId PyProof.Rows.F.plain_set_update_loop _]
  show wpAny _ A.in1 (pyNext (.ref I) >>= _) _ _ s
  refine wpAny_bind (W.item i s _ _ (by omega) st fun v s' hp st' mv => ?_)
  obtain ⟨t,rfl⟩:=hval i v hp
  show wpAny _ A.in1 (holding [Value.str (val i) t] (setAdd D (.str (val i) t)) >>= _) _ _ s'
  refine wpAny_bind (wpAny_holding ?_)
  unfold setAdd
  refine wpAny_holding (wpAny_bind ((strKind prog w).pyHash (k:=val i) (strKind_is _ _ _ _) ?_))
  have sl:=QfY val i
  refine add_LS (s:={ s' with toks:=s'.toks + 1 }) (hS.at fun o e=>mv.heap D o dw e) (by omega) fun b h' sb z => ?_
  rw [← Qer] at z
  refine wpAny_pure ⟨plainId_quiet PyProof.Rows.F.plain_set_update_loop _,QeS W D out val hval small k (i + 1) _ (by omega) (by omega) (W.frame _ s' _ _ st' (Nat.le_succ _) fun b hb o e => ?_) z fun s'' mv2 z2 => ?_⟩
  ·exact (sb.2 b fun q=>out (q ▸ hb)).trans e
  ·refine fin s'' (Moved.trans W.gtrans ((mv.mono fun b hb=>List.mem_cons_of_mem _ hb).then_heap (Nat.le_succ _) fun b o hb e => ?_) mv2) z2
   exact (sb.2 b fun q=>hb (q ▸ List.mem_cons_self)).trans e
def Qee:List Value→List Str→Prop
 | [],[]=>True
 | v :: vs,x :: xs=>(∃ t,v = .str x t)∧Qee vs xs
 | _,_=>False
theorem Qee.str_at:∀ {vs:List Value} {xs:List Str},Qee vs xs→∀ (i:Nat) (v:Value),vs[i]?=some v→∃ t,v = .str (xs.getD i "") t
 | [],_,_,i,v,e=>by simp at e
 | w :: vs,[],h,_,_,_=>h.elim
 | w :: vs,x :: xs,h,0,v,e=>by
  simp at e
  subst e
  exact h.1
 | w :: vs,x :: xs,h,i + 1,v,e=>by
  have:=Qee.str_at h.2 i v (by simpa using e)
  simpa using this
theorem QiS {h:Heap} {a:Addr} (e:h.get? a=some { cls := .type "set",dict:=none,data := .set #[] 0 (.fresh 0 0 (!byT w)) }):YJ prog w (!byT w) h a [] :=
 ⟨_,#[],0,_,e,⟨rfl,rfl,rfl⟩,rfl,fun e he=>by simp at he,fun k=>by simp,by decide,by rfl,rfl,.nil,rfl,by unfold Up;simp [SetTable.fresh]⟩
set_option maxHeartbeats 3200000 in
theorem QjG {l:Addr} {its:Array Value} {ns:List Str} {Q:Value→Shared→Prop} (calm:A.handled=none) (hl:s.heap.IsTuple l its) (hi:Qee its.toList ns) (hb:its.size + 1 < scanBound)
  (fin:∀ (h':Heap) (tk:Nat),YJ prog w (!byT w) h' s.heap.objs.size (Qbn (fun i=>ns.getD i "") its.size)→(∀ b o,b < s.heap.objs.size→s.heap.get? b=some o→h'.get? b=some o)→Q (.ref s.heap.objs.size) { s with heap:=h',toks:=tk }) :
  wpAny (model prog w) A (call (.type "set") [.ref l]) Q E s:=by
 obtain ⟨c,tl,hmro⟩:=PySem.F.called_set.mro
 have hmade:=PySem.F.called_set.made
 have hsub:=PySem.F.called_set.sub
 refine wpAny_call (codeAny_of_tree ?_)
 show wpAny _ _ (callAny (.type "set") _) _ _ _
 refine wpAny_pure ⟨Code.quiet_builtin _ (by decide +kernel),codeAny_builtin PySem.F.entry_type_call ?_⟩
 rw [Around.under_plain (weight_type_call_type "set" [.ref l] []) rfl]
 have h1:=PySem.F.called_set.notType
 have h2:=PySem.F.called_set.canCreate
 have hct:=PySem.F.typeCall_set_1 (.ref l)
 repeat (any_goals (first | assumption | wp_step))
 refine codeAny_mono (setNew (.ref l) (E:=E) (Q₁:=fun obj s₁=>obj = .ref s.heap.objs.size∧s₁={ s with heap:=s.heap.push { cls := .type "set",dict:=none,data := .set #[] 0 (.fresh 0 0 (!byT w)) } }) ⟨rfl,rfl⟩) fun r s₁ hr => ?_
 cases r with
 | error e=>exact hr
 | ok fl =>
  cases fl with
  | ret obj =>
   obtain ⟨rfl,rfl⟩:=hr
   have at0:(s.heap.push { cls := .type "set",dict:=none,data := .set #[] 0 (.fresh 0 0 (!byT w)) }).get? s.heap.objs.size=some { cls := .type "set",dict:=none,data := .set #[] 0 (.fresh 0 0 (!byT w)) }:=Heap.get?_push_size _ rfl
   have hT:Shared.TypeIs { s with heap:=s.heap.push { cls := .type "set",dict:=none,data := .set #[] 0 (.fresh 0 0 (!byT w)) } } (.ref s.heap.objs.size) "set":=⟨_,at0,rfl⟩
   have hli:=PySem.F.called_set.init.lookup
   have hbi:=PySem.F.called_set.init.bind (.ref s.heap.objs.size)
   repeat (any_goals (first | assumption | wp_step))
   refine codeAny_mono (codeAny_call_builtin (R:=wants (fun r s₂=>r = .none∧∃ h' tk,s₂={ s with heap:=h',toks:=tk }∧YJ prog w (!byT w) h' s.heap.objs.size (Qbn (fun i=>ns.getD i "") its.size) ∧
     (∀ b o,b < s.heap.objs.size→s.heap.get? b=some o→h'.get? b=some o)) E) PySem.F.called_set.init.plain PySem.F.entry_set_init (check_set_init_1 hT ?_)) fun r₂ s₂ hr₂ => ?_
   ·obtain ⟨ol,hol,hcl,nl,hdl⟩:=hl
    obtain ⟨ocls,odict,odata,oslots⟩:=ol
    simp only at hcl hdl
    subst hcl;subst hdl
    have lold:(s.heap.push { cls := .type "set",dict:=none,data := .set #[] 0 (.fresh 0 0 (!byT w)) }).get? l=some { cls := .type "tuple",dict:=odict,data := .seq its nl,slots:=oslots }:=Heap.get?_push_of_some _ hol
    have hsls:=PySem.F.sub_tuple_set
    have hslf:=PySem.F.sub_tuple_frozenset
    have hne:(Value.type "tuple"==Value.type "dict")=false:=by decide
    have lis:(s.heap.push { cls := .type "set",dict:=none,data := .set #[] 0 (.fresh 0 0 (!byT w)) }).IsTuple l its:=⟨_,lold,rfl,nl,rfl⟩
    unfold Builtin.«set.__init__» noKeywords Builtin.Frozenset.updateFrom
    generalize hPI:pyIter=PI
    wp_walk
    subst hPI
    refine wpAny_pyIter_tuple lis (wpAny_bind (wpAny_runValue ?_))
    have llt:l < s.heap.objs.size:=Heap.lt_size hol
    have calm3:A.in1.in1.in1.handled=none:=by simp [calm]
    have ne1:l≠(s.heap.push { cls := .type "set",dict:=none,data := .set #[] 0 (.fresh 0 0 (!byT w)) }).objs.size:=by
     rw [Heap.size_push]
     exact Nat.ne_of_lt (Nat.lt_succ_of_lt llt)
    have nin:s.heap.objs.size∉[(s.heap.push { cls := .type "set",dict:=none,data := .set #[] 0 (.fresh 0 0 (!byT w)) }).objs.size,l]:=by
     rw [Heap.size_push]
     intro z
     rcases List.mem_cons.mp z with z | z
     ·exact absurd z (Nat.ne_of_lt (Nat.lt_succ_self _))
     ·rw [List.mem_singleton] at z
      exact absurd z (Nat.ne_of_gt llt)
    have hval:∀ (i:Nat) (v:Value),its[i]?=some v→∃ t,v = .str ((fun i=>ns.getD i "") i) t:=fun i v hv=>Qee.str_at hi i v (by rw [Array.getElem?_toList];exact hv)
    refine QeS (L := !byT w) ((Walks.tuple calm3 _ l ne1 its).toS) s.heap.objs.size nin (fun i=>ns.getD i "") hval hb (its.size - 0) 0 _ (by omega) (Nat.zero_le _) ⟨⟨_,Heap.get?_push_size _ rfl,rfl,rfl⟩,lis.push _⟩ ?Qaa ?fin
    case Qaa=>exact QiS (Heap.get?_push_of_some _ at0)
    case fin =>
     intro s' hm z
     obtain ⟨h',g',d',tk',os'⟩:=s'
     obtain rfl:g'=s.gens:=hm.gens
     obtain rfl:d'=s.drawn:=hm.drawn
     obtain rfl:os'=s.os:=hm.os
     show wpAny _ _ _ _ _ _
     refine wpAny_pure ?_
     show wpAny _ _ (ret Value.none) _ _ _
     refine wpAny_pure ⟨rfl,h',tk',rfl,z,fun b o hb e => ?_⟩
     refine hm.heap b o (fun q => ?_) (Heap.get?_push_of_some _ (Heap.get?_push_of_some _ e))
     rw [Heap.size_push] at q
     rcases List.mem_cons.mp q with q | q
     ·exact absurd q (Nat.ne_of_lt hb)
     ·rw [List.mem_singleton] at q
      exact absurd q (Nat.ne_of_lt (Nat.lt_succ_of_lt hb))
   ·cases r₂ with
    | error e=>exact hr₂
    | ok fl₂ =>
     cases fl₂ with
     | ret r =>
      obtain ⟨rfl,h',tk,rfl,z,k⟩:=hr₂
      repeat (any_goals (first | assumption | wp_step))
      exact fin _ _ z k
     | _=>exact hr₂.elim
  | _=>exact hr.elim
end
theorem Qgg {M:List Str} {k x:Str}:x∈Xd M k↔x∈M∨x=k:=by
 unfold Xd
 split
 ·rename_i h
  exact ⟨.inl,fun q=>q.elim id fun e=>e ▸ h⟩
 ·simp
theorem Qey:∀ (l M:List Str),M.Nodup→(l.foldl Xd M).Nodup∧∀ x,x∈l.foldl Xd M↔x∈M∨x∈l
 | [],M,h=>⟨h,fun x=>by simp⟩
 | y :: l,M,h=>by
  obtain ⟨a,b⟩:=Qey l (Xd M y) (XU h y)
  refine ⟨a,fun x => ?_⟩
  rw [List.foldl_cons,b x,Qgg,List.mem_cons]
  exact ⟨fun q=>q.elim (fun q=>q.elim .inl fun e => .inr (.inl e)) fun q => .inr (.inr q),fun q=>q.elim (fun q => .inl (.inl q)) fun q=>q.elim (fun e => .inl (.inr e)) .inr⟩
theorem Qck {y:Str}:∀ {xs:List Str},y∈once xs↔y∈xs
 | []=>by simp [once]
 | x :: xs=>by
  unfold once
  rw [List.mem_cons,List.mem_cons,List.mem_filter,Qck (xs:=xs)]
  by_cases h:y=x <;> simp [h]
theorem QcA:∀ xs:List Str,(once xs).Nodup
 | []=>by simp [once]
 | x :: xs=>by
  unfold once
  rw [List.nodup_cons]
  exact ⟨by simp [List.mem_filter],List.Pairwise.filter _ (QcA xs)⟩
theorem Qes (ns:List Str):(Qbn (fun i=>ns.getD i "") ns.length).Perm (once ns):=by
 have e:(List.range ns.length).map (fun i=>ns.getD i "")=ns:=by
  apply List.ext_getElem?
  intro i
  rw [List.getElem?_map]
  by_cases h:i < ns.length
  ·rw [List.getElem?_range h];simp [h]
  ·rw [List.getElem?_eq_none (by rw [List.length_range];omega),List.getElem?_eq_none (by omega)];rfl
 unfold Qbn
 rw [e]
 obtain ⟨a,b⟩:=Qey ns [] .nil
 exact (List.perm_ext_iff_of_nodup a (QcA ns)).mpr fun x=>by rw [b x,Qck];simp
section
variable {X:Cx} {e a b c:Expr} {es:List Expr} {ms ns ls:List Nat} {m m1 m2 m3:MEx} {ma:PEnv→Option (List PV)} {pos p p1 p2 p3 pos':Pos} {x:Str} {id T:String}
def Yw (X:Cx) (p:Addr) (M:List Str):HO := .ext fun h=>YJ X.prog X.w (!byT X.w) h p M
theorem QeT:∀ {xs:List Str} {us:List Value},Vals (xs.map V.str) us→Qee us xs
 | [],_,.nil=>trivial
 | x :: xs,_,.cons ⟨t,h⟩ r=>⟨⟨t,h⟩,QeT r⟩
theorem QjH (hc:X.calm=true):QaR X (.type "set") (fun vs H Q=>∃ (l:Addr) (ns:List Str),vs=[.ref l]∧SqT X.K H l (ns.map V.str)∧ns.length < 1000∧∀ p M,H p=none→M.Perm (once ns)→Q (.ref p) (upd H p (Yw X p M))):=by
 intro pins s σ H vs us Q I rs h
 obtain ⟨l,ns,rfl,hl,hn,q⟩:=h
 obtain ⟨u,rfl,ru⟩:=XH rs
 cases ru
 obtain ⟨its,rv,pl,_⟩:=I.tuple hl
 have hlen:=rv.length
 rw [List.length_map] at hlen
 refine QjG (I.ok.hd hc) pl (by simpa using QeT rv) (by simp only [List.size_toArray];show its.length + 1 < 4096;omega) fun h' tk z k => ?_
 have e:its.toArray.size=ns.length:=by simp only [List.size_toArray];exact hlen.symm
 rw [e] at z
 refine ⟨.ref s.heap.objs.size,upd H s.heap.objs.size (Yw X s.heap.objs.size _),I.laid (t':=tk) (fun b o q=>k b o (Heap.lt_size q) q) (Nat.le_refl _) ⟨z,?_,fun h1 h2 z1 k1=>z1.at k1⟩,rfl,q _ _ I.fresh (Qes ns)⟩
 obtain ⟨o,_,_,_,ho,_⟩:=z
 exact ⟨o,ho⟩
theorem QbP:QaR X (.builtin "len") (fun vs H Q=>∃ (D:Addr) (M:List Str),vs=[.ref D]∧H D=some (Yw X D M)∧Q (.int M.length) H):=by
 intro pins s σ H vs us Q I rs h
 obtain ⟨D,M,rfl,hD,q⟩:=h
 obtain ⟨u,rfl,ru⟩:=XH rs
 cases ru
 obtain ⟨z,_,_⟩:=I.hok D _ hD
 obtain ⟨o,es,ep,t,ho,hex,hd,hel,hm,hb,hf,hn,hnd,hkp⟩:=z
 refine call_len_set ho hex hd hf (by have:es.size < 4096:=hb;omega) ⟨.int M.length,H,I.tok _,⟨_,by rw [hn]⟩,q⟩
theorem YW {K:PySem.W.Frag} {F:Hp}:∀ {xs:List PV} {ns:List Str} {vs:List V},Yc xs=some ns→RepL K F xs vs→vs=ns.map V.str
 | [],ns,vs,h,r=>by
  unfold RepL at r
  subst r
  cases h
  rfl
 | x :: xs,ns,vs,h,r=>by
  unfold RepL at r
  obtain ⟨v,t,rfl,r1,r2⟩:=r
  cases x with
  | str y =>
   unfold Yc at h
   cases hx:Yc xs with
   | none=>rw [hx] at h;cases h
   | some ss =>
    rw [hx] at h
    cases h
    unfold Rep at r1
    subst r1
    rw [YW hx r2]
    rfl
  | _=>unfold Yc at h;cases h
theorem QjA (hc:X.calm=true) (hg:Gl X "set") (hm:X.mg "set"=none) (hg2:Gl X "len") (hm2:X.mg "len"=none) (ha:AM X ms [a] ma)
  (hs:starEach [a] X.env=(false,eval a X.env) :: starEach [] X.env:=by rfl) (hpl:(backTo pos (starEach [] X.env)).any (·.1)=false:=by rfl)
  (hs2:starEach [.Call (.Name "set" p1) [a] [] pos] X.env=(false,eval (.Call (.Name "set" p1) [a] [] pos) X.env) :: starEach [] X.env:=by rfl) (hpl2:(backTo pos' (starEach [] X.env)).any (·.1)=false:=by rfl) :
  EM X ms (.Call (.Name "len" p2) [.Call (.Name "set" p1) [a] [] pos] [] pos') (Qj QcU ma) :=
 PE.imp (Qav QbP hg2 hm2 PySem.boot_len (Qal (XM (QjH hc) hg hm (by kernel_rfl) ha (by decide) (by decide) hs hpl) Qef hs2) (by decide) (by decide) hs2 hpl2) fun σ H Q ⟨F,γ,r,k1,k2,k3,w⟩=>by
  obtain ⟨qs,e1,k3⟩:=Qi k3
  refine ⟨F,γ,qs,k1,k2,e1,fun vs H1 F1 g1 q1 => ?_⟩
  unfold QcU at k3
  split at k3
  ·rename_i xs
   unfold RepL at q1
   obtain ⟨v,t,rfl,q1,qt⟩:=q1
   unfold RepL at qt
   subst qt
   unfold Rep at q1
   obtain ⟨l,us,rfl,sl,rl⟩:=q1
   split at k3
   ·rename_i ns hns
    obtain ⟨c1,rfl⟩:=Qz k3
    have e2:=YW hns rl
    subst e2
    refine ⟨l,ns,rfl,g1.sub.seqT sl,c1,fun p M hp hM => ?_⟩
    refine ⟨p,M,rfl,Qq,?_⟩
    have g2:Grow F1 H1 F1 (upd H1 p (Yw X p M)) := .side g1.sub hp
    rw [hM.length_eq]
    exact w _ _ F1 (g1.trans g2) (ZD _)
   ·cases k3
  ·cases k3
end
section
variable {X:Cx} {pos p:Pos} {x:Str}
theorem QjV {i:Int} (hg:Gl X x) (hm:∃ t,X.mg x=some (.int i t)) (hd:(x==("__debug__":Str))=false:=by decide):EM X [] (.Name x pos) (mC (.int i)):=by
 obtain ⟨t,h⟩:=hm
 exact em_globI hg h hd
theorem em_gT {ts:List Str} (hg:Gl X x) (hm:∃ a,X.mg x=some (.ref a)∧GT X.K a ts) (hd:(x==("__debug__":Str))=false:=by decide):EM X [] (.Name x pos) (mC (.tup (ts.map .str))):=by
 obtain ⟨a,h1,h2⟩:=hm
 exact em_globT hg h1 h2 hd
theorem star_str {i:Str} {j:Nat} {q:Pos} {es:List Expr} {env:Env}:starEach (.Constant (.str i) j q :: es) env=(false,eval (.Constant (.str i) j q) env) :: starEach es env:=rfl
theorem Xx {es:List Expr} {ma:PEnv→Option (List PV)} {i:Str} {j:Nat} {q:Pos} (hr:AM X [] es ma):AM X [] (.Constant (.str i) j q :: es) (Qc (mC (.str i)) ma):=Qb QS hr star_str
def Qku:List Str→PEnv→Option (List PV)
 | []=>aNil
 | s :: ss=>Qc (mC (.str s)) (Qku ss)
theorem Qlt:∀ (cs:List (Str×Nat×Pos)) ,AM X [] (cs.map fun c=>Expr.Constant (.str c.1) c.2.1 c.2.2) (Qku (cs.map (·.1)))
 | []=>Qf
 | (s,j,q) :: cs=>Xx (Qlt cs)
end
theorem QiN {α:Type} {c:Prop} [Decidable c] {a:Option α} {r:α} (h:(if c then a else none)=some r):c∧a=some r:=by
 by_cases k:c
 ·rw [if_pos k] at h;exact ⟨k,h⟩
 ·rw [if_neg k] at h;cases h
def lcg (m i:Nat):Nat:=(i * 5 + 1) % m
def lcgN (m:Nat):Nat→Nat→Nat
 | 0,i=>i
 | s + 1,i=>lcgN m s (lcg m i)
theorem QcW (m:Nat):∀ a b i,lcgN m (a + b) i=lcgN m b (lcgN m a i)
 | 0,b,i=>by rw [Nat.zero_add];rfl
 | a + 1,b,i=>by rw [show a + 1 + b=(a + b) + 1 by omega];exact QcW m a b (lcg m i)
def Mk2 (m:Nat):Prop:=m=8∨m=16∨m=32∨m=64∨m=128∨m=256
def Qgz (m:Nat):Nat→Nat→List Nat
 | 0,_=>[]
 | s + 1,i=>i :: Qgz m s (lcg m i)
theorem QfU (m:Nat):∀ (n i s:Nat),s < n→(Qgz m n i)[s]?=some (lcgN m s i)
 | n + 1,i,0,_=>rfl
 | n + 1,i,s + 1,h=>by
  show (Qgz m n (lcg m i))[s]?=_
  exact QfU m n (lcg m i) s (by omega)
theorem Qdp (m:Nat):∀ (n i:Nat),(Qgz m n i).length=n
 | 0,_=>rfl
 | n + 1,i=>by show (Qgz m n (lcg m i)).length + 1=n + 1;rw [Qdp m n]
def Qam (m:Nat):Bool:=Nat.beq (lcgN m m 0) 0&&(List.range m).all fun f=>(Qgz m m 0).any fun x=>Nat.beq x f
theorem QlH:Qam 8=true∧Qam 16=true∧Qam 32=true∧Qam 64=true∧Qam 128=true∧Qam 256=true:=by decide +kernel
theorem round_of {m:Nat} (h:Mk2 m):Qam m=true:=by
 obtain ⟨a,b,c,d,e,f⟩:=QlH
 rcases h with rfl | rfl | rfl | rfl | rfl | rfl <;> assumption
theorem reach0 {m:Nat} (h:Mk2 m):lcgN m m 0=0∧∀ f,f < m→∃ s,s < m∧lcgN m s 0=f:=by
 have q:=round_of h
 unfold Qam at q
 rw [Bool.and_eq_true,List.all_eq_true] at q
 refine ⟨Nat.eq_of_beq_eq_true q.1,fun f hf => ?_⟩
 have:f∈Qgz m m 0:=by
  obtain ⟨x,hx,e⟩:=List.any_eq_true.mp (q.2 f (List.mem_range.mpr hf))
  rw [← Nat.eq_of_beq_eq_true e]
  exact hx
 obtain ⟨s,hs,e⟩:=List.mem_iff_getElem.mp this
 rw [Qdp] at hs
 have z:=QfU m m 0 s hs
 rw [List.getElem?_eq_getElem (by rw [Qdp];exact hs),e] at z
 exact ⟨s,hs,(Option.some.inj z).symm⟩
theorem reach {m:Nat} (h:Mk2 m) {i f:Nat} (hi:i < m) (hf:f < m):∃ s,s < m∧lcgN m s i=f:=by
 obtain ⟨h0,hr⟩:=reach0 h
 obtain ⟨a,ha,rfl⟩:=hr i hi
 obtain ⟨b,hb,rfl⟩:=hr f hf
 by_cases hab:a≤b
 ·exact ⟨b - a,by omega,by rw [← QcW];congr 1;omega⟩
 ·refine ⟨m - a + b,by omega,?_⟩
  rw [QcW,← QcW m a,show a + (m - a)=m by omega,h0]
def Qar (mask:Nat):Nat→Nat×Nat→Nat×Nat
 | 0,x=>x
 | s + 1,x=>Qar mask s (SetTable.leap mask x.1 x.2)
theorem Qgh (mask:Nat):∀ a b x,Qar mask (a + b) x=Qar mask b (Qar mask a x)
 | 0,b,x=>by rw [Nat.zero_add];rfl
 | a + 1,b,x=>by rw [show a + 1 + b=(a + b) + 1 by omega];exact Qgh mask a b _
theorem Qeu (mask:Nat):∀ s i,Qar mask s (i,0)=(lcgN (mask + 1) s i,0)
 | 0,_=>rfl
 | s + 1,i=>by
  show Qar mask s ((i * 5 + 1 + 0 / 32) % (mask + 1),0 / 32)=_
  rw [Nat.zero_div,Nat.add_zero]
  exact Qeu mask s _
theorem Qev (mask:Nat):∀ s i p,(Qar mask s (i,p)).2=p / 32 ^ s
 | 0,i,p=>by simp [Qar]
 | s + 1,i,p=>by
  show (Qar mask s ((i * 5 + 1 + p / 32) % (mask + 1),p / 32)).2=_
  rw [Qev mask s,Nat.div_div_eq_div_mul,Nat.pow_succ,Nat.mul_comm]
theorem QiL (mask:Nat):∀ s i p,i < mask + 1→(Qar mask s (i,p)).1 < mask + 1
 | 0,i,p,h=>h
 | s + 1,i,p,h=>QiL mask s _ _ (Nat.mod_lt _ (by omega))
theorem leaps {mask:Nat} (h:Mk2 (mask + 1)) {i p f:Nat} (hi:i < mask + 1) (hp:p < 2 ^ 64) (hf:f < mask + 1):∃ s,s < SetTable.turns mask∧(Qar mask s (i,p)).1=f:=by
 have z:(Qar mask 13 (i,p)).2=0:=by
  rw [Qev]
  exact Nat.div_eq_of_lt (Nat.lt_of_lt_of_le hp (by decide))
 obtain ⟨s,hs,e⟩:=reach h (QiL mask 13 i p hi) hf
 refine ⟨13 + s,by unfold SetTable.turns;omega,?_⟩
 rw [Qgh,show Qar mask 13 (i,p)=((Qar mask 13 (i,p)).1,0) from Prod.ext rfl z,Qeu]
 exact e
theorem Qle {mask:Nat} {owner:Array (Option Nat)}:∀ (fuel i p:Nat) (j:Nat),SetTable.layClean.free mask owner fuel i p=some j→owner.getD j (some 0)=none
 | 0,i,p,j,h=>by cases h
 | fuel + 1,i,p,j,h=>by
  unfold SetTable.layClean.free at h
  split at h
  ·rename_i k hk
   cases h
   have:=List.find?_some hk
   simpa [Option.isNone_iff_eq_none] using this
  ·exact Qle fuel _ _ j h
theorem Qgl {mask:Nat} {owner:Array (Option Nat)} {f:Nat} (hf:owner.getD f (some 0)=none):∀ (fuel i p:Nat),(∃ s,s < fuel∧(Qar mask s (i,p)).1=f)→∃ j,SetTable.layClean.free mask owner fuel i p=some j
 | 0,i,p,⟨s,hs,_⟩=>by omega
 | fuel + 1,i,p,⟨s,hs,e⟩=>by
  unfold SetTable.layClean.free
  split
  ·exact ⟨_,rfl⟩
  ·rename_i hn
   cases s with
   | zero =>
    have e:i=f:=e
    subst e
    have z:=List.find?_eq_none.mp hn 0 (by rw [List.mem_range];unfold SetTable.runEnd;split <;> omega)
    rw [Nat.add_zero,hf] at z
    simp at z
   | succ s=>exact Qgl hf fuel _ _ ⟨s,by omega,e⟩
theorem fm_set:∀ (l:List (Option Nat)) (j k:Nat),l[j]?=some none→((l.set j (some k)).filterMap id).Perm (k :: l.filterMap id)
 | [],j,k,h=>by simp at h
 | x :: l,0,k,h=>by
  have:x=none:=by simpa using h
  subst this
  simp
 | x :: l,j + 1,k,h=>by
  have ih:=fm_set l j k (by simpa using h)
  rw [List.set_cons_succ]
  cases x with
  | none=>simpa using ih
  | some y =>
   show (y :: (l.set j (some k)).filterMap id).Perm (k :: y :: l.filterMap id)
   exact (ih.cons y).trans (.swap _ _ _)
theorem Qlg:∀ (l:List (Option Nat)),(∀ x∈l,x≠none)→(l.filterMap id).length=l.length
 | [],_=>rfl
 | x :: l,h=>by
  cases x with
  | none=>exact absurd rfl (h none (by simp))
  | some y=>show (y :: l.filterMap id).length=_;simp [Qlg l fun x hx=>h x (by simp [hx])]
def laySt (mask:Nat) (acc:Option (Array (Option Nat)×Nat)) (h:Int):Option (Array (Option Nat)×Nat):=do
 let (owner,k) ← acc
 let j ← SetTable.layClean.free mask owner (SetTable.turns mask) (SetTable.bits h % (mask + 1)) (SetTable.bits h)
 pure (owner.setIfInBounds j (some k),k + 1)
theorem lay_step {mask:Nat} (hm:Mk2 (mask + 1)) {owner:Array (Option Nat)} {k:Nat} (h1:owner.size=mask + 1) (h2:(owner.toList.filterMap id).Perm (List.range k)) (hk:k≤mask) (h:Int) :
  ∃ owner',laySt mask (some (owner,k)) h=some (owner',k + 1)∧owner'.size=mask + 1∧(owner'.toList.filterMap id).Perm (List.range (k + 1)):=by
 obtain ⟨f,hf,hfn⟩:∃ f,f < mask + 1∧owner.getD f (some 0)=none:=by
  apply Classical.byContradiction
  intro hno
  have all:∀ x∈owner.toList,x≠none:=fun x hx z=>by
   obtain ⟨i,hi,e⟩:=List.mem_iff_getElem.mp hx
   rw [Array.length_toList] at hi
   refine hno ⟨i,by omega,?_⟩
   rw [Array.getD_eq_getD_getElem?,Array.getElem?_eq_getElem hi]
   rw [Array.getElem_toList] at e
   rw [e,z]
   rfl
  have l1:=Qlg _ all
  have l2:=h2.length_eq
  rw [List.length_range] at l2
  rw [l2] at l1
  have l3:owner.toList.length=owner.size:=Array.length_toList
  omega
 have hb:SetTable.bits h < 2 ^ 64:=by
  unfold SetTable.bits
  have a:=Int.emod_nonneg h (show (2 ^ 64:Int)≠0 by decide)
  have b:=Int.emod_lt_of_pos h (show (0:Int) < 2 ^ 64 by decide)
  omega
 obtain ⟨j,hj⟩:=Qgl (mask:=mask) hfn (SetTable.turns mask) _ _ (leaps hm (i:=SetTable.bits h % (mask + 1)) (p:=SetTable.bits h) (Nat.mod_lt _ (by omega)) hb hf)
 have hjn:=Qle _ _ _ _ hj
 have hjl:j < owner.size:=by
  apply Classical.byContradiction
  intro hge
  rw [Array.getD_eq_getD_getElem?,Array.getElem?_eq_none (by omega)] at hjn
  cases hjn
 have hjg:owner.toList[j]?=some none:=by
  rw [Array.getD_eq_getD_getElem?,Array.getElem?_eq_getElem hjl] at hjn
  rw [Array.getElem?_toList,Array.getElem?_eq_getElem hjl]
  exact congrArg some hjn
 refine ⟨owner.setIfInBounds j (some k),?_,by rw [Array.size_setIfInBounds];exact h1,?_⟩
 ·show (SetTable.layClean.free mask owner (SetTable.turns mask) (SetTable.bits h % (mask + 1)) (SetTable.bits h)).bind _=_
  rw [hj]
  rfl
 ·rw [Array.toList_setIfInBounds]
  refine (fm_set _ _ _ hjg).trans ?_
  rw [List.range_succ]
  exact (h2.cons k).trans (List.perm_append_comm (l₁:=[k]) (l₂:=List.range k))
theorem QiM {mask:Nat} (hm:Mk2 (mask + 1)):∀ (hs:List Int) (owner:Array (Option Nat)) (k:Nat),owner.size=mask + 1→(owner.toList.filterMap id).Perm (List.range k)→k + hs.length≤mask + 1 →
  ∃ owner',hs.foldl (laySt mask) (some (owner,k))=some (owner',k + hs.length)∧owner'.size=mask + 1∧(owner'.toList.filterMap id).Perm (List.range (k + hs.length))
 | [],owner,k,h1,h2,h3=>⟨owner,rfl,h1,h2⟩
 | h :: hs,owner,k,h1,h2,h3=>by
  rw [List.length_cons] at h3
  obtain ⟨o',e,q1,q2⟩:=lay_step hm h1 h2 (by omega) h
  obtain ⟨o2,e2,q3,q4⟩:=QiM hm hs o' (k + 1) q1 q2 (by omega)
  refine ⟨o2,?_,q3,?_⟩
  ·rw [List.foldl_cons,e,e2,List.length_cons]
   congr 2
   omega
  ·rw [List.length_cons,show k + (hs.length + 1)=k + 1 + hs.length by omega]
   exact q4
theorem QhX {mask:Nat} (hm:Mk2 (mask + 1)) (hs:Array Int) (hn:hs.size≤mask + 1):∃ owner,SetTable.layClean mask hs=some owner∧owner.size=mask + 1∧(owner.toList.filterMap id).Perm (List.range hs.size):=by
 obtain ⟨o,e,q1,q2⟩:=QiM hm hs.toList (Array.replicate (mask + 1) none) 0 (by simp) (by simp) (by rw [Array.length_toList];omega)
 refine ⟨o,?_,q1,by simpa using q2⟩
 show (hs.foldl (laySt mask) (some (Array.replicate (mask + 1) none,0))).map (·.1)=_
 rw [← Array.foldl_toList,e]
 rfl
theorem QiC (owner:Array (Option Nat)) (n:Nat) (h:owner.size=n):(((List.range n).filterMap fun j=>(owner.getD j none).map (j,·)).map (·.2))=owner.toList.filterMap id:=by
 subst h
 rw [List.map_filterMap]
 have:owner.toList=(List.range owner.size).map fun j=>owner.getD j none:=by
  apply List.ext_getElem
  ·simp
  ·intro i h1 h2
   simp [Array.getD_eq_getD_getElem?,Array.getElem?_eq_getElem (show i < owner.size by simpa using h1)]
 rw [this,List.filterMap_map]
 congr 1
 funext j
 simp [Function.comp,Option.map_map]
 cases owner[j]?.getD none <;> rfl
theorem QkU {mask finger moves:Nat} {led plain:Bool} (hm:Mk2 (mask + 1)) (hs:Array Int) (hn:hs.size≤mask) :
  ∃ t order,SetTable.laid mask finger moves led plain hs=some (t,order)∧order.toList.Perm (List.range hs.size)∧t.led=led∧Up t.place∧t.fits hs.size=true∧t.mask=mask∧t.dummies = #[]:=by
 obtain ⟨o,e,q1,q2⟩:=QhX hm hs (by omega)
 have l:((List.range (mask + 1)).filterMap fun j=>(o.getD j none).map (j,·)).length=hs.size:=by
  have:=congrArg List.length (QiC o (mask + 1) q1)
  rw [List.length_map] at this
  rw [this,q2.length_eq,List.length_range]
 have e2:SetTable.laid mask finger moves led plain hs=some ({ mask:=mask,place:=(((List.range (mask + 1)).filterMap fun j=>(o.getD j none).map (j,·)).map (·.1)).toArray,dummies := #[],finger:=finger,led:=led,moves:=moves,plain:=plain },(((List.range (mask + 1)).filterMap fun j=>(o.getD j none).map (j,·)).map (·.2)).toArray):=by
  unfold SetTable.laid
  rw [e]
  rfl
 refine ⟨_,_,e2,?_,rfl,?_,?_,rfl,rfl⟩
 ·rw [List.toList_toArray,QiC o (mask + 1) q1]
  exact q2
 ·unfold Up
  rw [List.toList_toArray]
  exact Qcz (fun j=>o.getD j none) _
 ·unfold SetTable.fits SetTable.fill
  rw [List.size_toArray,List.length_map,l]
  simp [hn]
section
variable {prog:Program} {w:World} {A:Around} {E:Value→Shared→Prop} {s:Shared}
def keyS:Value→Str
 | .str k _=>k
 | _ => ""
theorem Qdk {k:Str} {v:Value} (h:(strKind prog w).is k v=true):keyS v=k:=by
 cases v with
 | str y t=>exact (strKind prog w).inj (.str y t) y k (strKind_is _ _ _ _) h
 | _=>exact absurd h (by simp [PySem.strKind,Value.isStrOf])
theorem XO {l:List (Int×Value)} (h:ElemsOf (strKind prog w) l) {e:Int×Value} (he:e∈l):(strKind prog w).is (keyS e.2) e.2=true∧e.1=(strKind prog w).hash (keyS e.2)∧e.2.scannable=true:=by
 obtain ⟨⟨k,h1,h2⟩,h3⟩:=h e he
 rw [Qdk h1]
 exact ⟨h1,h2,h3⟩
structure SetK (prog:Program) (w:World) (L:Bool) (h:Heap) (a:Addr) (o:Obj) (es:Array (Int×Value)) (ep:Nat) (t:SetTable) (M:List Str):Prop where
 ho:h.get? a=some o
 ex:o.ExactSet
 hd:o.data = .set es ep t
 el:ElemsOf (strKind prog w) es.toList
 ks:(es.toList.map fun e=>keyS e.2).Perm M
 nd:M.Nodup
 sb:es.size < scanBound
 hf:t.fits es.size=true
 kp:Kept L t
theorem YJ.toK {L:Bool} {h:Heap} {a:Addr} {M:List Str} (x:YJ prog w L h a M):∃ o es ep t,SetK prog w L h a o es ep t M:=by
 obtain ⟨o,es,ep,t,h1,h2,h3,h4,h5,h6,h7,h8,h9,h10⟩:=x
 refine ⟨o,es,ep,t,h1,h2,h3,h4,?_,h9,h6,h7,h10⟩
 refine Qbp h9 (fun k hk => ?_) (by rw [List.length_map,Array.length_toList];omega)
 obtain ⟨e,he,q⟩:=(h5 k).mp hk
 exact List.mem_map.mpr ⟨e,he,Qdk q⟩
theorem SetK.toL {L:Bool} {h:Heap} {a:Addr} {o:Obj} {es:Array (Int×Value)} {ep:Nat} {t:SetTable} {M:List Str} (x:SetK prog w L h a o es ep t M):YJ prog w L h a M:=by
 refine ⟨o,es,ep,t,x.ho,x.ex,x.hd,x.el,fun k=>⟨fun hk => ?_,fun ⟨e,he,q⟩ => ?_⟩,x.sb,x.hf,?_,x.nd,x.kp⟩
 ·obtain ⟨e,he,rfl⟩:=List.mem_map.mp (x.ks.mem_iff.mpr hk)
  exact ⟨e,he,(XO x.el he).1⟩
 ·exact x.ks.mem_iff.mp (List.mem_map.mpr ⟨e,he,Qdk q⟩)
 ·have:=x.ks.length_eq
  rw [List.length_map,Array.length_toList] at this
  exact this
theorem find_K {L:Bool} {a:Addr} {o:Obj} {es:Array (Int×Value)} {ep:Nat} {t:SetTable} {M:List Str} {k:Str} {tk:Tok} {Q:Option Nat→Shared→Prop} (x:SetK prog w L s.heap a o es ep t M)
  (fin:∀ r,(∀ i,r=some i→∃ e,es.toList[i]?=some e∧keyS e.2=k)→(r=none→k∉M)→Q r s):wpAny (model prog w) A (setFind a (.str k tk) ((strKind prog w).hash k)) Q E s:=by
 have hk:(strKind prog w).is k (.str k tk)=true:=strKind_is _ _ _ _
 unfold setFind setFindIn
 refine wpAny_bind (wpAny_setState_of x.ho x.hd x.hf ?_)
 dsimp only
 rw [byScan_of (show (Value.str k tk).scannable=true from rfl) x.sb x.el,if_pos rfl]
 refine wpAny_bind (wpAny_rule (wpAny_bind (wpAny_setScan_of hk x.ho x.hd x.hf x.el ?_)))
 cases hr:List.findIdx? (fun e=>(strKind prog w).is k e.2) es.toList with
 | some j =>
  obtain ⟨hj,pj,_⟩:=List.findIdx?_eq_some_iff_getElem.mp hr
  refine wpAny_pure (fin _ (fun i hi => ?_) fun z=>by cases z)
  cases hi
  rw [Nat.zero_add]
  exact ⟨_,List.getElem?_eq_getElem hj,Qdk pj⟩
 | none =>
  refine wpAny_pure (fin _ (fun i hi=>by cases hi) fun _ z => ?_)
  obtain ⟨e,he,rfl⟩:=List.mem_map.mp (x.ks.mem_iff.mpr z)
  have:=List.findIdx?_eq_none_iff.mp hr e he
  rw [(XO x.el he).1] at this
  cases this
theorem QaO {α:Type} (xs:Array α) (i:Nat):(SetTable.eraseAt xs i).toList=xs.toList.eraseIdx i:=by
 unfold SetTable.eraseAt
 rw [Array.toList_append,Array.toList_extract,Array.toList_extract,List.eraseIdx_eq_take_drop_succ]
 simp [List.extract_eq_take_drop]
 rw [List.take_of_length_le (by simp)]
theorem Qfi {t:SetTable} {n:Nat}:t.fits n=true↔t.place.size=n∧t.place.size + t.dummies.size≤t.mask:=by
 show (t.place.size==n&&decide (t.place.size + t.dummies.size≤t.mask))=true↔_
 rw [Bool.and_eq_true,beq_iff_eq,decide_eq_true_iff]
theorem Qet {α β:Type} (f:α→β):∀ (l:List α) (i:Nat),(l.eraseIdx i).map f=(l.map f).eraseIdx i
 | [],_=>rfl
 | x :: l,0=>rfl
 | x :: l,i + 1=>by
  show f x :: (l.eraseIdx i).map f=f x :: (l.map f).eraseIdx i
  rw [Qet f l i]
theorem Qib {α:Type} (xs:Array α) (p:Nat) (x:α):(SetTable.insertAt xs p x).size=xs.size + 1:=by
 rw [← Array.length_toList,QbM,List.length_append,List.length_cons,List.length_take,List.length_drop,Array.length_toList]
 omega
theorem Qez {α:Type} (xs:Array α) {i:Nat} (h:i < xs.size):(SetTable.eraseAt xs i).size=xs.size - 1:=by
 rw [← Array.length_toList,QaO,List.length_eraseIdx,if_pos (by rw [Array.length_toList];exact h),Array.length_toList]
theorem QjE {t:SetTable} {i:Nat} (h:i < t.place.size):(t.drop i).place=SetTable.eraseAt t.place i∧(t.drop i).dummies.size=t.dummies.size + 1∧(t.drop i).mask=t.mask:=by
 unfold SetTable.drop
 rw [Array.getElem?_eq_getElem h]
 exact ⟨rfl,Qib _ _ _,rfl⟩
theorem Qmn {t:SetTable} {n i:Nat} (h:t.fits n=true) (hi:i < n):(t.drop i).fits (n - 1)=true:=by
 rw [Qfi] at h ⊢
 obtain ⟨h1,h2⟩:=h
 obtain ⟨d1,d2,d3⟩:=QjE (t:=t) (i:=i) (by omega)
 rw [d1,d2,d3,Qez _ (by omega)]
 omega
theorem Qmm {L:Bool} {t:SetTable} (k:Kept L t) (i:Nat):Kept L (t.drop i):=by
 unfold SetTable.drop
 split
 ·refine ⟨k.1,?_⟩
  unfold Up
  rw [QaO]
  exact k.2.sublist (List.eraseIdx_sublist _ _)
 ·exact k
theorem Qmo {L:Bool} {a:Addr} {o:Obj} {es:Array (Int×Value)} {ep:Nat} {t:SetTable} {M:List Str} {k:Str} {tk:Tok} {Q:Bool→Shared→Prop} (x:SetK prog w L s.heap a o es ep t M)
  (fin:∀ b h',Heap.SameBut a s.heap h'→(∃ o es ep t,SetK prog w L h' a o es ep t (M.erase k))→Q b { s with heap:=h' }):wpAny (model prog w) A (setDiscardHashed a (.str k tk) ((strKind prog w).hash k)) Q E s:=by
 unfold setDiscardHashed
 refine wpAny_bind (find_K x fun r h1 h2 => ?_)
 cases r with
 | none =>
  refine wpAny_pure ?_
  have z:=fin false s.heap (Heap.SameBut.refl a s.heap) ⟨o,es,ep,t,by rw [List.erase_of_not_mem (h2 rfl)];exact x⟩
  exact z
 | some i =>
  obtain ⟨e,he,hek⟩:=h1 i rfl
  have hi:i < es.size:=by
   have:=(List.getElem?_eq_some_iff.mp he).1
   rwa [Array.length_toList] at this
  refine wpAny_bind (wpAny_setState_of x.ho x.hd x.hf ?_)
  dsimp only
  have sz:=Qez es hi
  have at1:=QeK x.ho x.hd (SetTable.eraseAt es i) (t.drop i)
  refine wpAny_bind (wpAny_storeSet_of x.ho x.hd ?_ (fits_of_scanBound (by rw [sz];have:=x.sb;omega)))
  refine wpAny_bind (wpAny_point (wpAny_pure (fin true _ (Heap.SameBut.update s.heap a _) ⟨_,_,_,_,at1,x.ex,rfl,?_,?_,x.nd.erase k,by rw [sz];have:=x.sb;omega,?_,Qmm x.kp i⟩)))
  ·intro e' he'
   rw [QaO] at he'
   exact x.el e' (List.mem_of_mem_eraseIdx he')
  ·rw [QaO,Qet]
   have hk1:(es.toList.map fun e=>keyS e.2)[i]?=some k:=by rw [List.getElem?_map,he];exact congrArg some hek
   obtain ⟨hlt,hk2⟩:=List.getElem?_eq_some_iff.mp hk1
   have p1:=QaN hlt
   rw [hk2] at p1
   have hkM:k∈M:=x.ks.mem_iff.mp (by rw [← hk2];exact List.getElem_mem hlt)
   exact (List.perm_cons k).mp ((p1.trans x.ks).trans (List.perm_cons_erase hkM))
  ·rw [sz]
   exact Qmn x.hf hi
theorem walk_K {a:Addr} {o:Obj} {es:Array (Int×Value)} {ep:Nat} {t:SetTable} {M:List Str} {Q:Array (Int×Value)→Shared→Prop} (x:SetK prog w (!byT w) s.heap a o es ep t M)
  (fin:∀ (ys:Array (Int×Value)) d,ys.toList.Perm es.toList→Q ys { s with drawn:=d }):wpAny (model prog w) A (setWalk a) Q E s:=by
 unfold setWalk setsByText
 refine wpAny_bind (wpAny_setState_of x.ho x.hd x.hf ?_)
 dsimp only
 refine wpAny_bind (wpAny_bind (wpAny_askSetting (wpAny_pure ?_)))
 refine (show wpAny _ A (if byT w=true then _ else _) _ E s from ?_)
 cases hT:byT w with
 | true =>
  rw [if_pos rfl]
  exact wpAny_bind (wpAny_askSetting (wpAny_pure (fin _ s.drawn (QbF _ _))))
 | false =>
  rw [if_neg (by decide)]
  refine (show wpAny _ A (if QcP es t=true then _ else _) _ E s from ?_)
  cases hD:QcP es t with
  | true =>
   rw [if_pos rfl]
   exact wpAny_bind (Qfm _ _ _ _ (by rw [Array.length_toList]) fun ys d p=>wpAny_pure (fin _ d (by rw [List.toList_toArray];exact p)))
  | false =>
   rw [if_neg (by decide)]
   have hl:t.led=true:=by have:=x.kp.1;rw [hT] at this;exact this
   refine wpAny_bind (show wpAny _ A (if (!t.led&&decide (es.size > 1))=true then unsupported _ else pure ()) _ E s from ?_)
   rw [hl,if_neg (by simp)]
   exact wpAny_pure (wpAny_pure (fin es s.drawn (.refl _)))
theorem QkG {sets:List Addr} {Q:Bool→Shared→Prop} (h:∀ a∈sets,∃ L o es ep t M,SetK prog w L s.heap a o es ep t M) (fin:Q true s):wpAny (model prog w) A (setsQuiet sets) Q E s:=by
 unfold setsQuiet setEntries
 refine wpAny_bind (wpAny_forIn_list _ (fun rest b s'=>b=⟨none,⟨⟩⟩∧s'=s∧∀ a∈rest,a∈sets) _ ?_ ?_ _ _ ⟨rfl,rfl,fun a ha=>ha⟩)
 ·rintro a rest b s' ⟨rfl,hs',hs⟩
  obtain rfl:=hs'.symm
  obtain ⟨L,o,es,ep,t,M,x⟩:=h a (hs a (by simp))
  refine wpAny_bind (wpAny_bind (wpAny_setState_of x.ho x.hd x.hf (wpAny_pure ?_)))
  refine wpAny_bind (wpAny_forIn_array' _ (fun r b s''=>b=⟨none,⟨⟩⟩∧s=s''∧∀ e∈r,e∈es.toList) _ ?_ ?_ _ _ ⟨rfl,rfl,fun e he=>he⟩)
  ·rintro ⟨n,v⟩ r b s'' ⟨rfl,rfl,hr⟩
   have hv:=(XO x.el (hr (n,v) (by simp))).1
   cases v with
   | str y t=>exact wpAny_pure ⟨rfl,rfl,fun e he=>hr e (by simp [he])⟩
   | _=>exact absurd hv (by simp [PySem.strKind,Value.isStrOf])
  ·rintro b s'' ⟨rfl,rfl,_⟩
   exact wpAny_pure ⟨rfl,rfl,fun a ha=>hs a (by simp [ha])⟩
 ·rintro b s' ⟨rfl,rfl,_⟩
  exact wpAny_pure fin
end
theorem QiU {α:Type}:∀ l:List α,(List.range l.length).filterMap (fun i=>l[i]?)=l
 | []=>rfl
 | x :: l=>by
  rw [List.length_cons,List.range_succ_eq_map,List.filterMap_cons_some (f:=fun i=>(x :: l)[i]?) (a:=0) (b:=x) rfl,List.filterMap_map]
  exact congrArg (x :: ·) (QiU l)
theorem Qlf {α:Type} {es:Array α} {order:Array Nat} (h:order.toList.Perm (List.range es.size)):(order.filterMap (es[·]?)).toList.Perm es.toList:=by
 rw [Array.toList_filterMap]
 have z:=h.filterMap (fun i=>es[i]?)
 have e:(List.range es.size).filterMap (fun i=>es[i]?)=es.toList:=by
  have:=QiU es.toList
  rw [Array.length_toList] at this
  simpa using this
 rwa [e] at z
theorem Qgd {α:Type} {xs ys:Array α} (h:xs.toList.Perm ys.toList):xs.size=ys.size:=by
 have:=h.length_eq
 rwa [Array.length_toList,Array.length_toList] at this
theorem QdM {n:Nat} (h:n < 256):Mk2 (SetTable.sizeAbove n)∧n < SetTable.sizeAbove n:=by
 have key:∀ n < 256,(SetTable.sizeAbove n=8∨SetTable.sizeAbove n=16∨SetTable.sizeAbove n=32∨SetTable.sizeAbove n=64∨SetTable.sizeAbove n=128∨SetTable.sizeAbove n=256)∧n < SetTable.sizeAbove n:=by decide +kernel
 exact key n h
section
variable {prog:Program} {w:World} {A:Around} {E:Value→Shared→Prop} {s:Shared}
theorem Qmw {L:Bool} {a:Addr} {o:Obj} {es:Array (Int×Value)} {ep:Nat} {t:SetTable} {M N:List Str} {es':Array (Int×Value)} {t':SetTable} {Q:Unit→Shared→Prop} (x:SetK prog w L s.heap a o es ep t M)
  (el:ElemsOf (strKind prog w) es'.toList) (ks:(es'.toList.map fun e=>keyS e.2).Perm N) (nd:N.Nodup) (sb:es'.size < scanBound) (hf:t'.fits es'.size=true) (kp:Kept L t')
  (fin:∀ h' o' ep',Heap.SameBut a s.heap h'→SetK prog w L h' a o' es' ep' t' N→Q () { s with heap:=h' }):wpAny (model prog w) A (storeSet a es' t') Q E s :=
 wpAny_storeSet_of x.ho x.hd (fin _ _ _ (Heap.SameBut.update s.heap a _) ⟨QeK x.ho x.hd es' t',x.ex,rfl,el,ks,nd,sb,hf,kp⟩) (fits_of_scanBound sb)
theorem QkD {L:Bool} {a:Addr} {o:Obj} {es:Array (Int×Value)} {ep:Nat} {t:SetTable} {M:List Str} {wanted:Nat} {Q:Unit→Shared→Prop} (x:SetK prog w L s.heap a o es ep t M) (hw:wanted < 256) (hn:es.size≤wanted)
  (fin:∀ h' o' es' ep' t',Heap.SameBut a s.heap h'→SetK prog w L h' a o' es' ep' t' M→t'.mask + 1=SetTable.sizeAbove wanted→t'.dummies = #[]→Q () { s with heap:=h' }):wpAny (model prog w) A (setRelay a wanted) Q E s:=by
 obtain ⟨m1,m2⟩:=QdM hw
 unfold setRelay
 refine wpAny_bind (wpAny_setState_of x.ho x.hd x.hf ?_)
 dsimp only
 have line:¬ SetTable.sizeAbove wanted > sizeLine:=by
  rw [sizeLine_eq]
  unfold Mk2 at m1
  omega
 rw [if_neg line]
 have pos:SetTable.sizeAbove wanted - 1 + 1=SetTable.sizeAbove wanted:=by omega
 obtain ⟨t',order,e1,e2,e3,e4,e5,e6,e7⟩:=QkU (mask:=SetTable.sizeAbove wanted - 1) (finger:=t.finger) (moves:=t.movedTo (SetTable.sizeAbove wanted - 1)) (led:=t.led) (plain:=t.plain) (by rw [pos];exact m1) (es.map (·.1)) (by rw [Array.size_map];omega)
 rw [Array.size_map] at e2 e5
 have e0:t.relaid (es.map (·.1)) wanted=some (t',order):=e1
 rw [e0]
 have p:=Qlf e2
 have ps:=Qgd p
 refine wpAny_bind (show wpAny _ A (if ((order.filterMap (es[·]?)).size != es.size)=true then (unsupported _ >>= fun _=>pure (order.filterMap (es[·]?),t')) else pure (order.filterMap (es[·]?),t')) _ E s from ?_)
 rw [if_neg (by rw [ps];simp)]
 refine wpAny_pure (Qmw x (x.el.perm p) ((p.map _).trans x.ks) x.nd (by rw [ps];exact x.sb) (by rw [ps];exact e5) ⟨e3.trans x.kp.1,e4⟩ fun h' o' ep' sb y=>fin h' o' _ ep' t' sb y (by omega) e7)
theorem tidy_K {L:Bool} {a:Addr} {o:Obj} {es:Array (Int×Value)} {ep:Nat} {t:SetTable} {M:List Str} {Q:Unit→Shared→Prop} (x:SetK prog w L s.heap a o es ep t M) (hn:M.length < 64)
  (fin:∀ h',Heap.SameBut a s.heap h'→(∃ o es ep t,SetK prog w L h' a o es ep t M)→Q () { s with heap:=h' }):wpAny (model prog w) A (setTidy a) Q E s:=by
 have hl:=x.ks.length_eq
 rw [List.length_map,Array.length_toList] at hl
 unfold setTidy
 refine wpAny_bind (wpAny_setState_of x.ho x.hd x.hf ?_)
 dsimp only
 split
 ·have g:SetTable.grown es.size=es.size * 4:=by
   unfold SetTable.grown
   rw [if_neg (by omega)]
  rw [g]
  exact QkD x (by omega) (by omega) fun h' o' es' ep' t' sb y _ _=>fin h' sb ⟨_,_,_,_,y⟩
 ·exact wpAny_pure (fin s.heap (Heap.SameBut.refl a s.heap) ⟨_,_,_,_,x⟩)
theorem SetK.at {L:Bool} {h h':Heap} {a:Addr} {o:Obj} {es:Array (Int×Value)} {ep:Nat} {t:SetTable} {M:List Str} (x:SetK prog w L h a o es ep t M) (e:h'.get? a=h.get? a):SetK prog w L h' a o es ep t M :=
 ⟨e.trans x.ho,x.ex,x.hd,x.el,x.ks,x.nd,x.sb,x.hf,x.kp⟩
theorem SetK.len {L:Bool} {h:Heap} {a:Addr} {o:Obj} {es:Array (Int×Value)} {ep:Nat} {t:SetTable} {M:List Str} (x:SetK prog w L h a o es ep t M):es.size=M.length:=by
 have hl:=x.ks.length_eq
 rwa [List.length_map,Array.length_toList] at hl
theorem room_K {L:Bool} {a:Addr} {o:Obj} {ep:Nat} {t:SetTable} {n:Nat} {Q:Unit→Shared→Prop} (x:SetK prog w L s.heap a o #[] ep t []) (hm:t.mask=7) (hd:t.dummies = #[]) (hn:n < 128)
  (fin:∀ h' o' ep' t',Heap.SameBut a s.heap h'→SetK prog w L h' a o' #[] ep' t' []→Mk2 (t'.mask + 1)→n≤t'.mask→t'.dummies = #[]→Q () { s with heap:=h' }):wpAny (model prog w) A (setRoomFor a n) Q E s:=by
 have hp:t.place.size=0:=(Qfi.mp x.hf).1
 unfold setRoomFor
 refine wpAny_bind (wpAny_setState_of x.ho x.hd x.hf ?_)
 dsimp only
 unfold SetTable.roomFor SetTable.fill
 rw [hp,hd,hm]
 by_cases h:(0 + (#[]:Array Nat).size + n) * 5 ≥ 7 * 3
 ·rw [if_pos h]
  refine QkD x (by omega) (by show 0≤_;omega) fun h' o' es' ep' t' sb y q1 q2 => ?_
  have e0:es' = #[]:=Array.eq_empty_of_size_eq_zero y.len
  subst e0
  obtain ⟨m1,m2⟩:=QdM (n:=(0 + n) * 2) (by omega)
  exact fin h' o' ep' t' sb y (by rw [q1];exact m1) (by omega) q2
 ·rw [if_neg h]
  have h':(0 + 0 + n) * 5 < 7 * 3:=Nat.lt_of_not_le h
  exact wpAny_pure (fin s.heap o ep t (Heap.SameBut.refl a s.heap) x (by rw [hm];exact .inl rfl) (by omega) hd)
theorem merge_K {L:Bool} {a r:Addr} {o ro:Obj} {es:Array (Int×Value)} {ep rep:Nat} {t rt:SetTable} {M:List Str} {Q:Unit→Shared→Prop} (x:SetK prog w L s.heap a o es ep t M) (y:SetK prog w L s.heap r ro #[] rep rt []) (ne:r≠a)
  (hm:rt.mask=7) (hd:rt.dummies = #[]) (hn:M.length < 128)
  (fin:∀ h',Heap.SameBut r s.heap h'→(∃ o es ep t,SetK prog w L h' r o es ep t M)→Q () { s with heap:=h' }):wpAny (model prog w) A (setMerge r a) Q E s:=by
 have hl:=x.len
 unfold setMerge
 rw [if_neg (by simpa using ne)]
 refine wpAny_bind (wpAny_setState_of x.ho x.hd x.hf ?_)
 dsimp only
 by_cases h0:es.isEmpty=true
 ·rw [if_pos h0]
  have:es.size=0:=by simpa using h0
  have:M=[]:=List.eq_nil_of_length_eq_zero (by omega)
  subst this
  exact wpAny_pure (fin s.heap (Heap.SameBut.refl r s.heap) ⟨_,_,_,_,y⟩)
 ·rw [if_neg h0]
  refine wpAny_bind (room_K y hm hd (by omega) fun h1 o1 ep1 t1 sb1 y1 k1 k2 k3 => ?_)
  refine wpAny_bind (wpAny_setState_of y1.ho y1.hd y1.hf ?_)
  dsimp only
  have hp1:t1.place.size=0:=(Qfi.mp y1.hf).1
  have hroad:t1.road t=if (t1.mask==t.mask&&t.dummies.isEmpty)=true then .slotForSlot else .clean:=by
   unfold SetTable.road SetTable.fill
   rw [hp1,k3]
   rfl
  rw [hroad]
  have led:(t1.led&&t.led)=L:=by rw [y1.kp.1,x.kp.1,Bool.and_self]
  by_cases h2:(t1.mask==t.mask&&t.dummies.isEmpty)=true
  ·rw [if_pos h2]
   exact Qmw y1 x.el x.ks x.nd x.sb x.hf ⟨led,x.kp.2⟩ fun h' o' ep' sb z=>fin h' (sb1.trans sb) ⟨_,_,_,_,z⟩
  ·rw [if_neg h2]
   dsimp only
   obtain ⟨t',order,e1,e2,e3,e4,e5,e6,e7⟩:=QkU (mask:=t1.mask) (finger:=t1.finger) (moves:=t1.moves) (led:=t1.led&&t.led) (plain:=t1.plain&&t.plain) k1 (es.map (·.1)) (by rw [Array.size_map];omega)
   rw [Array.size_map] at e2 e5
   rw [e1]
   have p:=Qlf e2
   have ps:=Qgd p
   refine wpAny_bind (show wpAny _ A (if ((order.filterMap (es[·]?)).size != es.size)=true then (unsupported _ >>= fun _=>pure (order.filterMap (es[·]?),t')) else pure (order.filterMap (es[·]?),t')) _ E _ from ?_)
   rw [if_neg (by rw [ps];simp)]
   exact wpAny_pure (Qmw y1 (x.el.perm p) ((p.map _).trans x.ks) x.nd (by rw [ps];exact x.sb) (by rw [ps];exact e5) ⟨e3.trans led,e4⟩ fun h' o' ep' sb z=>fin h' (sb1.trans sb) ⟨_,_,_,_,z⟩)
theorem Qhz {a:Addr} {o:Obj} {es:Array (Int×Value)} {ep:Nat} {t:SetTable} {M:List Str} {others:List Addr} {Q:Array (Int×Value)→Shared→Prop} (x:SetK prog w (!byT w) s.heap a o es ep t M)
  (h:∀ b∈others,∃ L o es ep t M,SetK prog w L s.heap b o es ep t M) (fin:∀ (ys:Array (Int×Value)) d,ys.toList.Perm es.toList→Q ys { s with drawn:=d }):wpAny (model prog w) A (setWalkUnseen a others none) Q E s:=by
 unfold setWalkUnseen setsByText
 refine wpAny_bind (wpAny_setState_of x.ho x.hd x.hf ?_)
 dsimp only
 refine wpAny_bind (wpAny_bind (wpAny_askSetting (wpAny_pure ?_)))
 split
 ·exact walk_K x fin
 ·refine wpAny_bind (QkG (fun b hb => ?_) ?_)
  ·rcases List.mem_cons.mp hb with rfl | hb
   ·exact ⟨_,_,_,_,_,_,x⟩
   ·exact h b hb
  ·rw [if_neg (by decide)]
   exact wpAny_bind (wpAny_rule (wpAny_pure (fin es s.drawn (.refl _))))
theorem Qhy {a f:Addr} {o fo:Obj} {es fes:Array (Int×Value)} {ep fep:Nat} {t ft:SetTable} {M N:List Str} {others:List Addr} {Q:Array (Int×Value)→Shared→Prop} (x:SetK prog w (!byT w) s.heap a o es ep t M)
  (y:SetK prog w (!byT w) s.heap f fo fes fep ft N) (h:∀ b∈others,∃ L o es ep t M,SetK prog w L s.heap b o es ep t M)
  (fin:∀ (ys:Array (Int×Value)) h' d,ys.toList.Perm es.toList→Heap.SameBut f s.heap h'→(∃ o es ep t,SetK prog w (!byT w) h' f o es ep t N)→Q ys { s with heap:=h',drawn:=d }):wpAny (model prog w) A (setWalkUnseen a others (some f)) Q E s:=by
 have fin0:∀ (ys:Array (Int×Value)) d,ys.toList.Perm es.toList→Q ys { s with drawn:=d }:=fun ys d p=>fin ys s.heap d p (Heap.SameBut.refl f s.heap) ⟨_,_,_,_,y⟩
 unfold setWalkUnseen setsByText
 refine wpAny_bind (wpAny_setState_of x.ho x.hd x.hf ?_)
 dsimp only
 refine wpAny_bind (wpAny_bind (wpAny_askSetting (wpAny_pure ?_)))
 split
 ·exact walk_K x fin0
 ·refine wpAny_bind (QkG (fun b hb => ?_) ?_)
  ·rcases List.mem_cons.mp hb with rfl | hb
   ·exact ⟨_,_,_,_,_,_,x⟩
   ·exact h b hb
  ·rw [if_neg (by decide)]
   refine wpAny_bind (wpAny_rule ?_)
   refine wpAny_bind (wpAny_setState_of y.ho y.hd y.hf ?_)
   dsimp only
   split
   ·refine wpAny_bind (Qmw y y.el y.ks y.nd y.sb y.hf ⟨?_,y.kp.2⟩ fun h' o' ep' sb z=>wpAny_pure (fin es h' s.drawn (.refl _) sb ⟨_,_,_,_,z⟩))
    show (ft.led&&t.led)=_
    rw [y.kp.1,x.kp.1,Bool.and_self]
   ·exact wpAny_pure (fin0 es s.drawn (.refl _))
theorem SetK.ty {L:Bool} {s:Shared} {a:Addr} {o:Obj} {es:Array (Int×Value)} {ep:Nat} {t:SetTable} {M:List Str} (x:SetK prog w L s.heap a o es ep t M):s.TypeIs (.ref a) "set":=⟨o,x.ho,x.ex.1⟩
theorem Qdb {a:Addr} {Q:Bool→Shared→Prop} (hT:s.TypeIs (.ref a) "set") (h:Q true s):wpAny (model prog w) A (Builtin.Frozenset.isAnySet (.ref a)) Q E s:=by
 unfold Builtin.Frozenset.isAnySet
 refine wpAny_bind (wpAny_isInstance hT sub_set_self ?_)
 exact wpAny_pure h
theorem new_K {Q:Value→Shared→Prop} (fin:∀ h' o,h'=s.heap.push o→SetK prog w (!byT w) h' s.heap.objs.size o #[] 0 (.fresh 0 0 (!byT w)) []→Q (.ref s.heap.objs.size) { s with heap:=h' }) :
  wpAny (model prog w) A (newSet (.type "set")) Q E s:=by
 unfold newSet setsByText
 refine wpAny_bind (wpAny_bind (wpAny_askSetting (wpAny_pure ?_)))
 refine wpAny_newObj_type (fin _ _ rfl ?_)
 refine ⟨Heap.get?_push_size _ rfl,⟨rfl,rfl,rfl⟩,rfl,fun e he=>by simp at he,.refl _,.nil,by decide,by rfl,rfl,by unfold Up;simp [SetTable.fresh]⟩
theorem base_K {a:Addr} {Q:Value→Shared→Prop} (hT:s.TypeIs (.ref a) "set") (h:Q (.type "set") s):wpAny (model prog w) A (Builtin.Frozenset.baseOf a) Q E s:=by
 unfold Builtin.Frozenset.baseOf
 exact wpAny_bind (wpAny_isInstance hT sub_set_self (wpAny_pure h))
theorem copy_K {a:Addr} {o:Obj} {es:Array (Int×Value)} {ep:Nat} {t:SetTable} {M:List Str} {Q:Value→Shared→Prop} (x:SetK prog w (!byT w) s.heap a o es ep t M) (hn:M.length < 128)
  (fin:∀ h',(∀ b o,s.heap.get? b=some o→h'.get? b=some o)→(∃ o es ep t,SetK prog w (!byT w) h' s.heap.objs.size o es ep t M)→Q (.ref s.heap.objs.size) { s with heap:=h' }):wpAny (model prog w) A (Builtin.Frozenset.copyOf a) Q E s:=by
 have alt:a < s.heap.objs.size:=Heap.lt_size x.ho
 unfold Builtin.Frozenset.copyOf
 refine wpAny_bind (base_K x.ty (wpAny_bind (new_K fun h' o' e y => ?_)))
 subst e
 refine wpAny_bind (wpAny_pure ?_)
 refine wpAny_bind (merge_K (s:={ s with heap:=s.heap.push o' }) (x.at ?_) y (Nat.ne_of_gt alt) rfl rfl hn fun h'' sb z=>wpAny_pure (fin h'' (fun b ob hb => ?_) z))
 ·exact (Heap.get?_push_of_some _ x.ho).trans x.ho.symm
 ·exact (sb.2 b (Nat.ne_of_lt (Heap.lt_size hb))).trans (Heap.get?_push_of_some _ hb)
theorem SetK.ext {L:Bool} {h h':Heap} {a:Addr} {o:Obj} {es:Array (Int×Value)} {ep:Nat} {t:SetTable} {M:List Str} (x:SetK prog w L h a o es ep t M) (e:∀ b o,h.get? b=some o→h'.get? b=some o):SetK prog w L h' a o es ep t M :=
 x.at ((e _ _ x.ho).trans x.ho.symm)
theorem Qbl {L:Bool} {id:String} {a:Addr} {o:Obj} {es:Array (Int×Value)} {ep:Nat} {t:SetTable} {M:List Str} {Q:Unit→Shared→Prop} (x:SetK prog w L s.heap a o es ep t M) (h:Q () s):wpAny (model prog w) A (Builtin.Frozenset.unchanged id a ep) Q E s:=by
 unfold Builtin.Frozenset.unchanged setEpoch
 refine wpAny_bind (wpAny_bind (wpAny_setState_of x.ho x.hd x.hf (wpAny_pure ?_)))
 rw [if_neg (by simp)]
 exact wpAny_pure h
theorem Qhk {L:Bool} {a:Addr} {o:Obj} {es:Array (Int×Value)} {ep:Nat} {t:SetTable} {M:List Str} {Q:Nat→Shared→Prop} (x:SetK prog w L s.heap a o es ep t M) (h:Q M.length s):wpAny (model prog w) A (Builtin.Frozenset.sizeOf a) Q E s:=by
 unfold Builtin.Frozenset.sizeOf
 refine wpAny_bind (wpAny_setEntries_of x.ho x.hd x.hf (wpAny_pure ?_))
 rw [x.len]
 exact h
theorem Qlh {L:Bool} {a:Addr} {o:Obj} {es:Array (Int×Value)} {ep:Nat} {t:SetTable} {M:List Str} {Q:Nat→Shared→Prop} (x:SetK prog w L s.heap a o es ep t M) (h:Q ep s):wpAny (model prog w) A (setEpoch a) Q E s:=by
 unfold setEpoch
 exact wpAny_bind (wpAny_setState_of x.ho x.hd x.hf (wpAny_pure h))
theorem QdH {M N K:List Str} (hM:M.Nodup) (hK:K.Nodup) (h:∀ j,j∈K↔j∈M∧j∉N):K.Perm (M.filter fun j=>decide (j∉N)) :=
 (List.perm_ext_iff_of_nodup hK (hM.filter _)).mpr fun j=>by rw [h,List.mem_filter,decide_eq_true_iff]
theorem update_K {id:String} {r a:Addr} {ro o:Obj} {res es:Array (Int×Value)} {rep ep:Nat} {rt t:SetTable} {M N:List Str} {Q:Unit→Shared→Prop} (x:SetK prog w (!byT w) s.heap r ro res rep rt M) (y:SetK prog w (!byT w) s.heap a o es ep t N)
    (ne:r≠a) (hM:M.length < 64) (hN:¬ N.length / 8 > M.length)
    (fin:∀ h' d K,Heap.SameBut r s.heap h'→(∃ o es ep t,SetK prog w (!byT w) h' r o es ep t K)→K.Perm (M.filter fun j=>decide (j∉N))→Q () { s with heap:=h',drawn:=d }):wpAny (model prog w) A (Builtin.Frozenset.differenceUpdate id r (.ref a)) Q E s:=by
  unfold Builtin.Frozenset.differenceUpdate
  have nb:((Value.ref a) == .ref r)=false:=by
    rw [beq_eq_false_iff_ne]
    exact fun e=>ne (by cases e;rfl)
  rw [nb,if_neg (by decide)]
  refine wpAny_bind (Qdb y.ty ?_)
  rw [if_pos rfl]
  refine wpAny_bind (wpAny_pure (wpAny_bind (Qhk y (wpAny_bind (Qhk x ?_)))))
  rw [if_neg hN]
  refine wpAny_bind (Qlh y (wpAny_bind (wpAny_holding (wpAny_bind (Qhz y (fun b hb => ?_) fun ys d py => ?_)))))
  · rw [List.mem_singleton] at hb
    subst hb
    exact ⟨_,_,_,_,_,_,x⟩
  · refine wpAny_bind (wpAny_forIn_array' _ (fun rest b s'=>∃ dn h' K,dn++rest=ys.toList∧s'={ s with heap:=h',drawn:=d }∧Heap.SameBut r s.heap h'∧(∃ o es ep t,SetK prog w (!byT w) h' r o es ep t K) ∧
        ∀ j,j∈K↔j∈M∧j∉dn.map fun e:Int×Value=>keyS e.2) _ ?_ ?_ _ _ ⟨[],s.heap,M,rfl,rfl,Heap.SameBut.refl _ _,⟨_,_,_,_,x⟩,fun j=>by simp⟩)
    · rintro ⟨n,v⟩ rest b s' ⟨dn,h',K,e1,rfl,sb,⟨o1,es1,ep1,t1,x1⟩,mem⟩
      have hin:(n,v)∈es.toList:=py.mem_iff.mp (by rw [← e1];simp)
      obtain ⟨v1,v2,v3⟩:=XO y.el hin
      cases v with
      | str k tk =>
        have v2':n=(strKind prog w).hash k:=v2
        subst v2'
        dsimp only
        refine wpAny_bind (wpAny_holding (Qmo (s:={ s with heap:=h',drawn:=d }) x1 fun bb h'' sb2 z => ?_))
        have y2:SetK prog w (!byT w) h'' a o es ep t N:=y.at ((sb2.2 a (Ne.symm ne)).trans (sb.2 a (Ne.symm ne)))
        refine wpAny_bind (Qbl (s:={ s with heap:=h'',drawn:=d }) y2 (wpAny_pure ?_))
        refine ⟨dn++[((strKind prog w).hash k,.str k tk)],h'',K.erase k,by rw [← e1];simp,rfl,sb.trans sb2,z,fun j => ?_⟩
        rw [x1.nd.mem_erase_iff,mem,List.map_append,List.mem_append]
        show _↔j∈M∧¬ (_∨j∈[k])
        rw [List.mem_singleton]
        constructor
        · rintro ⟨q1,q2,q3⟩
          exact ⟨q2,fun q=>q.elim q3 q1⟩
        · rintro ⟨q2,q⟩
          exact ⟨fun z=>q (.inr z),q2,fun z=>q (.inl z)⟩
      | _=>exact absurd v1 (by simp [PySem.strKind,Value.isStrOf])
    · rintro b s' ⟨dn,h',K,e1,rfl,sb,⟨o1,es1,ep1,t1,x1⟩,mem⟩
      rw [List.append_nil] at e1
      subst e1
      have pk:K.Perm (M.filter fun j=>decide (j∉N)):=QdH x.nd x1.nd fun j=>by
        rw [mem,((py.map fun e:Int×Value=>keyS e.2).trans y.ks).mem_iff]
      have kl:K.length < 64:=by
        have:=pk.length_eq
        have:=List.length_filter_le (fun j=>decide (j∉N)) M
        omega
      exact wpAny_pure (tidy_K (s:={ s with heap:=h',drawn:=d }) x1 kl fun h'' sb2 z=>fin h'' d K (sb.trans sb2) z pk)
theorem QgO {id:String} {a b:Addr} {o bo:Obj} {es bes:Array (Int×Value)} {ep bep:Nat} {t bt:SetTable} {M N:List Str} {Q:Value→Shared→Prop} (x:SetK prog w (!byT w) s.heap a o es ep t M) (y:SetK prog w (!byT w) s.heap b bo bes bep bt N)
  (hM:M.length < 64)
  (fin:∀ h' d K,(∀ b o,s.heap.get? b=some o→h'.get? b=some o)→YJ prog w (!byT w) h' s.heap.objs.size K→K.Perm (M.filter fun j=>decide (j∉N))→Q (.ref s.heap.objs.size) { s with heap:=h',drawn:=d }) :
  wpAny (model prog w) A (Builtin.Frozenset.difference id a (.ref b)) Q E s:=by
 unfold Builtin.Frozenset.difference
 dsimp only
 have blt:b < s.heap.objs.size:=Heap.lt_size y.ho
 have alt:a < s.heap.objs.size:=Heap.lt_size x.ho
 refine wpAny_bind (Qdb y.ty ?_)
 rw [if_neg (by decide)]
 refine wpAny_bind (wpAny_pure ?_)
 rw [if_neg (by simp),if_pos rfl]
 refine wpAny_bind (Qhk y (wpAny_bind (Qhk x ?_)))
 by_cases hs:M.length / 4 > N.length
 ·rw [if_pos hs]
  refine wpAny_bind (wpAny_rule (wpAny_bind (copy_K x (by omega) fun h' ext ⟨o1,es1,ep1,t1,x1⟩ => ?_)))
  refine wpAny_bind (wpAny_pure (wpAny_bind (wpAny_holding ?_)))
  refine update_K (s:={ s with heap:=h' }) x1 (y.ext ext) (Nat.ne_of_gt blt) hM (by omega) fun h'' d K sb ⟨o2,es2,ep2,t2,z⟩ pk=>wpAny_pure ?_
  exact fin h'' d K (fun c oc hc=>(sb.2 c (Nat.ne_of_lt (Heap.lt_size hc))).trans (ext c oc hc)) z.toL pk
 ·rw [if_neg hs]
  refine wpAny_bind (base_K x.ty (wpAny_bind (new_K fun h' o' e z => ?_)))
  have ext:∀ c oc,s.heap.get? c=some oc→h'.get? c=some oc:=fun c oc hc=>by rw [e];exact Heap.get?_push_of_some _ hc
  clear e
  have x':=x.ext ext
  have y':=y.ext ext
  refine wpAny_bind (wpAny_pure (wpAny_bind (Qlh (s:={ s with heap:=h' }) x' (wpAny_bind (wpAny_holding ?_)))))
  rw [if_pos rfl]
  refine wpAny_bind (Qhy (s:={ s with heap:=h' }) x' z (fun c hc => ?_) fun ys h1 d py sb1 ⟨o1,es1,ep1,t1,z1⟩ => ?_)
  ·simp only [List.mem_cons,List.not_mem_nil,or_false] at hc
   rcases hc with rfl | rfl
   ·exact ⟨_,_,_,_,_,_,y'⟩
   ·exact ⟨_,_,_,_,_,_,z⟩
  ·refine wpAny_bind (wpAny_forIn_array' _ (fun rest _ s'=>∃ dn h2 K,dn++rest=ys.toList∧s'={ s with heap:=h2,drawn:=d }∧Heap.SameBut s.heap.objs.size h' h2∧YJ prog w (!byT w) h2 s.heap.objs.size K∧K.Nodup∧K.length≤dn.length ∧
    ∀ j,j∈K↔(j∈dn.map fun e:Int×Value=>keyS e.2)∧j∉N) _ ?_ ?_ _ _ ⟨[],h1,[],rfl,rfl,sb1,z1.toL,.nil,Nat.le_refl _,fun j=>by simp⟩)
   ·rintro ⟨n,v⟩ rest _ s' ⟨dn,h2,K,e1,rfl,sb,zl,nd,kl,mem⟩
    have hin:(n,v)∈es.toList:=py.mem_iff.mp (by rw [← e1];simp)
    obtain ⟨v1,v2,v3⟩:=XO x.el hin
    have ln:dn.length + 1≤M.length:=by
     have q1:=congrArg List.length e1
     have q2:=py.length_eq
     have q3:=(Array.length_toList (xs:=es)).trans x.len
     rw [List.length_append,List.length_cons] at q1
     omega
    cases v with
    | str k tk =>
     have v2':n=(strKind prog w).hash k:=v2
     subst v2'
     dsimp only
     have y2:SetK prog w (!byT w) h2 b bo bes bep bt N:=y'.at (sb.2 b (Nat.ne_of_lt blt))
     have x2:SetK prog w (!byT w) h2 a o es ep t M:=x'.at (sb.2 a (Nat.ne_of_lt alt))
     refine wpAny_bind (wpAny_holding ?_)
     rw [if_pos rfl]
     refine wpAny_bind (find_K (s:={ s with heap:=h2,drawn:=d }) y2 fun rr f1 f2=>wpAny_bind (wpAny_pure ?_))
     cases rr with
     | some i =>
      obtain ⟨e,he,hk⟩:=f1 i rfl
      have kN:k∈N:=y.ks.mem_iff.mp (List.mem_map.mpr ⟨e,List.mem_of_getElem? he,hk⟩)
      rw [if_neg (by simp)]
      refine wpAny_pure (wpAny_bind (Qbl (s:={ s with heap:=h2,drawn:=d }) x2 (wpAny_pure ?_)))
      refine ⟨dn++[((strKind prog w).hash k,.str k tk)],h2,K,by rw [← e1];simp,rfl,sb,zl,nd,by rw [List.length_append];omega,fun j => ?_⟩
      rw [mem,List.map_append,List.mem_append]
      show _↔(_∨j∈[k])∧_
      rw [List.mem_singleton]
      exact ⟨fun q=>⟨.inl q.1,q.2⟩,fun q=>⟨q.1.elim (fun z=>z) fun z=>absurd (z ▸ kN) q.2,q.2⟩⟩
     | none =>
      have kN:=f2 rfl
      rw [if_pos (by simp)]
      refine wpAny_bind (add_LS (s:={ s with heap:=h2,drawn:=d }) zl (by have:scanBound=4096:=rfl;omega) fun bb h3 sb3 z3=>wpAny_pure ?_)
      have x3:SetK prog w (!byT w) h3 a o es ep t M:=x2.at (sb3.2 a (Nat.ne_of_lt alt))
      refine wpAny_bind (Qbl (s:={ s with heap:=h3,drawn:=d }) x3 (wpAny_pure ?_))
      refine ⟨dn++[((strKind prog w).hash k,.str k tk)],h3,Xd K k,by rw [← e1];simp,rfl,sb.trans sb3,z3,XU nd k,?_,fun j => ?_⟩
      ·have:=Qgf K k
       rw [List.length_append]
       show _≤dn.length + 1
       omega
      ·rw [Qgg,mem,List.map_append,List.mem_append]
       show _↔(_∨j∈[k])∧_
       rw [List.mem_singleton]
       exact ⟨fun q=>q.elim (fun q=>⟨.inl q.1,q.2⟩) fun q=>⟨.inr q,q ▸ kN⟩,fun q=>q.1.elim (fun z => .inl ⟨z,q.2⟩) .inr⟩
    | _=>exact absurd v1 (by simp [PySem.strKind,Value.isStrOf])
   ·rintro _ s' ⟨dn,h2,K,e1,rfl,sb,zl,nd,kl,mem⟩
    rw [List.append_nil] at e1
    subst e1
    refine wpAny_pure (wpAny_pure (fin h2 d K (fun c oc hc=>(sb.2 c (Nat.ne_of_lt (Heap.lt_size hc))).trans (ext c oc hc)) zl (QdH x.nd nd fun j => ?_)))
    rw [mem,((py.map fun e:Int×Value=>keyS e.2).trans x.ks).mem_iff]
end
section
variable {prog:Program} {w:World} {A:Around} {E:Value→Shared→Prop} {s:Shared} {D:Addr}
set_option maxHeartbeats 3200000 in
theorem QjI {l:Addr} {its:Array Value} {ns:List Str} {Q:Value→Shared→Prop} (calm:A.handled=none) (hl:s.heap.IsList l its) (hi:Qee its.toList ns) (hb:its.size + 1 < scanBound)
  (fin:∀ (h':Heap) (tk:Nat),YJ prog w (!byT w) h' s.heap.objs.size (Qbn (fun i=>ns.getD i "") its.size)→(∀ b o,b < s.heap.objs.size→s.heap.get? b=some o→h'.get? b=some o)→Q (.ref s.heap.objs.size) { s with heap:=h',toks:=tk }) :
  wpAny (model prog w) A (call (.type "set") [.ref l]) Q E s:=by
 obtain ⟨c,tl,hmro⟩:=PySem.F.called_set.mro
 have hmade:=PySem.F.called_set.made
 have hsub:=PySem.F.called_set.sub
 refine wpAny_call (codeAny_of_tree ?_)
 show wpAny _ _ (callAny (.type "set") _) _ _ _
 refine wpAny_pure ⟨Code.quiet_builtin _ (by decide +kernel),codeAny_builtin PySem.F.entry_type_call ?_⟩
 rw [Around.under_plain (weight_type_call_type "set" [.ref l] []) rfl]
 have h1:=PySem.F.called_set.notType
 have h2:=PySem.F.called_set.canCreate
 have hct:=PySem.F.typeCall_set_1 (.ref l)
 repeat (any_goals (first | assumption | wp_step))
 refine codeAny_mono (setNew (.ref l) (E:=E) (Q₁:=fun obj s₁=>obj = .ref s.heap.objs.size∧s₁={ s with heap:=s.heap.push { cls := .type "set",dict:=none,data := .set #[] 0 (.fresh 0 0 (!byT w)) } }) ⟨rfl,rfl⟩) fun r s₁ hr => ?_
 cases r with
 | error e=>exact hr
 | ok fl =>
  cases fl with
  | ret obj =>
   obtain ⟨rfl,rfl⟩:=hr
   have at0:(s.heap.push { cls := .type "set",dict:=none,data := .set #[] 0 (.fresh 0 0 (!byT w)) }).get? s.heap.objs.size=some { cls := .type "set",dict:=none,data := .set #[] 0 (.fresh 0 0 (!byT w)) }:=Heap.get?_push_size _ rfl
   have hT:Shared.TypeIs { s with heap:=s.heap.push { cls := .type "set",dict:=none,data := .set #[] 0 (.fresh 0 0 (!byT w)) } } (.ref s.heap.objs.size) "set":=⟨_,at0,rfl⟩
   have hli:=PySem.F.called_set.init.lookup
   have hbi:=PySem.F.called_set.init.bind (.ref s.heap.objs.size)
   repeat (any_goals (first | assumption | wp_step))
   refine codeAny_mono (codeAny_call_builtin (R:=wants (fun r s₂=>r = .none∧∃ h' tk,s₂={ s with heap:=h',toks:=tk }∧YJ prog w (!byT w) h' s.heap.objs.size (Qbn (fun i=>ns.getD i "") its.size) ∧
     (∀ b o,b < s.heap.objs.size→s.heap.get? b=some o→h'.get? b=some o)) E) PySem.F.called_set.init.plain PySem.F.entry_set_init (check_set_init_1 hT ?_)) fun r₂ s₂ hr₂ => ?_
   ·obtain ⟨ol,hol,hcl,nl,hdl⟩:=hl
    obtain ⟨ocls,odict,odata,oslots⟩:=ol
    simp only at hcl hdl
    subst hcl;subst hdl
    have lold:(s.heap.push { cls := .type "set",dict:=none,data := .set #[] 0 (.fresh 0 0 (!byT w)) }).get? l=some { cls := .type "list",dict:=odict,data := .seq its nl,slots:=oslots }:=Heap.get?_push_of_some _ hol
    have hsls:=PySem.F.sub_list_set
    have hslf:=PySem.F.sub_list_frozenset
    have hne:(Value.type "list"==Value.type "dict")=false:=by decide
    have lis:(s.heap.push { cls := .type "set",dict:=none,data := .set #[] 0 (.fresh 0 0 (!byT w)) }).IsList l its:=⟨_,lold,rfl,nl,rfl⟩
    unfold Builtin.«set.__init__» noKeywords Builtin.Frozenset.updateFrom
    generalize hPI:pyIter=PI
    wp_walk
    subst hPI
    refine wpAny_pyIter_list lis (wpAny_bind (wpAny_runValue ?_))
    have llt:l < s.heap.objs.size:=Heap.lt_size hol
    have calm3:A.in1.in1.in1.handled=none:=by simp [calm]
    have ne1:l≠(s.heap.push { cls := .type "set",dict:=none,data := .set #[] 0 (.fresh 0 0 (!byT w)) }).objs.size:=by
     rw [Heap.size_push]
     exact Nat.ne_of_lt (Nat.lt_succ_of_lt llt)
    have nin:s.heap.objs.size∉[(s.heap.push { cls := .type "set",dict:=none,data := .set #[] 0 (.fresh 0 0 (!byT w)) }).objs.size,l]:=by
     rw [Heap.size_push]
     intro z
     rcases List.mem_cons.mp z with z | z
     ·exact absurd z (Nat.ne_of_lt (Nat.lt_succ_self _))
     ·rw [List.mem_singleton] at z
      exact absurd z (Nat.ne_of_gt llt)
    have hval:∀ (i:Nat) (v:Value),its[i]?=some v→∃ t,v = .str ((fun i=>ns.getD i "") i) t:=fun i v hv=>Qee.str_at hi i v (by rw [Array.getElem?_toList];exact hv)
    refine QeS (L := !byT w) ((Walks.list calm3 _ l ne1 its).toS) s.heap.objs.size nin (fun i=>ns.getD i "") hval hb (its.size - 0) 0 _ (by omega) (Nat.zero_le _) ⟨⟨_,Heap.get?_push_size _ rfl,rfl,rfl⟩,lis.push _⟩ ?Qaa ?fin
    case Qaa=>exact QiS (Heap.get?_push_of_some _ at0)
    case fin =>
     intro s' hm z
     obtain ⟨h',g',d',tk',os'⟩:=s'
     obtain rfl:g'=s.gens:=hm.gens
     obtain rfl:d'=s.drawn:=hm.drawn
     obtain rfl:os'=s.os:=hm.os
     show wpAny _ _ _ _ _ _
     refine wpAny_pure ?_
     show wpAny _ _ (ret Value.none) _ _ _
     refine wpAny_pure ⟨rfl,h',tk',rfl,z,fun b o hb e => ?_⟩
     refine hm.heap b o (fun q => ?_) (Heap.get?_push_of_some _ (Heap.get?_push_of_some _ e))
     rw [Heap.size_push] at q
     rcases List.mem_cons.mp q with q | q
     ·exact absurd q (Nat.ne_of_lt hb)
     ·rw [List.mem_singleton] at q
      exact absurd q (Nat.ne_of_lt (Nat.lt_succ_of_lt hb))
   ·cases r₂ with
    | error e=>exact hr₂
    | ok fl₂ =>
     cases fl₂ with
     | ret r =>
      obtain ⟨rfl,h',tk,rfl,z,k⟩:=hr₂
      repeat (any_goals (first | assumption | wp_step))
      exact fin _ _ z k
     | _=>exact hr₂.elim
  | _=>exact hr.elim
theorem QhE {M:List Str} {Q:Value→Shared→Prop} (calm:A.handled=none) (hS:YJ prog w (!byT w) s.heap D M) (h64:M.length < 64)
  (fin:∀ (L:Addr) (h':Heap) (tk:Nat) (d:Drawn) (out:Array Value) (ns:List Str) (e:Nat),(∀ b o,s.heap.get? b=some o→h'.get? b=some o)→s.heap.objs.size≤L→h'.get? L=some (seqObj "list" out e)→StrsAre out.toList ns→ns.Perm M→sortedS ns=true →
   Q (.ref L) { s with heap:=h',toks:=tk,drawn:=d }):wpAny (model prog w) A (call (.builtin "sorted") [.ref D]) Q E s:=by
 obtain ⟨o,es,ep,t,ho,hex,hd,hel,hm,hb,hf,hn,hnd,hkp⟩:=hS
 have hC:SetC s.heap D es ep t:=⟨o,ho,hex,hd,hf⟩
 refine Calls.call_function_entry kind_sorted plain_sorted entry_sorted (args_sorted1 _) ?_
 unfold Builtin.«sorted»
 refine wpAny_bind (m:=checkCount "sorted" 1 1 _) (wpAny_pure ?_)
 refine wpAny_bind (Qil calm hC hkp hb fun h1 tk d ord k1 sz1 hp => ?_)
 have ol:ord.length=M.length:=by
  have:=hp.length_eq
  rw [this,← hn];simp
 have x:SetK prog w (!byT w) s.heap D o es ep t M:=by
  refine ⟨ho,hex,hd,hel,?_,hnd,hb,hf,hkp⟩
  refine Qbp hnd (fun k hk => ?_) (by rw [List.length_map,Array.length_toList];omega)
  obtain ⟨e,he,q⟩:=(hm k).mp hk
  exact List.mem_map.mpr ⟨e,he,Qdk q⟩
 have hks:StrsAre (ord.map (·.2)) (ord.map fun e=>keyS e.2):=by
  have key:∀ e∈ord,(strKind prog w).is (keyS e.2) e.2=true:=fun e he=>(XO hel (hp.mem_iff.mp he)).1
  clear hp ol
  induction ord with
  | nil=>exact .nil
  | cons y l ih =>
   obtain ⟨n,v⟩:=y
   have hy:=key (n,v) List.mem_cons_self
   cases v with
   | str k tk=>exact .cons k tk (ih fun e he=>key e (List.mem_cons_of_mem _ he))
   | _=>exact absurd hy (by simp [PySem.strKind,Value.isStrOf])
 have kM:(ord.map fun e=>keyS e.2).Perm M:=(hp.map _).trans x.ks
 refine wpAny_bind (wpAny_newList ?_)
 have vl:(ord.map (·.2)).length < 64:=by rw [List.length_map];omega
 have hoL:(h1.push (seqObj "list" (ord.map (·.2)).toArray 0)).get? h1.objs.size=some (seqObj "list" (ord.map (·.2)).toArray 0):=Heap.get?_push_size _ rfl
 refine wpAny_bind (wpAny_holding (wpAny_call_entry slot_list_sort ⟨_,hoL,rfl⟩ entry_list_sort (list_sort_treeK strKind_oneLt hoL hks.keysOf (fun v₁ v₂ rest e=>keyKind_strs (by rw [← e];exact hks)) vl fun st' a1 a2=>⟨_,rfl,?_⟩) (args_list_sort _)))
 obtain ⟨ss',b1,b2,b3⟩:=sorted_out_str hks a1 a2
 obtain ⟨e,hat⟩:=sortedHeap_at (out:=_) hoL
 refine wpAny_pure ⟨_,rfl,fin h1.objs.size _ tk d _ ss' e (fun b o q => ?_) sz1 hat b1 (b2.trans kM) b3⟩
 have q1:=k1 b o q
 have bl:=Heap.lt_size q1
 rw [sortedHeap_old (Nat.ne_of_lt bl) (by rw [Heap.size_push];exact Nat.lt_succ_of_lt bl)]
 exact Heap.get?_push_of_some _ q1
theorem Qfy:entryFor table "set.__sub__"=some Builtin.«frozenset.__sub__» :=
 entryFor_alias (id' := "frozenset.__sub__") (by kernel_rfl) rfl (by decide +kernel) (by kernel_rfl)
theorem sub_sets {a b:Addr} {M N:List Str} {Q:Value→Shared→Prop} (x:YJ prog w (!byT w) s.heap a M) (y:YJ prog w (!byT w) s.heap b N) (hM:M.length < 64)
  (fin:∀ h' d K,(∀ b o,s.heap.get? b=some o→h'.get? b=some o)→YJ prog w (!byT w) h' s.heap.objs.size K→K.Perm (M.filter fun j=>decide (j∉N))→Q (.ref s.heap.objs.size) { s with heap:=h',drawn:=d }) :
  wpAny (model prog w) A (binaryOp .Sub (.ref a) (.ref b)) Q E s:=by
 obtain ⟨o,es,ep,t,x⟩:=x.toK
 obtain ⟨bo,bes,bep,bt,y⟩:=y.toK
 refine wpAny_binaryOp_same (op := .Sub) (T := "set") x.ty y.ty PySem.F.fills_set_sub PySem.F.slot_set_sub ?_
 refine wpAny_call_entry PySem.F.slot_set_sub x.ty Qfy ?_ (PySem.F.args_set_sub_2 _ _)
 show wpAny _ _ (Builtin.Frozenset.slot1 "__sub__" ⟨[.ref a,.ref b],[]⟩ >>= _) _ _ _
 refine wpAny_bind (wpAny_pure ?_)
 dsimp only
 rw [if_neg (by decide)]
 dsimp only
 refine wpAny_bind (wpAny_bind (Qdb x.ty (show wpAny _ _ (Builtin.Frozenset.isAnySet (.ref b)) _ _ _ from Qdb y.ty ?_)))
 rw [if_neg (by decide)]
 refine wpAny_bind (wpAny_pure (wpAny_bind (QgO x y hM fun h' d K k1 k2 k3=>wpAny_pure ⟨_,rfl,by simp,fin h' d K k1 k2 k3⟩)))
end
section
variable {X:Cx} {e a b c:Expr} {es:List Expr} {ms ns ls:List Nat} {m m1 m2 m3:MEx} {ma mb:PEnv→Option (List PV)} {pos p p1 p2 p3 pos' pos2 pos3:Pos} {x:Str} {id T:String}
theorem Qco (hc:X.calm=true):QaR X (.type "set") (fun vs H Q=>∃ (l:Addr) (ns:List Str),vs=[.ref l]∧SqL X.K H l (ns.map V.str)∧ns.length < 1000∧∀ p M,H p=none→M.Perm (once ns)→Q (.ref p) (upd H p (Yw X p M))):=by
 intro pins s σ H vs us Q I rs h
 obtain ⟨l,ns,rfl,hl,hn,q⟩:=h
 obtain ⟨u,rfl,ru⟩:=XH rs
 cases ru
 obtain ⟨its,rv,pl,_⟩:=I.list hl
 have hlen:=rv.length
 rw [List.length_map] at hlen
 refine QjI (I.ok.hd hc) pl.isList (by simpa using QeT rv) (by simp only [List.size_toArray];show its.length + 1 < 4096;omega) fun h' tk z k => ?_
 have e:its.toArray.size=ns.length:=by simp only [List.size_toArray];exact hlen.symm
 rw [e] at z
 refine ⟨.ref s.heap.objs.size,upd H s.heap.objs.size (Yw X s.heap.objs.size _),I.laid (t':=tk) (fun b o q=>k b o (Heap.lt_size q) q) (Nat.le_refl _) ⟨z,?_,fun h1 h2 z1 k1=>z1.at k1⟩,rfl,q _ _ I.fresh (Qes ns)⟩
 obtain ⟨o,_,_,_,ho,_⟩:=z
 exact ⟨o,ho⟩
theorem Qdi (hc:X.calm=true):QaR X (.builtin "sorted") (fun vs H Q=>∃ (D:Addr) (M:List Str),vs=[.ref D]∧H D=some (Yw X D M)∧M.length < 64∧∀ (l:Addr) (ns:List Str),H l=none→ns.Perm M→sortedS ns=true→Q (.ref l) (upd H l (.lst (ns.map V.str)))):=by
 intro pins s σ H vs us Q I rs h
 obtain ⟨D,M,rfl,hD,h64,q⟩:=h
 obtain ⟨u,rfl,ru⟩:=XH rs
 cases ru
 obtain ⟨z,_,_⟩:=I.hok D _ hD
 refine QhE (I.ok.hd hc) z h64 fun L h' tk d out ns e k hL at' hi hp hs => ?_
 have hn:H L=none:=I.hok.fresh hL
 have hv:=QbE hi
 refine ⟨.ref L,upd H L (.lst (ns.map V.str)),(I.laid (t':=tk) (o := .lst (ns.map V.str)) k hL ⟨?_,out.toList,e,hv,by simpa [seqObj] using at'⟩).drawn d,rfl,q L ns hn hp hs⟩
 rw [List.length_map,hp.length_eq]
 exact Nat.le_of_lt (Nat.lt_trans h64 (by decide))
theorem Qjm:OpR X (binaryOp .Sub) (fun v u H Q=>∃ (a b:Addr) (M N:List Str),v = .ref a∧u = .ref b∧H a=some (Yw X a M)∧H b=some (Yw X b N)∧M.length < 64∧∀ p K,H p=none→K.Perm (M.filter fun j=>decide (j∉N))→Q (.ref p) (upd H p (Yw X p K))):=by
 intro pins s σ H v u v' u' Q I rv ru h
 obtain ⟨a,b,M,N,rfl,rfl,hA,hB,hM,q⟩:=h
 cases rv
 cases ru
 obtain ⟨za,_,_⟩:=I.hok a _ hA
 obtain ⟨zb,_,_⟩:=I.hok b _ hB
 refine sub_sets za zb hM fun h' d K k z hp => ?_
 refine ⟨.ref s.heap.objs.size,upd H s.heap.objs.size (Yw X s.heap.objs.size K),(I.laid (o:=Yw X s.heap.objs.size K) (t':=s.toks) k (Nat.le_refl _) ⟨z,?_,fun h1 h2 z1 k1=>z1.at k1⟩).drawn d,rfl,q _ _ I.fresh hp⟩
 obtain ⟨o,_,_,_,ho,_⟩:=z
 exact ⟨o,ho⟩
end
def QbH:List PV→List PV→Option (List PV)
 | [.lst xs],[.lst ys]=>match Yc xs,Yc ys with
  | some ns,some ks=>if ns.length < 1000∧ks.length < 1000∧(once ns).length < 64 then some ((QM ((once ns).filter fun j=>decide (j∉ks))).map .str) else none
  | _,_=>none
 | _,_=>none
def Qdz (ma mb:PEnv→Option (List PV)):PEnv→Option (List PV):=fun γ=>(ma γ).bind fun x=>(mb γ).bind fun y=>QbH x y
def QbI:List PV→Option PV
 | [.lst xs]=>match Yc xs with
  | some ns=>if ns.length < 1000 then some (.int (once ns).length) else none
  | none=>none
 | _=>none
section
variable {X:Cx} {e a b c:Expr} {es:List Expr} {ms ns ls:List Nat} {m m1 m2 m3:MEx} {ma mb:PEnv→Option (List PV)} {pos p p1 p2 p3 pos' pos2 pos3:Pos} {x:Str} {id T:String}
theorem Qkj {K:PySem.W.Frag} {F:Hp} {xs:List PV} {vs:List V} (h:RepL K F [.lst xs] vs):∃ l us,vs=[.ref l]∧SqL K F l us∧RepL K F xs us:=by
 unfold RepL at h
 obtain ⟨v,t,rfl,q1,qt⟩:=h
 unfold RepL at qt
 subst qt
 unfold Rep at q1
 obtain ⟨l,us,rfl,sl,rl⟩:=q1
 exact ⟨l,us,rfl,sl,rl⟩
theorem Qic (hc:X.calm=true) (hg:Gl X "set") (hm:X.mg "set"=none) (hg2:Gl X "sorted") (hm2:X.mg "sorted"=none) (ha:AM X ms [a] ma) (hb:AM X ns [b] mb)
  (hs:starEach [a] X.env=(false,eval a X.env) :: starEach [] X.env:=by rfl) (hpl:(backTo pos (starEach [] X.env)).any (·.1)=false:=by rfl)
  (hsb:starEach [b] X.env=(false,eval b X.env) :: starEach [] X.env:=by rfl) (hplb:(backTo pos2 (starEach [] X.env)).any (·.1)=false:=by rfl)
  (hs2:starEach [.BinOp (.Call (.Name "set" p1) [a] [] pos) .Sub (.Call (.Name "set" p3) [b] [] pos2) pos3] X.env=(false,eval (.BinOp (.Call (.Name "set" p1) [a] [] pos) .Sub (.Call (.Name "set" p3) [b] [] pos2) pos3) X.env) :: starEach [] X.env:=by rfl) (hpl2:(backTo pos' (starEach [] X.env)).any (·.1)=false:=by rfl) :
  EO X (ms++ns) (.Call (.Name "sorted" p2) [.BinOp (.Call (.Name "set" p1) [a] [] pos) .Sub (.Call (.Name "set" p3) [b] [] pos2) pos3] [] pos') (Qdz ma mb) :=
 PE.imp (Qav (Qdi hc) hg2 hm2 (by kernel_rfl) (Qal (pe_op Qjm (XM (Qco hc) hg hm (by kernel_rfl) ha (by decide) (by decide) hs hpl) (XM (Qco hc) hg hm (by kernel_rfl) hb (by decide) (by decide) hsb hplb)) Qef hs2) (by decide) (by decide) hs2 hpl2) fun σ H Q ⟨F,γ,r,k1,k2,k3,w⟩=>by
  obtain ⟨qs,e1,k3⟩:=Qi k3
  obtain ⟨rs,e2,k3⟩:=Qi k3
  refine ⟨F,γ,qs,k1,k2.left,e1,fun vs H1 F1 g1 q1 => ?_⟩
  unfold QbH at k3
  split at k3
  ·rename_i xs ys
   obtain ⟨l,us,rfl,sl,rl⟩:=Qkj q1
   split at k3
   ·rename_i ns ks hns hks
    obtain ⟨⟨c1,c2,c3⟩,rfl⟩:=Qz k3
    have e2':=YW hns rl
    subst e2'
    refine ⟨l,ns,rfl,g1.sub.seq sl,c1,fun p M hp hM => ?_⟩
    have g2:Grow F1 H1 F1 (upd H1 p (Yw X p M)) := .side g1.sub hp
    refine ⟨F1,γ,_,g2.sub,k2.right.mono g1.ext,e2,fun vs2 H2 F2 g3 q2 => ?_⟩
    obtain ⟨l2,us2,rfl,sl2,rl2⟩:=Qkj q2
    have e3:=YW hks rl2
    subst e3
    refine ⟨l2,ks,rfl,g3.sub.seq sl2,c2,fun p' N hp' hN => ?_⟩
    have g4:Grow F2 H2 F2 (upd H2 p' (Yw X p' N)) := .side g3.sub hp'
    refine ⟨p,p',M,N,rfl,rfl,g4.same p _ (g3.same p _ Qq),Qq,by rw [hM.length_eq];exact c3,fun p'' K hp'' hK => ?_⟩
    have g5:Grow F2 (upd H2 p' (Yw X p' N)) F2 (upd (upd H2 p' (Yw X p' N)) p'' (Yw X p'' K)) := .side g4.sub hp''
    have hK':K.Perm ((once ns).filter fun j=>decide (j∉ks)):=by
     refine (hK.trans (hM.filter _)).trans ?_
     rw [List.filter_congr (q:=fun j=>decide (j∉ks)) fun j _=>decide_eq_decide.mpr (not_congr (hN.mem_iff.trans Qck))]
    refine ⟨p'',K,rfl,Qq,?_,fun l3 zs hl3 hz hsz => ?_⟩
    ·have:=List.length_filter_le (fun j=>decide (j∉ks)) (once ns)
     have:=hK'.length_eq
     omega
    have ez:zs=QM ((once ns).filter fun j=>decide (j∉ks)):=QbC (hz.trans hK') (Xy _ hsz)
    subst ez
    have gA:=(g2.trans g3).trans (g4.trans g5)
    have g6:=gA.trans (.side (o := .lst ((QM ((once ns).filter fun j=>decide (j∉ks))).map V.str)) gA.sub hl3)
    exact w l3 _ _ F2 (g1.trans g6) (g1.same.free (gA.same.free hl3)) (gA.sub.free hl3) Qq (YM _)
   ·cases k3
  ·cases k3
theorem Qie (hc:X.calm=true) (hg:Gl X "set") (hm:X.mg "set"=none) (hg2:Gl X "len") (hm2:X.mg "len"=none) (ha:AM X ms [a] ma)
  (hs:starEach [a] X.env=(false,eval a X.env) :: starEach [] X.env:=by rfl) (hpl:(backTo pos (starEach [] X.env)).any (·.1)=false:=by rfl)
  (hs2:starEach [.Call (.Name "set" p1) [a] [] pos] X.env=(false,eval (.Call (.Name "set" p1) [a] [] pos) X.env) :: starEach [] X.env:=by rfl) (hpl2:(backTo pos' (starEach [] X.env)).any (·.1)=false:=by rfl) :
  EM X ms (.Call (.Name "len" p2) [.Call (.Name "set" p1) [a] [] pos] [] pos') (Qj QbI ma) :=
 PE.imp (Qav QbP hg2 hm2 PySem.boot_len (Qal (XM (Qco hc) hg hm (by kernel_rfl) ha (by decide) (by decide) hs hpl) Qef hs2) (by decide) (by decide) hs2 hpl2) fun σ H Q ⟨F,γ,r,k1,k2,k3,w⟩=>by
  obtain ⟨qs,e1,k3⟩:=Qi k3
  refine ⟨F,γ,qs,k1,k2,e1,fun vs H1 F1 g1 q1 => ?_⟩
  unfold QbI at k3
  split at k3
  ·rename_i xs
   obtain ⟨l,us,rfl,sl,rl⟩:=Qkj q1
   split at k3
   ·rename_i ns hns
    obtain ⟨c1,rfl⟩:=Qz k3
    have e2:=YW hns rl
    subst e2
    refine ⟨l,ns,rfl,g1.sub.seq sl,c1,fun p M hp hM => ?_⟩
    refine ⟨p,M,rfl,Qq,?_⟩
    have g2:Grow F1 H1 F1 (upd H1 p (Yw X p M)) := .side g1.sub hp
    rw [hM.length_eq]
    exact w _ _ F1 (g1.trans g2) (ZD _)
   ·cases k3
  ·cases k3
end
section
variable {prog:Program} {w:World} {A:Around} {E:Value→Shared→Prop} {s:Shared}
theorem Qlc {α:Type} {l:List α} {i:Nat} {d:α} (h:i < l.length):l.getD i d=l[i]:=by
 rw [List.getD_eq_getElem?_getD,List.getElem?_eq_getElem h]
 rfl
theorem QdE:∀ {vs:List Value} {ns:List Str},StrsAre vs ns→∀ i,i < vs.length→∃ tt,vs[i]?=some (.str (ns.getD i "") tt)
 | _,_,.nil,i,h=>by simp at h
 | _,_,.cons y t r,0,h=>⟨t,rfl⟩
 | _,_,.cons y t r,i + 1,h=>by
  obtain ⟨tt,e⟩:=QdE r i (by simpa using h)
  exact ⟨tt,by simpa using e⟩
theorem QlA {l:Addr} {vs:List Value} {ns:List Str} {k:Str} {t:Tok} {Q:Value→Shared→Prop} (hl:IsTup s.heap l vs.toArray) (hi:StrsAre vs ns) (hk:k∈ns)
  (h:Q (.int (ns.idxOf k:Nat) s.toks) { s with toks:=s.toks + 1 }):wpAny (model prog w) A (call (.builtin "tuple.index") [.ref l,.str k t]) Q E s:=by
 obtain ⟨o,ho,hc,n,hd⟩:=hl
 refine wpAny_call_entry PySem.F.slot_tuple_index ⟨_,ho,hc⟩ PySem.F.entry_tuple_index ?_ (PySem.F.args_tuple_index_2 _ _)
 unfold Builtin.«tuple.index»
 refine wpAny_bind (wpAny_pure ?_)
 dsimp only
 refine wpAny_bind (wpAny_tupleItemsOf ho hd (wpAny_bind (wpAny_pure (wpAny_bind (wpAny_pure (wpAny_bind ?_))))))
 have hlen:vs.length=ns.length:=hi.length
 have hj:ns.idxOf k < ns.length:=List.idxOf_lt_length_iff.mpr hk
 rw [Std.Legacy.Range.forIn_eq_forIn_range']
 refine wpAny_forIn_list _ (fun rest b s'=>b=⟨none,⟨⟩⟩∧s=s'∧∃ i,rest=List.range' i (vs.length - i)∧i≤ns.idxOf k) _ ?_ ?_ _ _ ⟨rfl,rfl,0,?_,Nat.zero_le _⟩
 ·rintro x rest b s' ⟨rfl,rfl,i,hr,hik⟩
  have hlt:i < vs.length:=by omega
  have e1:vs.length - i=(vs.length - (i + 1)) + 1:=by omega
  rw [e1,List.range'_succ] at hr
  obtain ⟨rfl,rfl⟩:=List.cons.inj hr
  obtain ⟨tt,ht⟩:=QdE hi x hlt
  have ht':vs.toArray[x]?=some (.str (ns.getD x "") tt):=by simpa using ht
  rw [ht']
  refine wpAny_bind (eqBool_str ?_)
  by_cases he:ns.getD x ""=k
  ·have hx:x=ns.idxOf k:=by
    by_cases hlt2:x < ns.idxOf k
    ·have:=List.not_of_lt_findIdx hlt2
     rw [Qlc (show x < ns.length by omega)] at he
     rw [he] at this
     simp at this
    ·omega
   rw [if_pos (by simpa using he)]
   subst hx
   unfold retInt
   refine wpAny_bind (wpAny_bind (wpAny_mkInt (wpAny_pure (wpAny_pure (wpAny_pure ⟨_,rfl,h⟩)))))
  ·rw [if_neg (by simpa using he)]
   refine wpAny_pure ⟨rfl,rfl,x + 1,rfl,?_⟩
   have:x≠ns.idxOf k:=fun q=>he (by rw [q,Qlc hj,List.getElem_idxOf])
   omega
 ·rintro b s' ⟨rfl,rfl,i,hr,hik⟩
  have:=congrArg List.length hr
  rw [List.length_nil,List.length_range'] at this
  omega
 ·simp [Std.Legacy.Range.size]
end
def QaU:PV→List PV→Option PV
 | .tup xs,[.str k]=>match Yc xs with
  | some ns=>if k∈ns then some (.int (ns.idxOf k:Nat)) else none
  | none=>none
 | _,_=>none
def Qht:PV→Bool
 | .tup (.int _ :: _)=>false
 | .tup _=>true
 | _=>false
def mMtT (g:PV→List PV→Option PV) (m:MEx) (ma:PEnv→Option (List PV)):MEx:=fun γ=>(m γ).bind fun p=>if Qht p=true then (ma γ).bind fun ps=>g p ps else none
def tBT (K:PySem.W.Frag) (r:V→List V→Hp→VK→Prop) (to:TE) (t:TA):TE:=fun σ H Q=>to σ H fun x H1=>(∃ a xs,x = .ref a∧SqT K H1 a xs∧∀ (i:Int) (y:V),xs≠[V.int i,y])∧t σ H1 fun xs H2=>r x xs H2 Q
section
variable {X:Cx} {o e a b c:Expr} {es:List Expr} {ms ns ls:List Nat} {m m1 m2 m3:MEx} {ma mb:PEnv→Option (List PV)} {to:TE} {t:TA} {name:Str} {apos cpos:Pos} {id:String} {r:V→List V→Hp→VK→Prop}
theorem pe_bmT (slot:PySem.Slot "tuple" name id) (hty:typeOf (.builtin id)=pure (.type "method_descriptor")) (hm:MtR X id r) (ho:PE X o to) (ha:PA X (e :: es) t)
  (hbase:attributeBase o name X.env (eval o X.env)=eval o X.env:=by rfl)
  (hfew:((backTo cpos (starEach (e :: es) X.env)).all (fun x => !x.1)&&(backToKw cpos (keywordEach [] X.env)).all (fun x=>x.1.isSome)
   && decide ((e :: es).length + ([]:List Keyword).length + (if ([]:List Keyword).isEmpty then 0 else 1) < 30))=true:=by rfl)
  (hline:(apos.endLine==cpos.line)=true:=by rfl) (hs:starEach (e :: es) X.env=(false,eval e X.env) :: starEach es X.env:=by rfl) (hplain:(backTo cpos (starEach es X.env)).any (·.1)=false:=by rfl) :
  PE X (.Call (.Attribute o name apos) (e :: es) [] cpos) (tBT X.K r to t):=by
 intro pins s σ H Q I h
 refine wpAny_Call_method_late hbase hfew hline rfl (thn (ho pins s σ H _ I h) fun v s1 ⟨x,H1,I1,r1,⟨a,xs,hx,hS,hN⟩,q1⟩ => ?_)
 subst hx
 have r1':=r1
 cases r1
 obtain ⟨its,rv,⟨ob,p1,p2,p3,p4⟩,_⟩:=I1.tupleD hS
 have p3:ob.dict=none:=by
  rcases p3 with z | ⟨i,y,z⟩
  ·exact z
  ·exact absurd z (hN i y)
 refine ⟨"tuple",id,PySem.F.plainAttrs_tuple,slot,hty,⟨ob,p1,p2⟩,fun a e=>by cases e;exact ⟨ob,p1,p3⟩,?_⟩
 have hA:=ha cpos pins s1 σ H1 _ I1 q1
 rw [hs] at hA ⊢
 refine Calls.callWith_builtin (by show (false||(backTo cpos (starEach es X.env)).any (·.1))=false;rw [hplain] <;> rfl) (Calls.evalArgs_plain ?_)
 exact thn hA fun us s2 ⟨vs,H2,I2,r2,q2⟩=>hm pins s2 σ H2 _ vs _ us Q I2 r1' r2 q2
theorem em_mtT {g:PV→List PV→Option PV} (h:EM X ms o m) (ha:AM X ns (e :: es) ma)
  (hp:PE X (.Call (.Attribute o name apos) (e :: es) [] cpos) (tBT X.K (rMt X.K g) (tM X.K ms m) (tMA X.K ns ma))):EM X (ms++ns) (.Call (.Attribute o name apos) (e :: es) [] cpos) (mMtT g m ma) :=
 PE.imp hp fun σ H Q ⟨F,γ,r,k1,k2,k3,w⟩=>by
  obtain ⟨p,e1,k3⟩:=Qi k3
  cases p with
  | tup xs =>
   have hT:Qht (.tup xs)=true:=by
    by_cases c:Qht (.tup xs)=true
    ·exact c
    ·rw [if_neg c] at k3;cases k3
   rw [if_pos hT] at k3
   obtain ⟨ps,e2,k3⟩:=Qi k3
   refine ⟨F,γ,.tup xs,k1,k2.left,e1,fun v H1 F1 g1 q1=>⟨?_,F1,γ,ps,g1.sub,k2.right.mono g1.ext,e2,fun vs H2 F2 g2 q2 => ?_⟩⟩
   ·unfold Rep at q1
    obtain ⟨a,vs,rfl,sq,rl⟩:=q1
    refine ⟨a,vs,rfl,g1.sub.seqT sq,fun i y z => ?_⟩
    subst z
    cases xs with
    | nil=>unfold RepL at rl;cases rl
    | cons p ps =>
     unfold RepL at rl
     obtain ⟨v1,t1,e5,rl,_⟩:=rl
     cases e5
     cases p <;> unfold Rep at rl <;> first | (cases hT;done) | (cases rl;done) | (obtain ⟨_,_,z,_⟩:=rl;cases z;done) | (obtain ⟨_,_,_,z,_⟩:=rl;cases z;done)
   ·exact ⟨F2,.tup xs,ps,r,g2.sub,q1.mono g2.ext,q2,k3,w.go (g1.trans g2)⟩
  | _=>rw [if_neg (fun z=>by cases z)] at k3;cases k3
theorem QlU:MtR X "tuple.index" (rMt X.K QaU):=by
 intro pins s σ H x xs v us Q I rx rs h
 obtain ⟨F,p,ps,r,h1,h2,h3,h4,w⟩:=h
 unfold QaU at h4
 split at h4
 ·rename_i zs k
  split at h4
  ·rename_i ys hys
   obtain ⟨c,rfl⟩:=Qz h4
   unfold Rep at h2
   obtain ⟨a,ws,rfl,k2,k3⟩:=h2
   cases rx
   unfold RepL at h3
   obtain ⟨v1,r1,rfl,h3,ht⟩:=h3
   unfold RepL at ht
   subst ht
   unfold Rep at h3
   subst h3
   obtain ⟨u,rfl,ru⟩:=XH rs
   obtain ⟨tk,rfl⟩:=ru
   have e3:=YW hys k3
   subst e3
   obtain ⟨its,rv,pl,_⟩:=I.tuple (h1.seqT k2)
   exact QlA pl (Xp rv) c ⟨.int _,H,I.tok _,⟨_,rfl⟩,w.here h1 (ZD _)⟩
  ·cases h4
 ·cases h4
theorem QdA (h:EM X ms o m) (ha:AM X ns (e :: es) ma) (hbase:attributeBase o "index" X.env (eval o X.env)=eval o X.env:=by rfl)
  (hfew:((backTo cpos (starEach (e :: es) X.env)).all (fun x => !x.1)&&(backToKw cpos (keywordEach [] X.env)).all (fun x=>x.1.isSome)
   && decide ((e :: es).length + ([]:List Keyword).length + (if ([]:List Keyword).isEmpty then 0 else 1) < 30))=true:=by rfl)
  (hline:(apos.endLine==cpos.line)=true:=by rfl) (hs:starEach (e :: es) X.env=(false,eval e X.env) :: starEach es X.env:=by rfl) (hplain:(backTo cpos (starEach es X.env)).any (·.1)=false:=by rfl) :
  EM X (ms++ns) (.Call (.Attribute o "index" apos) (e :: es) [] cpos) (mMtT QaU m ma) :=
 em_mtT h ha (pe_bmT PySem.F.slot_tuple_index PySem.F.type_tuple_index QlU h ha hbase hfew hline hs hplain)
def sExE (ms:List Nat) (m:MEx):MSt:=fun γ=>(m γ).map fun r => .nx (Zt (flat r) ms γ)
theorem sm_exE {pos:Pos} (h:EM X ms e m) (hs:swapsWith e none pos.line X.env=pure false:=by rfl):SM X (.Expr e pos) (sExE ms m):=PS.imp (Xl h hs) fun D σ H ⟨B,F₀,F,γ,o,S,e,ok⟩=>by
 obtain ⟨r,e1,e2⟩:=Yp e
 subst e2
 obtain ⟨F1,S1,x1,er⟩:=S.see ms
 refine ⟨F1,γ,r,S1.sub,er,e1,fun v H' F' g q => ?_⟩
 obtain ⟨F2,S2,q2⟩:=S.val S1 g q
 exact ok _ _ F2 S2
def pLtS:PV→PV→Option PV
 | .str a,.str b=>some (.bl (decide (a.cps.toList < b.cps.toList)))
 | _,_=>none
theorem om_ltS:OpM X (compareOp .Lt) pLtS:=by
 intro pins s σ H x y v u Q I rx ry h
 obtain ⟨F,p,q,r,h1,h2,h3,h4,w⟩:=h
 cases p <;> cases q <;> first
  | (exfalso;cases h4;done)
  | skip
 cases h4
 unfold Rep at h2 h3
 exact QlP pins s σ H x y v u Q I rx ry ⟨_,_,h2,h3,w.here h1 (YH _)⟩
end
end L2.PM
namespace L2.PM
open PySem PySem.Spec PyProof.Rows HT
section
variable {X:Cx} {e st:Expr} {te ts:TE} {p2 pos:Pos}
def RvR (X:Cx) (r:V→Hp→VK→Prop):Prop :=
 ∀ (pins:List (Addr×Obj)) (s:Shared) (σ:St) (H:Hp) (x:V) (v:Value) (sl:Addr) (u:Tok) (Q:VK),Inv X pins σ H s→RelV x v→s.heap.IsSliceOf sl .none .none (.int (-1) u)→r x H Q →
  ∃ T id,typeLookup (.type T) "__getitem__"=pure (some (.builtin id))∧s.TypeIs v T∧wpAny (model X.prog X.w) X.A (getItem v (.ref sl)) (EP X pins σ Q) X.xe s
def tRv (r:V→Hp→VK→Prop) (te ts:TE):TE:=fun σ H Q=>te σ H fun x H1=>ts σ H1 fun y H2=>y = .int (-1)∧r x H2 Q
theorem pe_rev {r:V→Hp→VK→Prop} (hr:RvR X r) (he:PE X e te) (hst:PE X st ts):PE X (.Subscript e (.Slice none none (some st) p2) pos) (tRv r te ts):=by
 intro pins s σ H Q I h
 refine Subscript_ (thn (he pins s σ H _ I h) fun v s1 ⟨x,H1,I1,r1,q1⟩ => ?_)
 refine wpAny_Slice ?_
 rw [evalPart_none]
 refine wpAny_pure (wpAny_pure ?_)
 refine (show wpAny _ _ (eval st X.env) _ _ _ from thn (hst pins s1 σ H1 _ I1 q1) fun vs s3 ⟨y,H3,I3,r3,hy,q3⟩ => ?_)
 subst hy
 obtain ⟨u,rfl⟩:=r3
 have I4:Inv X pins σ H3 { s3 with heap:=s3.heap.push { cls := .type "slice",data := .fields #[.none,.none,.int (-1) u] } }:=I3.kept (t':=s3.toks) fun b ob q=>Heap.get?_push_of_some _ q
 obtain ⟨T,id,hT,ht,hg⟩:=hr pins { s3 with heap:=s3.heap.push { cls := .type "slice",data := .fields #[.none,.none,.int (-1) u] } } σ H3 x v s3.heap.objs.size u Q I4 r1 (Heap.IsSliceOf.new ..) q3
 show wpAny (model X.prog X.w) X.A (subscriptTail e (.Slice none none (some st) p2) v (.ref s3.heap.objs.size)) (EP X pins σ Q) X.xe { s3 with heap:=s3.heap.push { cls := .type "slice",data := .fields #[.none,.none,.int (-1) u] } }
 exact tail_any (ops:=[v,.ref s3.heap.objs.size]) ht hT hg (by with_unfolding_all rfl)
end
end L2.PM
namespace L2.PM
open PySem PySem.Spec PyProof.Rows
def sExM (ms:List Nat) (i:Nat) (m:MEx):MSt:=fun γ=>(m γ).bind fun r=>match r with
 | .tup _=>sExt ms i m γ
 | _=>sExl ms i m γ
section
variable {X:Cx} {e:Expr} {ms:List Nat} {m:MEx} {pos p2:Pos}
def rExtM (K:PySem.W.Frag):V→List V→Hp→VK→Prop:=fun x xs H Q=>rExtT K x xs H Q∨rExtL K x xs H Q
theorem mt_exM:MtM X "list.extend" (rExtM X.K):=fun pins s σ H x xs v us Q I rx rs h=>h.elim (mt_extT pins s σ H x xs v us Q I rx rs) (mt_exl pins s σ H x xs v us Q I rx rs)
theorem sm_exM {i:Nat} {x:Str} {apos cpos:Pos} (hx:PE X (.Name x p2) (tVar i)) (h:EM X ms e m) (ps:PS X (.Expr (.Call (.Attribute (.Name x p2) "extend" apos) [e] [] cpos) pos) (Qmv (tBM X.K "list" (rExtM X.K) (tVar i) (tMA X.K ms (Qc m aNil))))) :
  SM X (.Expr (.Call (.Attribute (.Name x p2) "extend" apos) [e] [] cpos) pos) (sExM ms i m):=PS.imp ps fun D σ H ⟨B,F₀,F,γ,o,S,e,ok⟩=>by
 unfold sExM at e
 obtain ⟨r0,e0,e⟩:=Qi e
 split at e
 ·rename_i zs
  unfold sExt at e
  obtain ⟨r,e1,e⟩:=Qi e
  unfold extK at e
  split at e
  ·rename_i ys xs hi
   obtain ⟨⟨hl,c⟩,rfl⟩:=Qz e
   obtain ⟨a,vs,h1,h2,_⟩:=S.ow i xs hi
   obtain ⟨F1,S1,x1,er⟩:=S.see ms
   refine ⟨.ref a,h1,QcQ (.of h2),F1,γ,[.tup ys],S1.sub,er,by simp [Qc,aNil,e1],fun us H' F' g q => ?_⟩
   unfold RepL at q
   obtain ⟨v,t,rfl,q,qt⟩:=q
   unfold RepL at qt
   subst qt
   obtain ⟨F2,S2,q2⟩:=S.val S1 g q
   have hi2:=Qao (k:=flat (.tup ys)) hi (by rw [c];exact Bool.or_true _)
   obtain ⟨a2,vs2,k1,k2,k3,_⟩:=S2.ow i xs hi2
   rw [h1] at k1
   cases k1
   unfold Rep at q2
   obtain ⟨b,ws,rfl,sb,rb⟩:=q2
   refine .inl ⟨a,b,vs2,ws,rfl,rfl,k2,S2.sub.seqT sb,?_,?_⟩
   ·rw [k3.length,rb.length];exact Nat.le_of_lt (Nat.lt_of_lt_of_le hl Zx)
   ·exact ok _ _ F2 (S2.write hi2 h1 (k3.append rb))
  ·cases e
 ·unfold sExl at e
  obtain ⟨r,e1,e⟩:=Qi e
  unfold exlK at e
  split at e
  ·rename_i ys xs hi
   obtain ⟨⟨hl,c⟩,rfl⟩:=Qz e
   obtain ⟨a,vs,h1,h2,_⟩:=S.ow i xs hi
   obtain ⟨F1,S1,x1,er⟩:=S.see ms
   refine ⟨.ref a,h1,QcQ (.of h2),F1,γ,[.lst ys],S1.sub,er,by simp [Qc,aNil,e1],fun us H' F' g q => ?_⟩
   unfold RepL at q
   obtain ⟨v,t,rfl,q,qt⟩:=q
   unfold RepL at qt
   subst qt
   obtain ⟨F2,S2,q2⟩:=S.val S1 g q
   have hi2:=Qao (k:=flat (.lst ys)) hi (by rw [c];exact Bool.or_true _)
   obtain ⟨a2,vs2,k1,k2,k3,_⟩:=S2.ow i xs hi2
   rw [h1] at k1
   cases k1
   unfold Rep at q2
   obtain ⟨b,ws,rfl,sb,rb⟩:=q2
   refine .inr ⟨a,b,vs2,ws,rfl,rfl,k2,S2.sub.seq sb,?_,?_⟩
   ·rw [k3.length,rb.length];exact Nat.le_of_lt (Nat.lt_of_lt_of_le hl Zx)
   ·exact ok _ _ F2 (S2.write hi2 h1 (k3.append rb))
  ·cases e
end
def Qhm:List PV→Option (List PV)
 | [.str x]=>if x.length < LIM then some ((signs x).map .str) else none
 | _=>none
theorem QdC:∀ (xs:List V) (us:List Value),xs.length=us.length→(∀ (j:Nat) v,us[j]?=some v→∃ y,xs[j]?=some y∧RelV y v)→Vals xs us
 | [],[],_,_ => .nil
 | x :: xs,u :: us,hl,h=>by
  obtain ⟨y,e,r⟩:=h 0 u rfl
  cases e
  exact .cons r (QdC xs us (by simpa using hl) fun j v e=>h (j + 1) v (by simpa using e))
 | [],_ :: _,hl,_=>by simp at hl
 | _ :: _,[],hl,_=>by simp at hl
section
variable {X:Cx}
theorem co_listS (hc:X.calm=true):QgC X (.type "list") Qhm:=by
 intro pins s σ H vs us Q I rs h
 obtain ⟨F,ps,r,h1,h2,h3,w⟩:=h
 unfold Qhm at h3
 split at h3
 ·rename_i x
  obtain ⟨c,rfl⟩:=Qz h3
  unfold RepL at h2
  obtain ⟨v,t,rfl,h2,ht⟩:=h2
  unfold RepL at ht
  subst ht
  unfold Rep at h2
  subst h2
  obtain ⟨u,rfl,ru⟩:=XH rs
  obtain ⟨tk,rfl⟩:=ru
  have hz:x.cps.size≤sizeLine:=Nat.le_of_lt (Nat.lt_of_lt_of_le c Zx)
  refine call_list_str (I.ok.hd hc) x tk (hn:=hz) fun h' tk' acc' c' hk hS' hacc => ?_
  have hv:Vals ((signs x).map V.str) acc'.toList:=by
   refine QdC _ _ (by have:=hacc.1;simp [signs];omega) fun j v hv => ?_
   obtain ⟨c1,u1,hc1,rfl⟩:=hacc.2 j v (by simpa using hv)
   exact ⟨.str ⟨#[c1]⟩,by simp [signs,hc1],⟨_,rfl⟩⟩
  have hl:((signs x).map V.str).length≤sizeLine:=by simpa [signs] using hz
  refine ⟨.ref s.heap.objs.size,upd H s.heap.objs.size (.lst ((signs x).map V.str)),I.laid (t':=tk') (fun b o q=>hk b o q) (Nat.le_refl _) ⟨hl,acc'.toList,c',hv,by simpa using hS'⟩,rfl,?_⟩
  exact w _ _ _ F (.side h1 I.fresh) I.fresh (h1.free I.fresh) Qq (YM _)
 ·cases h3
end
end L2.PM
namespace L2.PM
open PySem PySem.Spec PyProof.Rows PySem.W
section
variable {cmp:Nat→Nat→(Bool→Shared→Prop)→Shared→Prop} {lt:Nat→Nat→Bool} {n:Nat} {s:Shared}
def QbW (cmp:Nat→Nat→(Bool→Shared→Prop)→Shared→Prop) (lt:Nat→Nat→Bool) (n:Nat) (s:Shared):Prop:=∀ i j C,i < n→j < n→C (lt i j) s→cmp i j C s
def Qat (lt:Nat→Nat→Bool) (p:Array Nat) (k:Nat):Prop:=∀ a b,a≤b→b < k→lt (p.getD b 0) (p.getD a 0)=false
def Within (p:Array Nat) (n:Nat):Prop:=∀ a,a < p.size→p.getD a 0 < n
theorem Qfb (tot:∀ i j k,lt i j=false→lt j k=false→lt i k=false) (an:QbW cmp lt n s) {p:Array Nat} {k:Nat} (hk:k < p.size) (hp:Within p n) (hs:Qat lt p k) {Q:Nat→Shared→Prop} :
  ∀ (f l r:Nat),r - l≤f→l≤r→r≤k→(∀ a,a < l→lt (p.getD k 0) (p.getD a 0)=false)→(∀ b,r≤b→b < k→lt (p.getD k 0) (p.getD b 0)=true) →
   (∀ l',l'≤k→(∀ a,a < l'→lt (p.getD k 0) (p.getD a 0)=false)→(∀ b,l'≤b→b < k→lt (p.getD k 0) (p.getD b 0)=true)→Q l' s)→(kas_place p k f l r).kasWp cmp Q s
 | 0,l,r,hf,hl,hr,h1,h2,fin=>by
  obtain rfl:l=r:=by omega
  exact fin l hr h1 h2
 | f + 1,l,r,hf,hl,hr,h1,h2,fin=>by
  unfold kas_place
  by_cases hlr:l ≥ r
  ·rw [if_pos hlr]
   obtain rfl:l=r:=by omega
   exact fin l hr h1 h2
  ·rw [if_neg hlr]
   have hm1:l≤(l + r) / 2:=by omega
   have hm2:(l + r) / 2 < r:=by omega
   refine an _ _ _ (hp k hk) (hp _ (by omega)) ?_
   cases c:lt (p.getD k 0) (p.getD ((l + r) / 2) 0) with
   | true =>
    refine (show KasT.kasWp cmp (kas_place p k f l ((l + r) / 2)) Q s from ?_)
    refine Qfb tot an hk hp hs f l ((l + r) / 2) (by omega) hm1 (by omega) h1 (fun b hb hbk => ?_) fin
    cases d:lt (p.getD k 0) (p.getD b 0) with
    | true=>rfl
    | false=>rw [tot _ _ _ d (hs _ b hb hbk)] at c;cases c
   | false =>
    refine (show KasT.kasWp cmp (kas_place p k f ((l + r) / 2 + 1) r) Q s from ?_)
    refine Qfb tot an hk hp hs f ((l + r) / 2 + 1) r (by omega) (by omega) hr (fun a ha => ?_) h2 fin
    exact tot _ _ _ c (hs a _ (by omega) (by omega))
theorem Qbv {p:Array Nat} {k l:Nat} (hk:k < p.size) (hl:l≤k) (j:Nat):(bubble p k (k - l)).getD j 0=if j=l then p.getD k 0 else if l < j∧j≤k then p.getD (j - 1) 0 else p.getD j 0:=by
 have e:k - (k - l)=l:=by omega
 have g:∀ (q:Array Nat) i,q.getD i 0=(q[i]?).getD 0:=fun q i=>by
  by_cases h:i < q.size
  ·simp [Array.getD,h]
  ·simp [Array.getD,h]
 rw [g,getElem?_bubble hk (k - l) (by omega) j,e,g,g,g]
 by_cases h1:j=l
 ·rw [if_pos h1,if_pos h1]
 ·rw [if_neg h1,if_neg h1]
  by_cases h2:l < j∧j≤k
  ·rw [if_pos h2,if_pos h2]
  ·rw [if_neg h2,if_neg h2]
theorem QlJ (irr:∀ i,lt i i=false) (asym:∀ i j,lt i j=true→lt j i=false) {p:Array Nat} {k l:Nat} (hk:k < p.size) (hl:l≤k) (hs:Qat lt p k)
  (h1:∀ a,a < l→lt (p.getD k 0) (p.getD a 0)=false) (h2:∀ b,l≤b→b < k→lt (p.getD k 0) (p.getD b 0)=true):Qat lt (bubble p k (k - l)) (k + 1):=by
 intro a b hab hb
 rw [Qbv hk hl,Qbv hk hl]
 by_cases e1:b=l
 ·rw [if_pos e1]
  by_cases e2:a=l
  ·rw [if_pos e2];exact irr _
  ·rw [if_neg e2,if_neg (by omega)]
   exact h1 a (by omega)
 ·rw [if_neg e1]
  by_cases e2:a=l
  ·rw [if_pos e2,if_pos (by omega)]
   exact asym _ _ (h2 (b - 1) (by omega) (by omega))
  ·rw [if_neg e2]
   by_cases e3:l < b∧b≤k
   ·rw [if_pos e3]
    by_cases e4:l < a∧a≤k
    ·rw [if_pos e4];exact hs (a - 1) (b - 1) (by omega) (by omega)
    ·rw [if_neg e4];exact hs a (b - 1) (by omega) (by omega)
   ·rw [if_neg e3,if_neg (by omega)]
    exact hs a b hab (by omega)
theorem bin_wp (irr:∀ i,lt i i=false) (asym:∀ i j,lt i j=true→lt j i=false) (tot:∀ i j k,lt i j=false→lt j k=false→lt i k=false) (an:QbW cmp lt n s) {Q:Array Nat→Shared→Prop} :
  ∀ (f:Nat) (p:Array Nat) (k:Nat),k + f=p.size→Within p n→Qat lt p k→(∀ p',p'.Perm p→Qat lt p' p.size→Q p' s)→(kas_bin f p k).kasWp cmp Q s
 | 0,p,k,hf,hp,hs,fin=>fin p (.refl p) (by rw [← hf];exact hs)
 | f + 1,p,k,hf,hp,hs,fin=>by
  have hk:k < p.size:=by omega
  unfold kas_bin
  rw [KasT.kasWp_bind]
  refine Qfb tot an hk hp hs k 0 k (by omega) (Nat.zero_le _) (Nat.le_refl _) (fun a ha=>absurd ha (Nat.not_lt_zero _)) (fun b hb hbk=>by omega) fun l hl h1 h2 => ?_
  have sz:(bubble p k (k - l)).size=p.size:=bubble_size _ _ _
  refine bin_wp irr asym tot an f _ (k + 1) (by rw [sz];omega) (fun a ha => ?_) (QlJ irr asym hk hl hs h1 h2) fun p' pp hr=>fin p' (pp.trans (bubble_perm _ _ _)) (by rw [sz] at hr;exact hr)
  rw [sz] at ha
  rw [Qbv hk hl]
  by_cases c1:a=l
  ·rw [if_pos c1];exact hp k hk
  ·rw [if_neg c1]
   by_cases c2:l < a∧a≤k
   ·rw [if_pos c2];exact hp _ (by omega)
   ·rw [if_neg c2];exact hp a ha
theorem Qko (irr:∀ i,lt i i=false) (tot:∀ i j k,lt i j=false→lt j k=false→lt i k=false) (an:QbW cmp lt n s) {p:Array Nat} (hp:Within p n) {Q:Nat→Shared→Prop} :
  ∀ (f k:Nat),1≤k→k + f≤p.size→Qat lt p k→(∀ m,k≤m→m≤k + f→Qat lt p m→(m < k + f→lt (p.getD m 0) (p.getD (m - 1) 0)=true)→Q m s)→(kas_asc p f k).kasWp cmp Q s
 | 0,k,h1,hk,hs,fin=>fin k (Nat.le_refl _) (Nat.le_refl _) hs fun h=>absurd h (Nat.lt_irrefl _)
 | f + 1,k,h1,hk,hs,fin=>by
  unfold kas_asc
  refine an _ _ _ (hp k (by omega)) (hp _ (by omega)) ?_
  cases c:lt (p.getD k 0) (p.getD (k - 1) 0) with
  | true=>exact fin k (Nat.le_refl _) (by omega) hs fun _=>c
  | false =>
   refine (show KasT.kasWp cmp (kas_asc p f (k + 1)) Q s from ?_)
   refine Qko irr tot an hp f (k + 1) (by omega) (by omega) (fun a b hab hb => ?_) fun m h2 h3 h4 h5=>fin m (by omega) (by omega) h4 fun h=>h5 (by omega)
   by_cases e:b=k
   ·subst e
    by_cases e2:a=b
    ·rw [e2];exact irr _
    ·exact tot _ _ _ c (hs a (b - 1) (by omega) (by omega))
   ·exact hs a b hab (by omega)
def Falls (lt:Nat→Nat→Bool) (p:Array Nat) (k:Nat):Prop:=∀ a b,a < b→b < k→lt (p.getD b 0) (p.getD a 0)=true
theorem Qll (trans:∀ i j k,lt i j=true→lt j k=true→lt i k=true) (an:QbW cmp lt n s) {p:Array Nat} (hp:Within p n) (dist:∀ a b,a < b→b < p.size→lt (p.getD b 0) (p.getD a 0)=false→lt (p.getD a 0) (p.getD b 0)=true) {Q:Array Nat×Nat×Nat→Shared→Prop} :
  ∀ (f k:Nat),1≤k→k + f≤p.size→Falls lt p k→(∀ m,k≤m→m≤k + f→Falls lt p m→Q (p,m,0) s)→(kas_desc f p k 0).kasWp cmp Q s
 | 0,k,h1,hk,hs,fin=>fin k (Nat.le_refl _) (Nat.le_refl _) hs
 | f + 1,k,h1,hk,hs,fin=>by
  unfold kas_desc
  refine an _ _ _ (hp k (by omega)) (hp _ (by omega)) ?_
  cases c:lt (p.getD k 0) (p.getD (k - 1) 0) with
  | true =>
   refine (show KasT.kasWp cmp (kas_desc f p (k + 1) 0) Q s from ?_)
   refine Qll trans an hp dist f (k + 1) (by omega) (by omega) (fun a b hab hb => ?_) fun m h2 h3 h4=>fin m (by omega) (by omega) h4
   by_cases e:b=k
   ·subst e
    by_cases e2:a=b - 1
    ·rw [e2];exact c
    ·exact trans _ _ _ c (hs a (b - 1) (by omega) (by omega))
   ·exact hs a b hab (by omega)
  | false =>
   refine (show cmp (p.getD (k - 1) 0) (p.getD k 0) (fun d s'=>KasT.kasWp cmp (if d=true then .ret (p,k,0) else kas_desc f p (k + 1) (0 + 1)) Q s') s from ?_)
   refine an _ _ _ (hp _ (by omega)) (hp k (by omega)) ?_
   rw [dist (k - 1) k (by omega) (by omega) c]
   exact fin k (Nat.le_refl _) (by omega) hs
theorem QeZ {p:Array Nat} {k:Nat} (hk:k≤p.size) (j:Nat):(kas_rev p 0 k).getD j 0=if j < k then p.getD (k - 1 - j) 0 else p.getD j 0:=by
 have g:∀ (q:Array Nat) i,q.getD i 0=(q[i]?).getD 0:=fun q i=>by
  by_cases h:i < q.size
  ·simp [Array.getD,h]
  ·simp [Array.getD,h]
 unfold kas_rev
 rw [g,getElem?_mirror_all hk j,g,g]
 by_cases h:j < k
 ·rw [if_pos ⟨Nat.zero_le _,h⟩,if_pos h,Nat.zero_add]
 ·rw [if_neg (fun z=>h z.2),if_neg h]
theorem QlI (irr:∀ i,lt i i=false) (asym:∀ i j,lt i j=true→lt j i=false) {p:Array Nat} {k:Nat} (hk:k≤p.size) (h:Falls lt p k):Qat lt (kas_rev p 0 k) k:=by
 intro a b hab hb
 rw [QeZ hk,QeZ hk,if_pos hb,if_pos (by omega)]
 by_cases e:a=b
 ·rw [e];exact irr _
 ·exact asym _ _ (h (k - 1 - b) (k - 1 - a) (by omega) (by omega))
theorem sort_wp (irr:∀ i,lt i i=false) (asym:∀ i j,lt i j=true→lt j i=false) (tot:∀ i j k,lt i j=false→lt j k=false→lt i k=false) (trans:∀ i j k,lt i j=true→lt j k=true→lt i k=true)
  (dist:∀ i j,i < n→j < n→i≠j→lt i j=false→lt j i=true) (an:QbW cmp lt n s) (h2:2≤n) {Q:Array Nat→Shared→Prop}
  (fin:∀ p,p.Perm (List.range n).toArray→Qat lt p n→Q p s):(kas_sort n).kasWp cmp Q s:=by
 unfold kas_sort
 have hsz:(List.range n).toArray.size=n:=by simp
 have hg:∀ a,a < n→(List.range n).toArray.getD a 0=a:=fun a ha=>by simp [Array.getD,ha]
 have hp:Within (List.range n).toArray n:=fun a ha=>by rw [hsz] at ha;rw [hg a ha];exact ha
 generalize (List.range n).toArray=p at *
 have last:∀ (m:Nat) (p':Array Nat),p'.Perm p→1≤m→m≤n→Within p' n→Qat lt p' m→KasT.kasWp cmp (if m < n then kas_bin (n - max m 1) p' (max m 1) else .ret p') Q s:=fun m p' pp h1 hm hw hr=>by
  have sz:p'.size=n:=by rw [pp.size_eq];exact hsz
  by_cases hmn:m < n
  ·rw [if_pos hmn,Nat.max_eq_left h1]
   exact bin_wp irr asym tot an (n - m) p' m (by omega) hw hr fun p'' q1 q2=>fin p'' (q1.trans pp) (by rw [← sz];exact q2)
  ·rw [if_neg hmn]
   obtain rfl:m=n:=by omega
   exact fin p' pp hr
 have distP:∀ a b,a < b→b < p.size→lt (p.getD b 0) (p.getD a 0)=false→lt (p.getD a 0) (p.getD b 0)=true:=fun a b hab hb e=>by
  rw [hsz] at hb
  rw [hg a (by omega),hg b hb] at e ⊢
  exact dist b a hb (by omega) (by omega) e
 rw [KasT.kasWp_bind]
 unfold kas_count
 rw [KasT.kasWp_bind]
 refine Qko irr tot an hp (n - 1) 1 (Nat.le_refl _) (by omega) (fun a b hab hb=>by rw [show a=b by omega];exact irr _) fun m m1 m2 m3 m4 => ?_
 by_cases e1:(m==n)=true
 ·rw [if_pos e1]
  exact last m p (.refl p) m1 (by omega) hp m3
 ·rw [if_neg e1]
  have mn:m≠n:=by simpa using e1
  by_cases e2:m > 1
  ·rw [if_pos e2]
   refine an _ _ _ (hp 0 (by omega)) (hp _ (by omega)) ?_
   rw [distP 0 (m - 1) (by omega) (by omega) (m3 0 (m - 1) (by omega) (by omega))]
   exact last m p (.refl p) m1 (by omega) hp m3
  ·rw [if_neg e2]
   obtain rfl:m=1:=by omega
   have c:=m4 (by omega)
   unfold kas_descPart
   rw [KasT.kasWp_bind]
   refine Qll trans an hp distP (n - (1 + 1)) (1 + 1) (by omega) (by omega) (fun a b hab hb => ?_) fun k k1 k2 k3 => ?_
   ·obtain rfl:a=0:=by omega
    obtain rfl:b=1:=by omega
    exact c
   ·refine (show KasT.kasWp cmp (kas_tail3 k n p) _ s from ?_)
    unfold kas_tail3
    rw [KasT.kasWp_bind]
    have rs:(kas_rev p 0 k).size=n:=by unfold kas_rev;rw [mirror_size];exact hsz
    have rw_:Within (kas_rev p 0 k) n:=fun a ha=>by
     rw [rs] at ha
     rw [QeZ (by omega)]
     by_cases h:a < k
     ·rw [if_pos h];exact hp _ (by omega)
     ·rw [if_neg h];exact hp a (by omega)
    refine Qko irr tot an rw_ (n - k) k (by omega) (by omega) (QlI irr asym (by omega) k3) fun m' q1 q2 q3 q4 => ?_
    exact last m' _ (mirror_perm _ _ _ _) (by omega) (by omega) rw_ q3
end
abbrev Tri:=Str×Str×Str
def tri0:Tri:=("","","")
def sLt (a b:Str):Bool:=decide (a.cps.toList < b.cps.toList)
def Qfr (h:Heap) (v:Value) (t:Tri):Prop:=∃ a o n k1 k2 k3,v = .ref a∧h.get? a=some o∧o.cls = .type "tuple"∧o.data = .seq #[.str t.1 k1,.str t.2.1 k2,.str t.2.2 k3] n
def Tris (h:Heap) (vs:List Value) (ts:List Tri):Prop:=vs.length=ts.length∧∀ i,i < ts.length→Qfr h (vs.getD i .none) (ts.getD i tri0)
def ltT (ts:List Tri) (i j:Nat):Bool:=sLt (ts.getD i tri0).2.1 (ts.getD j tri0).2.1
theorem Tris.tl {h:Heap} {v:Value} {vs:List Value} {t:Tri} {ts:List Tri} (x:Tris h (v :: vs) (t :: ts)):Qfr h v t∧Tris h vs ts :=
 ⟨x.2 0 (by simp),by have:=x.1;simpa using this,fun i hi=>x.2 (i + 1) (by simpa using hi)⟩
section
variable {prog:Program} {w:World} {A:Around} {E:Value→Shared→Prop} {s:Shared}
theorem tri_lt {v u:Value} {x y:Tri} {C:Bool→Shared→Prop} (hv:Qfr s.heap v x) (hu:Qfr s.heap u y) (e1:x.1=y.1) (e2:x.2.1=y.2.1→x=y) (h:C (sLt x.2.1 y.2.1) s) :
  wpAny (model prog w) A (keyLt' (tuples' true) v u) C E s:=by
 obtain ⟨a,o,n,k1,k2,k3,rfl,ha,_,hd⟩:=hv
 obtain ⟨b,p,m,j1,j2,j3,rfl,hb,_,he⟩:=hu
 refine kat_lt ha hd hb he ?_
 show KatLex prog w A true _ C [(.str x.1 k1,.str y.1 j1),(.str x.2.1 k2,.str y.2.1 j2),(.str x.2.2 k3,.str y.2.2 j3)] 0 s
 refine kat_cons (wpAny_eqBool_str ?_)
 rw [decide_eq_true e1]
 refine kat_yes (kat_cons (wpAny_eqBool_str ?_))
 by_cases c:x.2.1=y.2.1
 ·rw [decide_eq_true c]
  have e3:=e2 c
  refine kat_yes (kat_cons (wpAny_eqBool_str ?_))
  rw [decide_eq_true (show x.2.2=y.2.2 by rw [e3])]
  refine kat_yes (kat_nil ?_)
  have e4:sLt x.2.1 y.2.1=false:=by rw [c];unfold sLt;exact decide_eq_false (List.lt_irrefl _)
  rw [e4] at h
  exact h
 ·rw [decide_eq_false c]
  exact kat_no (kat_one _ _ (PyProof.Rows.lt_str h))
theorem QdD {h:Heap}:∀ {vs:List Value} {ts:List Tri},Tris h vs ts→∃ fs,KatTups h vs fs∧fs.length=vs.length∧∀ v∈fs,∃ x t,v = .str x t
 | [],[],_=>⟨[],.nil,rfl,fun _ h=>nomatch h⟩
 | [],_ :: _,x=>by have:=x.1;simp at this
 | _ :: _,[],x=>by have:=x.1;simp at this
 | v :: vs,t :: ts,x=>by
  obtain ⟨⟨a,o,n,k1,k2,k3,rfl,ha,hc,hd⟩,y⟩:=x.tl
  obtain ⟨fs,h1,h2,h3⟩:=QdD y
  refine ⟨.str t.1 k1 :: fs,KatTups.cons ha hc hd rfl h1,by simp [h2],fun v hv => ?_⟩
  rcases List.mem_cons.mp hv with rfl | hv
  ·exact ⟨_,_,rfl⟩
  ·exact h3 v hv
theorem QhB {vs:List Value} {ts:List Tri} {k:Str} (hT:Tris s.heap vs ts) (hk:∀ t∈ts,t.1=k) (hn:(ts.map (·.2.1)).Nodup):QbW (kas_ask prog w A (tuples' true) vs) (ltT ts) vs.length s:=by
 intro i j C hi hj h
 rw [hT.1] at hi hj
 have gi:ts.getD i tri0=ts[i]:=by simp [List.getD,hi]
 have gj:ts.getD j tri0=ts[j]:=by simp [List.getD,hj]
 refine tri_lt (hT.2 i hi) (hT.2 j hj) ?_ (fun e => ?_) h
 ·rw [gi,gj,hk _ (List.getElem_mem hi),hk _ (List.getElem_mem hj)]
 ·rw [gi,gj] at e ⊢
  have:i=j:=by
   have q:=(List.nodup_iff_pairwise_ne.mp hn)
   by_cases c:i=j
   ·exact c
   ·exfalso
    rw [List.pairwise_iff_getElem] at q
    rcases Nat.lt_or_gt_of_ne c with c | c
    ·exact q i j (by simpa using hi) (by simpa using hj) c (by simpa using e)
    ·exact q j i (by simpa using hj) (by simpa using hi) c (by simpa using e.symm)
  subst this
  rfl
theorem ltT_laws (ts:List Tri):(∀ i,ltT ts i i=false)∧(∀ i j,ltT ts i j=true→ltT ts j i=false)∧(∀ i j k,ltT ts i j=false→ltT ts j k=false→ltT ts i k=false)∧(∀ i j k,ltT ts i j=true→ltT ts j k=true→ltT ts i k=true):=by
 unfold ltT sLt
 refine ⟨fun i=>decide_eq_false (List.lt_irrefl _),fun i j h => ?_,fun i j k h1 h2 => ?_,fun i j k h1 h2 => ?_⟩
 ·rw [decide_eq_true_eq] at h
  exact decide_eq_false fun h'=>List.lt_irrefl _ (List.lt_trans h h')
 ·rw [decide_eq_false_iff_not] at *
  exact List.le_trans (α:=Nat) h2 h1
 ·rw [decide_eq_true_eq] at *
  exact List.lt_trans h1 h2
theorem QgL {a:Addr} {vs:List Value} {ts:List Tri} {k:Str} {n:Nat} {P:PySem.Fin→Shared→Prop} (ho:s.heap.get? a=some (seqObj "list" vs.toArray n))
  (hT:∀ h':Heap,(∀ b o,b≠a→s.heap.get? b=some o→h'.get? b=some o)→Tris h' vs ts) (hk:∀ t∈ts,t.1=k) (hn:(ts.map (·.2.1)).Nodup) (h64:vs.length < 64)
  (h:∀ p:Array Nat,p.Perm (List.range vs.length).toArray→Qat (ltT ts) p vs.length→P (.done (.ret .none)) { s with heap:=sortedHeap s.heap a vs (p.toList.map fun i=>vs.getD i Value.none).toArray }) :
  wpAny (model prog w) A (Builtin.«list.sort» ⟨[.ref a],[]⟩) P E s:=by
 rw [list_sort_plain]
 have ha:a < s.heap.objs.size:=Heap.lt_size ho
 refine wpAny_bind (listItems_at ho rfl ?_)
 refine wpAny_bind (listUpdate_at ho rfl ?_)
 obtain ⟨e1,ho1⟩:∃ e1,(s.heap.update a (Obj.mapSeq fun _ => #[])).get? a=some (seqObj "list" #[] e1):=⟨_,get?_update_seq ho (fun _ => #[])⟩
 refine wpAny_bind (seqEpoch_at ho1 rfl ?_)
 refine wpAny_bind (wpAny_newTuple ?_)
 refine wpAny_bind (wpAny_newList ?_)
 refine wpAny_holding ?_
 have ho6:(((s.heap.update a (Obj.mapSeq fun _ => #[])).push (seqObj "tuple" vs.toArray 0)).push (seqObj "list" #[] 0)).get? a=some (seqObj "list" #[] e1):=Heap.get?_push_of_some _ (Heap.get?_push_of_some _ ho1)
 have T6:=hT (((s.heap.update a (Obj.mapSeq fun _ => #[])).push (seqObj "tuple" vs.toArray 0)).push (seqObj "list" #[] 0)) fun b o hb q=>Heap.get?_push_of_some _ (Heap.get?_push_of_some _ (by rw [Heap.get?_update_ne _ _ _ _ hb];exact q))
 show wpAny (model prog w) A _ P E { s with heap:=((s.heap.update a (Obj.mapSeq fun _ => #[])).push (seqObj "tuple" vs.toArray 0)).push (seqObj "list" #[] 0) }
 dsimp only
 have hsz:vs.toArray.size=vs.length:=by simp
 have fin:∀ (st':SortSt) (p:Array Nat),p.Perm (List.range vs.length).toArray→Qat (ltT ts) p vs.length→arrOf st'=p.map (kas_item (vs.toArray.zip vs.toArray)) →
   P (.done (.ret .none)) { s with heap:=sortedHeap s.heap a vs ((arrOf st').map (·.2)) }:=fun st' p h1 h2 h3=>by
  rw [kat_snds rfl h3]
  exact h p h1 h2
 obtain ⟨l1,l2,l3,l4⟩:=ltT_laws ts
 by_cases h2:vs.toArray.size < 2
 ·rw [if_pos h2,if_pos h2]
  refine wpAny_bind (wpAny_pure ?_)
  rw [StateT.run_pure]
  refine wpAny_bind (wpAny_pure ?_)
  dsimp only
  refine wpAny_bind (seqEpoch_at ho6 rfl ?_)
  refine wpAny_bind (listUpdate_at ho6 rfl ?_ (hsz2:=by rw [Array.size_map];show (pairsOf vs).size≤_;rw [pairsOf_size,sizeLine_eq];omega))
  simp only [bne_self_eq_false,Bool.false_eq_true,if_false]
  refine wpAny_pure (fin (SortSt.mk' general' (vs.toArray.zip vs.toArray) #[] 7 none) (List.range vs.length).toArray (Array.Perm.refl _) (fun i j hij hj => ?_) ?_)
  ·rw [hsz] at h2
   have:i=j:=by omega
   subst this
   exact l1 _
  ·have e:=kas_range (vs.toArray.zip vs.toArray)
   rw [show (vs.toArray.zip vs.toArray).size=vs.length by simp] at e
   exact e.symm
 ·rw [if_neg h2,if_neg h2]
  rw [hsz] at h2
  obtain ⟨fs,f1,f2,f3⟩:=QdD T6
  refine wpAny_bind (kat_kind (T:=Value.type "str") f1 (by omega) (fun v hv => ?_) rfl ?_)
  ·obtain ⟨x,t,rfl⟩:=f3 v hv
   exact Looks.now
  ·rw [show (Value.type "str" != Value.type "tuple")=true from rfl]
   refine wpAny_bind (wpAny_mono (kat_run (κ:=tuples' true) (vs:=vs) (ks:=vs) (Q:=fun st' s'=>s'={ s with heap:=((s.heap.update a (Obj.mapSeq fun _ => #[])).push (seqObj "tuple" vs.toArray 0)).push (seqObj "list" #[] 0) }∧failedOf st'=none∧∃ p:Array Nat,p.Perm (List.range vs.length).toArray∧Qat (ltT ts) p vs.length∧arrOf st'=p.map (kas_item (vs.toArray.zip vs.toArray)))
    (G:=fun p s'=>s'={ s with heap:=((s.heap.update a (Obj.mapSeq fun _ => #[])).push (seqObj "tuple" vs.toArray 0)).push (seqObj "list" #[] 0) }∧p.Perm (List.range vs.length).toArray∧Qat (ltT ts) p vs.length)
    rfl (by omega) h64 (fun p st' s' _ a2 a3 a4=>⟨a4.1,a3,p,a4.2.1,a4.2.2,a2⟩) ?_) ?_ fun _ _ e=>e)
   ·refine sort_wp l1 l2 l3 l4 (fun i j hi hj hij hlt => ?_) (QhB T6 hk hn) (by omega) fun p q1 q2=>⟨rfl,q1,q2⟩
    rw [T6.1] at hi hj
    have gi:ts.getD i tri0=ts[i]:=by simp [List.getD,hi]
    have gj:ts.getD j tri0=ts[j]:=by simp [List.getD,hj]
    have ne:ts[i].2.1≠ts[j].2.1:=fun e=>by
     have q:=List.pairwise_iff_getElem.mp (List.nodup_iff_pairwise_ne.mp hn)
     rcases Nat.lt_or_gt_of_ne hij with c | c
     ·exact q i j (by simpa using hi) (by simpa using hj) c (by simpa using e)
     ·exact q j i (by simpa using hj) (by simpa using hi) c (by simpa using e.symm)
    unfold ltT sLt at hlt ⊢
    rw [gi,gj] at hlt
    rw [gi,gj]
    rw [decide_eq_false_iff_not] at hlt
    rw [decide_eq_true_eq]
    apply Classical.byContradiction
    intro c
    have e:(ts[i].2.1).cps.toList=(ts[j].2.1).cps.toList:=List.le_antisymm (α:=Nat) c hlt
    apply ne
    generalize ts[i].2.1=x at *
    generalize ts[j].2.1=y at *
    obtain ⟨x⟩:=x
    obtain ⟨y⟩:=y
    have e':x=y:=by simpa using e
    rw [e']
   ·rintro ⟨⟨⟩,st'⟩ s' ⟨rfl,hf,p,q1,q2,q3⟩
    dsimp only
    have ps:p.size=vs.length:=by rw [q1.size_eq];simp
    refine wpAny_bind (seqEpoch_at ho6 rfl ?_)
    refine wpAny_bind (listUpdate_at ho6 rfl ?_ (hsz2:=by rw [Array.size_map,q3,Array.size_map,ps,sizeLine_eq];omega))
    rw [hf]
    simp only [bne_self_eq_false,Bool.false_eq_true,if_false]
    exact wpAny_pure (fin st' p q1 q2 q3)
theorem Qfr.mono {h h':Heap} {v:Value} {t:Tri} (x:Qfr h v t) (k:∀ b o,h.get? b=some o→o.cls = .type "tuple"→h'.get? b=some o):Qfr h' v t:=by
 obtain ⟨a,o,n,k1,k2,k3,e,ha,hc,hd⟩:=x
 exact ⟨a,o,n,k1,k2,k3,e,k a o ha hc,hc,hd⟩
theorem QlD {l:Addr} {vs:List Value} {ts:List Tri} {k:Str} {Q:Value→Shared→Prop} (hl:s.heap.IsList l vs.toArray) (hT:Tris s.heap vs ts) (hk:∀ t∈ts,t.1=k) (hn:(ts.map (·.2.1)).Nodup) (h64:vs.length < 64)
  (h:∀ p:Array Nat,p.Perm (List.range vs.length).toArray→Qat (ltT ts) p vs.length→Q (.ref (s.heap.objs.size + 1)) { s with heap:=sortedAll s.heap vs (p.toList.map fun i=>vs.getD i Value.none).toArray }) :
  wpAny (model prog w) A (call (.builtin "sorted") [.ref l]) Q E s:=by
 refine Calls.call_function_entry kind_sorted plain_sorted entry_sorted (args_sorted1 _) ?_
 unfold Builtin.«sorted»
 refine wpAny_bind (m:=checkCount "sorted" 1 1 _) (wpAny_pure ?_)
 refine wpAny_bind (collect_list hl ?_)
 refine wpAny_bind (wpAny_newList ?_)
 have hsz:((s.heap.push (seqObj "list" #[] 0)).update s.heap.objs.size (Obj.mapSeq (·++vs.toArray))).objs.size=s.heap.objs.size + 1:=by
  rw [Heap.size_update,size_push']
 have hoL:(((s.heap.push (seqObj "list" #[] 0)).update s.heap.objs.size (Obj.mapSeq (·++vs.toArray))).push (seqObj "list" vs.toArray 0)).get? (s.heap.objs.size + 1)=some (seqObj "list" vs.toArray 0):=by
  rw [← hsz];exact Heap.get?_push_size _ rfl
 have keep:∀ b o,s.heap.get? b=some o→(((s.heap.push (seqObj "list" #[] 0)).update s.heap.objs.size (Obj.mapSeq (·++vs.toArray))).push (seqObj "list" vs.toArray 0)).get? b=some o:=fun b o q=>by
  have hlt:b < s.heap.objs.size:=Heap.lt_size q
  exact Heap.get?_push_of_some _ (by rw [Heap.get?_update_ne _ _ _ _ (Nat.ne_of_lt hlt)];exact Heap.get?_push_of_some _ q)
 show wpAny _ _ _ _ _ { s with heap:=((s.heap.push (seqObj "list" #[] 0)).update s.heap.objs.size (Obj.mapSeq (·++vs.toArray))).push (seqObj "list" vs.toArray 0) }
 rw [hsz]
 refine wpAny_bind (wpAny_holding (wpAny_call_entry slot_list_sort ⟨_,hoL,rfl⟩ entry_list_sort (QgL hoL (fun h' k=>⟨hT.1,fun i hi => ?_⟩) hk hn h64 fun p a1 a2=>⟨_,rfl,?_⟩) (args_list_sort _)))
 ·refine (hT.2 i hi).mono fun b o q _=>k b o (Nat.ne_of_lt (Nat.lt_succ_of_lt (Heap.lt_size q))) (keep b o q)
 ·exact wpAny_pure ⟨_,rfl,h p a1 a2⟩
end
def triV (t:Tri):PV := .tup [.str t.1,.str t.2.1,.str t.2.2]
def tri?:PV→Option Tri
 | .tup [.str a,.str b,.str c]=>some (a,b,c)
 | _=>none
def QhA:List PV→Option (List Tri)
 | []=>some []
 | x :: xs=>(tri? x).bind fun t=>(QhA xs).bind fun ts=>some (t :: ts)
theorem tri?_get {x:PV} {t:Tri} (h:tri? x=some t):x=triV t:=by
 unfold tri? at h
 split at h
 ·cases h;rfl
 ·cases h
theorem QfT:∀ {xs:List PV} {ts:List Tri},QhA xs=some ts→xs=ts.map triV
 | [],_,h=>by cases h;rfl
 | x :: xs,ts,h=>by
  unfold QhA at h
  obtain ⟨t,h1,h⟩:=Qi h
  obtain ⟨ts',h2,h⟩:=Qi h
  cases h
  rw [List.map_cons,tri?_get h1,QfT h2]
theorem QfS:∀ (ts:List Tri),QhA (ts.map triV)=some ts
 | []=>rfl
 | t :: ts=>by
  show (tri? (triV t)).bind _=_
  rw [show tri? (triV t)=some t from rfl,QfS ts]
  rfl
def tLe (a b:Tri):Bool:=sLe a.2.1 b.2.1
def Qdn (ts:List Tri):List Tri:=ts.mergeSort tLe
theorem QaI (ts:List Tri):(Qdn ts).Perm ts:=List.mergeSort_perm _ _
theorem Qiq (ts:List Tri):(Qdn ts).Pairwise (fun a b=>tLe a b=true):=List.pairwise_mergeSort (le:=tLe) (fun a b c h1 h2=>Qds a.2.1 b.2.1 c.2.1 h1 h2) (fun a b=>Qga a.2.1 b.2.1) ts
abbrev triOk (ts:List Tri):Prop:=(∀ t∈ts,t.1=(ts.getD 0 tri0).1)∧(ts.map (·.2.1)).Nodup
theorem nodup_at {ts:List Tri} (hn:(ts.map (·.2.1)).Nodup) {a b:Tri} (ha:a∈ts) (hb:b∈ts) (e:a.2.1=b.2.1):a=b:=by
 induction ts with
 | nil=>cases ha
 | cons t ts ih =>
  rw [List.map_cons,List.nodup_cons] at hn
  rcases List.mem_cons.mp ha with h1 | h1 <;> rcases List.mem_cons.mp hb with h2 | h2
  ·rw [h1,h2]
  ·subst h1
   exact absurd (List.mem_map.mpr ⟨b,h2,e.symm⟩) hn.1
  ·subst h2
   exact absurd (List.mem_map.mpr ⟨a,h1,e⟩) hn.1
  ·exact ih hn.2 h1 h2
theorem tsort_eq {ts us:List Tri} (hn:(ts.map (·.2.1)).Nodup) (hp:us.Perm ts) (hs:us.Pairwise (fun a b=>tLe a b=true)):us=Qdn ts :=
 List.Perm.eq_of_pairwise (fun x y hx hy h1 h2=>nodup_at hn (hp.mem_iff.mp hx) ((QaI ts).mem_iff.mp hy) (QeX h1 h2)) hs (Qiq ts) (hp.trans (QaI ts).symm)
def QeL:List PV→Option (List PV)
 | [.lst xs]=>match QhA xs with
  | some ts=>if ts.length < 64 then (if triOk ts then some ((Qdn ts).map triV) else none) else none
  | none=>none
 | _=>none
section
variable {X:Cx}
theorem tri_rep {pins:List (Addr×Obj)} {σ:St} {H F:Hp} {s:Shared} (I:Inv X pins σ H s) (hs:Same F H) {t:Tri} {v:V} {u:Value} (r:Rep X.K F (triV t) v) (q:RelV v u):Qfr s.heap u t:=by
 unfold triV Rep at r
 obtain ⟨a,vs,rfl,k2,k3⟩:=r
 cases q
 have e3:vs=[V.str t.1,V.str t.2.1,V.str t.2.2]:=XL (ns:=[t.1,t.2.1,t.2.2]) k3
 subst e3
 obtain ⟨its,rv,⟨o,o1,o2,n,o3⟩,_⟩:=I.tuple (hs.seqT k2)
 cases rv with
 | cons q1 rv=>cases rv with
  | cons q2 rv=>cases rv with
   | cons q3 rv =>
    cases rv
    obtain ⟨t1,rfl⟩:=q1
    obtain ⟨t2,rfl⟩:=q2
    obtain ⟨t3,rfl⟩:=q3
    exact ⟨a,o,n,t1,t2,t3,rfl,o1,o2,by rw [o3]⟩
theorem Qir {pins:List (Addr×Obj)} {σ:St} {H F:Hp} {s:Shared} (I:Inv X pins σ H s) (hs:Same F H):∀ {ts:List Tri} {vs:List V} {us:List Value},RepL X.K F (ts.map triV) vs→Vals vs us→Tris s.heap us ts
 | [],vs,us,r,q=>by
  unfold List.map RepL at r
  subst r
  cases q
  exact ⟨rfl,fun i hi=>by simp at hi⟩
 | t :: ts,vs,us,r,q=>by
  rw [List.map_cons] at r
  unfold RepL at r
  obtain ⟨v,r',rfl,r1,r2⟩:=r
  cases q with
  | cons q1 q2 =>
   have ih:=Qir I hs r2 q2
   refine ⟨by simp [ih.1],fun i hi => ?_⟩
   cases i with
   | zero=>exact tri_rep I hs r1 q1
   | succ i=>exact ih.2 i (by simpa using hi)
theorem QkC {K:PySem.W.Frag} {F:Hp}:∀ {ts:List Tri} {vs:List V},RepL K F (ts.map triV) vs→vs.length=ts.length∧∀ i,i < ts.length→Rep K F (triV (ts.getD i tri0)) (vs.getD i .non)
 | [],vs,r=>by
  unfold List.map RepL at r
  subst r
  exact ⟨rfl,fun i hi=>by simp at hi⟩
 | t :: ts,vs,r=>by
  rw [List.map_cons] at r
  unfold RepL at r
  obtain ⟨v,r',rfl,r1,r2⟩:=r
  have ih:=QkC r2
  refine ⟨by simp [ih.1],fun i hi => ?_⟩
  cases i with
  | zero=>exact r1
  | succ i=>exact ih.2 i (by simpa using hi)
theorem Qgb {K:PySem.W.Frag} {F:Hp} {ts:List Tri} {vs:List V} (r:∀ i,i < ts.length→Rep K F (triV (ts.getD i tri0)) (vs.getD i .non)):∀ {p:List Nat},(∀ i∈p,i < ts.length)→RepL K F ((p.map fun i=>ts.getD i tri0).map triV) (p.map fun i=>vs.getD i .non)
 | [],_=>by rw [List.map_nil,List.map_nil,List.map_nil];unfold RepL;rfl
 | i :: p,h=>by
  rw [List.map_cons,List.map_cons,List.map_cons]
  unfold RepL
  exact ⟨_,_,rfl,r i (h i List.mem_cons_self),Qgb r fun j hj=>h j (List.mem_cons_of_mem _ hj)⟩
theorem QfR {vs:List V} {us:List Value} (r:Vals vs us):∀ {p:List Nat},(∀ i∈p,i < us.length)→Vals (p.map fun i=>vs.getD i .non) (p.map fun i=>us.getD i .none)
 | [],_ => .nil
 | i :: p,h=>by
  refine .cons ?_ (QfR r fun j hj=>h j (List.mem_cons_of_mem _ hj))
  have hi:=h i List.mem_cons_self
  clear h
  induction r generalizing i with
  | nil=>simp at hi
  | cons q r ih=>cases i with
   | zero=>exact q
   | succ i=>exact ih i (by simpa using hi)
theorem Qim:QgC X (.builtin "sorted") QeL:=by
 intro pins s σ H vs us Q I rs h
 obtain ⟨F,ps,r,h1,h2,h3,w⟩:=h
 unfold QeL at h3
 split at h3
 ·rename_i xs
  unfold RepL at h2
  obtain ⟨v,t,rfl,h2,ht⟩:=h2
  unfold RepL at ht
  subst ht
  unfold Rep at h2
  obtain ⟨a,ws,rfl,k2,k3⟩:=h2
  obtain ⟨u,rfl,ru⟩:=XH rs
  cases ru
  obtain ⟨its,rv,pl,_⟩:=I.list (h1.seq k2)
  split at h3
  ·rename_i ts hts
   obtain ⟨c,h3⟩:=QiN h3
   obtain ⟨c2,h3⟩:=QiN h3
   cases h3
   have e2:=QfT hts
   subst e2
   have T:=Qir I h1 k3 rv
   have R:=QkC k3
   refine QlD pl.isList T c2.1 c2.2 (by rw [T.1];exact c) fun p q1 q2 => ?_
   rw [T.1] at q1 q2
   have pp:p.toList.Perm (List.range ts.length):=by
    have:=Array.perm_iff_toList_perm.mp q1
    simpa using this
   have pm:∀ i∈p.toList,i < ts.length:=fun i hi=>List.mem_range.mp (pp.mem_iff.mp hi)
   have ps:p.size=ts.length:=by rw [q1.size_eq];simp
   have eo:(p.toList.map fun i=>ts.getD i tri0)=Qdn ts:=by
    refine tsort_eq c2.2 ?_ ?_
    ·have e:=pp.map fun i=>ts.getD i tri0
     have e':(List.range ts.length).map (fun i=>ts.getD i tri0)=ts:=by
      apply List.ext_getElem
      ·simp
      ·intro i h1 h2
       simp [List.getD,h2]
     rw [e'] at e
     exact e
    ·rw [List.pairwise_map,List.pairwise_iff_getElem]
     intro i j hi hj hij
     have q:=q2 i j (Nat.le_of_lt hij) (by rw [← ps];simpa using hj)
     have gi:p.getD i 0=p.toList[i]:=by
      have:i < p.size:=by simpa using hi
      simp [Array.getD,this]
     have gj:p.getD j 0=p.toList[j]:=by
      have:j < p.size:=by simpa using hj
      simp [Array.getD,this]
     rw [gi,gj] at q
     unfold tLe sLe
     unfold ltT sLt at q
     rw [q]
     rfl
   obtain ⟨k,he⟩:=sortedAll_at s.heap its (p.toList.map fun i=>its.getD i Value.none).toArray
   have hn:H (s.heap.objs.size + 1)=none:=I.hok.fresh (Nat.le_succ _)
   refine ⟨.ref (s.heap.objs.size + 1),upd H (s.heap.objs.size + 1) (.lst (p.toList.map fun i=>ws.getD i .non)),I.laid (t':=s.toks) (fun b o q=>sortedAll_old q) (Nat.le_succ _) ⟨?_,(p.toList.map fun i=>its.getD i Value.none),k,QfR rv (fun i hi=>by rw [T.1];exact pm i hi),?_⟩,rfl,?_⟩
   ·rw [List.length_map,Array.length_toList,ps]
    exact Nat.le_of_lt (Nat.lt_trans c (by decide))
   ·simpa [seqObj] using he
   ·refine w _ (p.toList.map fun i=>ws.getD i .non) _ F (.side h1 hn) hn (h1.free hn) Qq ?_
    rw [← eo]
    exact Qgb R.2 pm
  ·cases h3
 ·cases h3
end
section
variable {prog:Program} {w:World} {A:Around} {E:Value→Shared→Prop} {s:Shared}
theorem QgP {l:Addr} {vs:List Value} {o:Obj} {n:Nat} {Q:List Value→Shared→Prop} (hl:s.heap.get? l=some o) (hc:o.cls = .type "tuple") (hd:o.data = .seq vs.toArray n) (hz:vs.length < 64)
  (h:Q vs { s with heap:=(s.heap.push (seqObj "list" #[] 0)).update s.heap.objs.size (Obj.mapSeq (·++vs.toArray)) }):wpAny (model prog w) A (collect (.ref l)) Q E s:=by
 unfold collect
 refine wpAny_bind (wpAny_runValue (codeAny_builtin entry_proto_collect' ?_))
 show wpAny _ _ (do again (.builtin "list.__iadd__" ⟨[← newList [],.ref l],[]⟩)) _ _ s
 refine wpAny_bind (wpAny_newList (wpAny_pure ⟨Code.quiet_builtin _ (by decide +kernel),codeAny_builtin entry_list_iadd' ?_⟩))
 show wpAny _ _ (Builtin.List.listExtendWith (.ref s.heap.objs.size) (.ref l) (.ref s.heap.objs.size)) _ _ { s with heap:=s.heap.push (seqObj "list" #[] 0) }
 have q:(s.heap.push (seqObj "list" #[] 0)).get? l=some o:=Heap.get?_push_of_some _ hl
 have z:(s.heap.push (seqObj "list" #[] 0)).get? s.heap.objs.size=some (seqObj "list" #[] 0):=Heap.get?_push_size _ rfl
 unfold Builtin.List.listExtendWith
 refine wpAny_bind (wpAny_typeOf (T := "tuple") ⟨o,q,hc⟩ ?_)
 rw [if_pos (by rw [show (Value.type "tuple"==Value.type "tuple")=true from rfl];simp)]
 refine wpAny_bind (listItems_at q hd (wpAny_bind (listItems_at z rfl ?_)))
 rw [if_neg (by simp)]
 refine wpAny_bind (listUpdate_at z rfl (wpAny_pure ?_) (Nat.zero_le _) (by show (#[]++vs.toArray).size≤sizeLine + 1;simp only [Array.size_append,List.size_toArray,List.length_nil];rw [sizeLine_eq];omega))
 refine wpAny_bind (wpAny_load (get?_update_seq z _) ?_)
 show wpAny _ _ (pure ((#[]:Array Value)++vs.toArray).toList) Q E _
 exact wpAny_pure (by simpa using h)
theorem QhD {l:Addr} {vs:List Value} {o:Obj} {n:Nat} {ss:List Str} {Q:Value→Shared→Prop} (hl:s.heap.get? l=some o) (hc:o.cls = .type "tuple") (hd:o.data = .seq vs.toArray n) (hS:StrsAre vs ss) (h64:vs.length < 64)
  (h:∀ (out:Array Value) (ss':List Str),StrsAre out.toList ss'→ss'.Perm ss→sortedS ss'=true→Q (.ref (s.heap.objs.size + 1)) { s with heap:=sortedAll s.heap vs out }) :
  wpAny (model prog w) A (call (.builtin "sorted") [.ref l]) Q E s:=by
 refine Calls.call_function_entry kind_sorted plain_sorted entry_sorted (args_sorted1 _) ?_
 unfold Builtin.«sorted»
 refine wpAny_bind (m:=checkCount "sorted" 1 1 _) (wpAny_pure (wpAny_bind (QgP hl hc hd h64 (wpAny_bind (wpAny_newList ?_)))))
 have hsz:((s.heap.push (seqObj "list" #[] 0)).update s.heap.objs.size (Obj.mapSeq (·++vs.toArray))).objs.size=s.heap.objs.size + 1:=by rw [Heap.size_update,size_push']
 have hoL:(((s.heap.push (seqObj "list" #[] 0)).update s.heap.objs.size (Obj.mapSeq (·++vs.toArray))).push (seqObj "list" vs.toArray 0)).get? (s.heap.objs.size + 1)=some (seqObj "list" vs.toArray 0):=by
  rw [← hsz];exact Heap.get?_push_size _ rfl
 show wpAny _ _ _ _ _ { s with heap:=((s.heap.push (seqObj "list" #[] 0)).update s.heap.objs.size (Obj.mapSeq (·++vs.toArray))).push (seqObj "list" vs.toArray 0) }
 rw [hsz]
 refine wpAny_bind (wpAny_holding (wpAny_call_entry slot_list_sort ⟨_,hoL,rfl⟩ entry_list_sort (list_sort_treeK strKind_oneLt hoL hS.keysOf (fun v₁ v₂ rest e=>keyKind_strs (by rw [← e];exact hS)) h64 fun st' a1 a2=>⟨_,rfl,wpAny_pure ⟨_,rfl,?_⟩⟩) (args_list_sort _)))
 obtain ⟨ss',b1,b2,b3⟩:=sorted_out_str hS a1 a2
 exact h _ ss' b1 b2 b3
end
def Qeg:List PV→Option (List PV)
 | [.tup xs]=>match Yc xs with
  | some ss=>if ss.length < 64 then some ((QM ss).map .str) else none
  | none=>none
 | ps=>Qea ps
section
variable {X:Cx}
theorem Qcn:QgC X (.builtin "sorted") Qeg:=by
 intro pins s σ H vs us Q I rs h
 obtain ⟨F,ps,r,h1,h2,h3,w⟩:=h
 unfold Qeg at h3
 split at h3
 ·rename_i xs
  unfold RepL at h2
  obtain ⟨v,t,rfl,h2,ht⟩:=h2
  unfold RepL at ht
  subst ht
  unfold Rep at h2
  obtain ⟨a,ws,rfl,k2,k3⟩:=h2
  obtain ⟨u,rfl,ru⟩:=XH rs
  cases ru
  obtain ⟨its,rv,⟨o,o1,o2,n,o3⟩,_⟩:=I.tuple (h1.seqT k2)
  split at h3
  ·rename_i ss hss
   obtain ⟨c,rfl⟩:=Qz h3
   have e2:=Qan hss
   subst e2
   have e3:=XL k3
   subst e3
   have hl:=rv.length
   rw [List.length_map] at hl
   refine QhD o1 o2 o3 (Xp rv) (by omega) fun out ns' a1 a2 a3 => ?_
   have e4:=QbC a2 (Xy _ a3)
   obtain ⟨k,he⟩:=sortedAll_at s.heap its out
   have hn:H (s.heap.objs.size + 1)=none:=I.hok.fresh (Nat.le_succ _)
   refine ⟨.ref (s.heap.objs.size + 1),upd H (s.heap.objs.size + 1) (.lst (ns'.map V.str)),I.laid (t':=s.toks) (fun b o q=>sortedAll_old q) (Nat.le_succ _) ⟨?_,out.toList,k,QbE a1,?_⟩,rfl,?_⟩
   ·rw [List.length_map,a2.length_eq]
    exact Nat.le_of_lt (Nat.lt_trans c (by decide))
   ·simpa [seqObj] using he
   ·rw [← e4] at w
    exact w _ (ns'.map V.str) _ F (.side h1 hn) hn (h1.free hn) Qq (YM ns')
  ·cases h3
 ·exact Qap pins s σ H vs us Q I rs ⟨F,_,r,h1,h2,h3,w⟩
end
end L2.PM
namespace L2.PM
open PySem PySem.Spec PyProof.Rows
section
variable {X:Cx} {e k:Expr} {ms ns:List Nat} {m mk:MEx} {p2 pos:Pos}
theorem ins_args (hk:EM X ns k mk) (he:EM X ms e m) (h1:starEach [k,e] X.env=(false,eval k X.env) :: starEach [e] X.env:=by rfl) (h2:starEach [e] X.env=(false,eval e X.env) :: starEach [] X.env:=by rfl) :
  PA X [k,e] (QjM (tM X.K ns mk) (QjM (tM X.K ms m) tNil)):=Qal hk (Qal he Qef h2) h1
theorem sm_ins2 {i:Nat} {x:Str} {apos cpos:Pos} (hx:PE X (.Name x p2) (tVar i)) (ps:PS X (.Expr (.Call (.Attribute (.Name x p2) "insert" apos) [k,e] [] cpos) pos) (Qmv (tBM X.K "list" QkE (tVar i) (QjM (tM X.K ns mk) (QjM (tM X.K ms m) tNil))))) :
  SM X (.Expr (.Call (.Attribute (.Name x p2) "insert" apos) [k,e] [] cpos) pos) (sIns ms i mk m):=PS.imp ps fun D σ H ⟨B,F₀,F,γ,o,S,e,ok⟩=>by
 unfold sIns at e
 split at e
 ·rename_i xs hi
  obtain ⟨j0,e0,e'⟩:=Qi e
  obtain ⟨r,e1,e2⟩:=Qi e'
  cases j0 with
  | int j =>
   have e3:(if 0≤j∧j≤xs.length∧xs.length≤1000∧(flat r || !ms.contains i)=true then some (Out.nx ((Zt (flat r) ms γ).set i (.ow (xs.take j.toNat++r :: xs.drop j.toNat)))) else none)=some o:=e2
   obtain ⟨⟨c0,c1,c2,c⟩,rfl⟩:=Qz e3
   obtain ⟨a,vs,h1,h2,_⟩:=S.ow i xs hi
   obtain ⟨F1,S1,x1,er⟩:=S.see ns
   refine ⟨.ref a,h1,QcQ (.of h2),F1,γ,.int j,S1.sub,er,e0,fun v0 H' F' g q0 => ?_⟩
   obtain ⟨F2,S2,q2⟩:=S.val S1 g q0
   have S2:SR _ B F₀ F2 σ H' γ:=S2
   unfold Rep at q0
   subst q0
   obtain ⟨F3,S3,x3,er3⟩:=S2.see ms
   refine ⟨F3,γ,r,S3.sub,er3,e1,fun v H2 F4 g2 q => ?_⟩
   obtain ⟨F5,S5,q5⟩:=S2.val S3 g2 q
   have hi2:=Qao (k:=flat r) hi c
   obtain ⟨a2,vs2,k1,k2,k3,_⟩:=S5.ow i xs hi2
   rw [h1] at k1
   cases k1
   have hle:vs2.length=xs.length:=k3.length
   refine ⟨a,vs2,v,j,rfl,rfl,k2,c0,by rw [hle];exact c1,?_,by rw [hle];omega,?_⟩
   ·rw [hle]
    exact Nat.lt_of_le_of_lt c2 (by decide)
   ·exact ok _ _ F5 (S5.write hi2 h1 ((k3.take _).append (.cons q5 (k3.drop _))))
  | _=>cases e2
 ·cases e
end
end L2.PM
namespace L2
open PySem PySem.Spec PyProof.Rows
section
variable {κ:Type} [DecidableEq κ]
def valV (kvs:List (κ×V)) (k : κ):Option V:=(kvs.find? fun kv=>decide (kv.1=k)).map (·.2)
def putK (kvs:List (κ×V)) (k : κ) (v:V):List (κ×V) :=
 if (kvs.any fun kv=>decide (kv.1=k))=true then kvs.map (fun kv=>if kv.1=k then (kv.1,v) else kv) else kvs++[(k,v)]
theorem QeQ {p : κ×V} {r:List (κ×V)} {k : κ} (e:p.1=k):valV (p :: r) k=some p.2:=by simp [valV,List.find?_cons,e]
theorem QeR {p : κ×V} {r:List (κ×V)} {k : κ} (e:¬ p.1=k):valV (p :: r) k=valV r k:=by simp [valV,List.find?_cons,e]
theorem Qip (k : κ):∀ kvs:List (κ×V),(kvs.any fun kv=>decide (kv.1=k))=(valV kvs k).isSome
 | []=>rfl
 | p :: r=>by
  rw [List.any_cons]
  by_cases e:p.1=k
  ·simp only [QeQ e,decide_eq_true e,Bool.true_or,Option.isSome_some]
  ·rw [QeR e,decide_eq_false e,Bool.false_or];exact Qip k r
theorem QdF (kvs:List (κ×V)) (k : κ) (v:V):(putK kvs k v).length≤kvs.length + 1:=by
 unfold putK
 split
 ·rw [List.length_map];omega
 ·rw [List.length_append,List.length_cons,List.length_nil];omega
theorem RelO.isSome_eq {o:Option V} {u:Option Value} (r:RelO o u):o.isSome=u.isSome:=by
 cases o with
 | none=>cases u with
  | none=>rfl
  | some _=>exact (show False from r).elim
 | some _=>cases u with
  | none=>exact (show False from r).elim
  | some _=>rfl
theorem RelO.getD {o:Option V} {u:Option Value} {d:V} {d':Value} (r:RelO o u) (rd:RelV d d'):RelV (o.getD d) (u.getD d'):=by
 cases o with
 | none=>cases u with
  | none=>exact rd
  | some _=>exact (show False from r).elim
 | some _=>cases u with
  | none=>exact (show False from r).elim
  | some _=>exact r
theorem KV.val {kvs:List (κ×V)} {vs:List (κ×Value)} (r:KV kvs vs) (k : κ):RelO (valV kvs k) (valueAt vs k):=by
 unfold KV at r
 induction r with
 | nil=>exact True.intro
 | @cons p q ps qs h t ih =>
  obtain ⟨h1,h2⟩:=h
  by_cases e:p.1=k
  ·have e':q.1=k:=h1.symm.trans e
   have b:valueAt (q :: qs) k=some q.2:=by simp [valueAt,List.find?_cons,e']
   rw [QeQ e,b];exact h2
  ·have e':¬ q.1=k:=fun z=>e (h1.trans z)
   have b:valueAt (q :: qs) k=valueAt qs k:=by simp [valueAt,List.find?_cons,e']
   rw [QeR e,b];exact ih
theorem KV.any {kvs:List (κ×V)} {vs:List (κ×Value)} (r:KV kvs vs) (k : κ):(kvs.any fun kv=>decide (kv.1=k))=vs.any fun kv=>decide (kv.1=k):=by
 unfold KV at r
 induction r with
 | nil=>rfl
 | cons h t ih=>rw [List.any_cons,List.any_cons,ih,h.1]
theorem KV.repl {kvs:List (κ×V)} {vs:List (κ×Value)} (r:KV kvs vs) (k : κ) {y:V} {u:Value} (ry:RelV y u) :
  KV (kvs.map fun kv=>if kv.1=k then (kv.1,y) else kv) (vs.map fun kv=>if kv.1=k then (kv.1,u) else kv):=by
 unfold KV at r ⊢
 induction r with
 | nil=>exact .nil
 | @cons p q ps qs h t ih =>
  rw [List.map_cons,List.map_cons]
  refine .cons ?_ ih
  obtain ⟨h1,h2⟩:=h
  by_cases e:p.1=k
  ·rw [if_pos e,if_pos (h1.symm.trans e)];exact ⟨h1,ry⟩
  ·rw [if_neg e,if_neg (fun z=>e (h1.trans z))];exact ⟨h1,h2⟩
theorem KV.put {kvs:List (κ×V)} {vs:List (κ×Value)} (r:KV kvs vs) (k : κ) {y:V} {u:Value} (ry:RelV y u):KV (putK kvs k y) (stored vs k u):=by
 unfold putK stored
 rw [r.any k]
 by_cases e:(vs.any fun kv=>decide (kv.1=k))=true
 ·rw [if_pos e,if_pos e];exact r.repl k ry
 ·rw [if_neg e,if_neg e];exact Paired.snoc r ⟨rfl,ry⟩
theorem KV.keys {kvs:List (κ×V)} {vs:List (κ×Value)} (r:KV kvs vs):kvs.map (·.1)=vs.map (·.1):=by
 unfold KV at r
 induction r with
 | nil=>rfl
 | cons h t ih=>rw [List.map_cons,List.map_cons,ih,h.1]
theorem KV.length {kvs:List (κ×V)} {vs:List (κ×Value)} (r:KV kvs vs):kvs.length=vs.length:=Paired.length r
end
theorem QmC {P:Program} {w:World} {k:Key} {u:Value} (r:RelV (kV k) u):(ZQ P w).is k u=true:=by
 cases k with
 | inl i=>obtain ⟨t,e⟩:=(show ∃ t,u=Value.int i t from r);subst e;exact QhW P w i t
 | inr x=>obtain ⟨t,e⟩:=(show ∃ t,u=Value.str x t from r);subst e;exact QhV P w x t
theorem Qgi {P:Program} {w:World}:∀ {ks:List Key} {us:List Value},Vals (ks.map kV) us→ItemsAre (ZQ P w) ks us
 | [],_,r=>by rw [List.map_nil] at r;cases r;exact .nil
 | k :: ks,_,r=>by
  rw [List.map_cons] at r
  cases r with
  | cons h t=>exact .cons (QmC h) (Qgi t)
abbrev KT (H:Hp):List (List Key×V)→List (List Key×Addr×Value)→Prop:=Paired fun p q=>p.1=q.1∧H q.2.1=some (.tup (p.1.map kV))∧RelV p.2 q.2.2
theorem KT.val {H:Hp} {kvs:List (List Key×V)} {xs:List (List Key×Addr×Value)} (r:KT H kvs xs) (k:List Key):RelO (valV kvs k) ((atKey xs k).map (·.2)):=by
 induction r with
 | nil=>exact True.intro
 | @cons p q ps qs h t ih =>
  obtain ⟨h1,_,h2⟩:=h
  by_cases e:p.1=k
  ·have e':q.1=k:=h1.symm.trans e
   have b:atKey (q :: qs) k=some q.2:=by simp [atKey,List.find?_cons,e']
   rw [QeQ e,b];exact h2
  ·have e':¬ q.1=k:=fun z=>e (h1.trans z)
   have b:atKey (q :: qs) k=atKey qs k:=by simp [atKey,List.find?_cons,e']
   rw [QeR e,b];exact ih
theorem KT.repl {H:Hp} {kvs:List (List Key×V)} {xs:List (List Key×Addr×Value)} (r:KT H kvs xs) (k:List Key) {y:V} {u:Value} (ry:RelV y u) :
  KT H (kvs.map fun kv=>if kv.1=k then (kv.1,y) else kv) (xs.map (putAt k u)):=by
 induction r with
 | nil=>exact .nil
 | @cons p q ps qs h t ih =>
  rw [List.map_cons,List.map_cons]
  refine .cons ?_ ih
  obtain ⟨h1,h2,h3⟩:=h
  unfold putAt
  by_cases e:p.1=k
  ·rw [if_pos e,if_pos (h1.symm.trans e)];exact ⟨h1,h2,ry⟩
  ·rw [if_neg e,if_neg (fun z=>e (h1.trans z))];exact ⟨h1,h2,h3⟩
theorem KT.put {H:Hp} {kvs:List (List Key×V)} {xs:List (List Key×Addr×Value)} (r:KT H kvs xs) (k:List Key) {b:Addr} {y:V} {u:Value} (hb:H b=some (.tup (k.map kV))) (ry:RelV y u) :
  KT H (putK kvs k y) (storedH xs k b u):=by
 have e:(kvs.any fun kv=>decide (kv.1=k))=(atKey xs k).isSome:=by
  rw [Qip,(r.val k).isSome_eq,Option.isSome_map]
 unfold putK storedH
 rw [e]
 by_cases q:(atKey xs k).isSome=true
 ·rw [if_pos q,if_pos q];exact r.repl k ry
 ·rw [if_neg q,if_neg q];exact Paired.snoc r ⟨rfl,hb,ry⟩
theorem KT.keeps {H H':Hp} {kvs:List (List Key×V)} {xs:List (List Key×Addr×Value)} (r:KT H kvs xs) (ht:∀ b ys,H b=some (.tup ys)→H' b=some (.tup ys)):KT H' kvs xs :=
 Paired.mapP r fun _ _ z=>⟨z.1,ht _ _ z.2.1,z.2.2⟩
section
variable {P:Program} {w:World} {H:Hp} {h:Heap} {a:Addr}
theorem rd_of {u:HO} (ok:HOk P w H h) (e:Rd H a u):YK P w H h a u:=e.ok ok
theorem QjX {kvs:List (Key×V)} (ok:HOk P w H h) (e:Rd H a (.dK kvs)):kvs.length≤sizeLine∧(a==sysModules)=false∧∃ vs,KV kvs vs∧h.DictOf (ZQ P w) a vs :=
 show YK P w H h a (.dK kvs) from rd_of ok e
theorem dk_of {kvs:List (Key×V)} (ok:HOk P w H h) (e:H a=some (.dK kvs)):kvs.length≤sizeLine∧(a==sysModules)=false∧∃ vs,KV kvs vs∧h.DictOf (ZQ P w) a vs:=QjX ok (.inl e)
theorem Qhs {ks:List Key} (ok:HOk P w H h) (e:H a=some (.tup (ks.map kV))):(tupleKind (ZQ P w)).is h ks a:=by
 obtain ⟨_,its,r,o,h1,h2,_,n,h3⟩:=(show YK P w H h a (.tup (ks.map kV)) from ok a _ e)
 exact ⟨o,its.toArray,n,h1,h2,h3,by simpa using Qgi r⟩
theorem QmE {kvs:List (List Key×V)} (ok:HOk P w H h) (e:Rd H a (.dT kvs)):kvs.length≤sizeLine∧(a==sysModules)=false ∧
  ∃ xs,KT H kvs xs∧h.DictOfH (tupleKind (ZQ P w)) a xs:=by
 obtain ⟨z,y,xs,r,o,es,ep,h1,h2,h3,h4,h5⟩:=(show YK P w H h a (.dT kvs) from rd_of ok e)
 refine ⟨z,y,xs,r,o,es,ep,h1,h2,h3,h4,fun x hx => ?_,h5⟩
 have all:∀ {l:List (List Key×V)} {m:List (List Key×Addr×Value)},KT H l m→∀ x∈m,(tupleKind (ZQ P w)).is h x.1 x.2.1:=by
  intro l m q
  induction q with
  | nil=>intro x hx;exact nomatch hx
  | @cons p q ps qs hq t ih =>
   intro x hx
   rcases List.mem_cons.mp hx with e | hx
   ·subst e
    exact Qhs ok (by rw [← hq.1];exact hq.2.1)
   ·exact ih x hx
 exact all r x hx
theorem dt_of {kvs:List (List Key×V)} (ok:HOk P w H h) (e:H a=some (.dT kvs)):kvs.length≤sizeLine∧(a==sysModules)=false ∧
  ∃ xs,KT H kvs xs∧h.DictOfH (tupleKind (ZQ P w)) a xs:=QmE ok (.inl e)
end
def DGet (H:Hp) (a:Addr) (y:V) (r:Option V):Prop :=
 (∃ kvs k,Rd H a (.dK kvs)∧y=kV k∧r=valV kvs k)∨∃ kvs k b,Rd H a (.dT kvs)∧y = .ref b∧H b=some (.tup (k.map kV))∧r=valV kvs k
def DPut (H:Hp) (a:Addr) (y v:V) (H':Hp):Prop :=
 (∃ kvs k,H a=some (.dK kvs)∧y=kV k∧kvs.length < sizeLine∧H'=upd H a (.dK (putK kvs k v))) ∨
 ∃ kvs k b,H a=some (.dT kvs)∧y = .ref b∧H b=some (.tup (k.map kV))∧kvs.length < sizeLine∧H'=upd H a (.dT (putK kvs k v))
theorem DGet.k {H:Hp} {a:Addr} {kvs:List (Key×V)} {k:Key} (e:H a=some (.dK kvs)):DGet H a (kV k) (valV kvs k) := .inl ⟨kvs,k,.inl e,rfl,rfl⟩
theorem DGet.t {H:Hp} {a b:Addr} {kvs:List (List Key×V)} {k:List Key} (e:H a=some (.dT kvs)) (eb:H b=some (.tup (k.map kV))):DGet H a (.ref b) (valV kvs k) := .inr ⟨kvs,k,b,.inl e,rfl,eb,rfl⟩
theorem DPut.k {H:Hp} {a:Addr} {kvs:List (Key×V)} {k:Key} {v:V} (e:H a=some (.dK kvs)) (hl:kvs.length < sizeLine):DPut H a (kV k) v (upd H a (.dK (putK kvs k v))) := .inl ⟨kvs,k,e,rfl,hl,rfl⟩
theorem DPut.t {H:Hp} {a b:Addr} {kvs:List (List Key×V)} {k:List Key} {v:V} (e:H a=some (.dT kvs)) (eb:H b=some (.tup (k.map kV))) (hl:kvs.length < sizeLine) :
  DPut H a (.ref b) v (upd H a (.dT (putK kvs k v))) := .inr ⟨kvs,k,b,e,rfl,eb,hl,rfl⟩
section
variable {X:Cx} {pins:List (Addr×Obj)} {σ:St} {H:Hp} {s:Shared} {a:Addr} {y v:V} {u r:Value} {o:Option V} {A:Around} {E:Value→Shared→Prop}
theorem Inv.big (I:Inv X pins σ H s):sysModules < s.heap.objs.size:=by
 have h:mainGlobals < s.heap.objs.size:=(I.mod.glob.keeps I.bk).lt
 exact Nat.lt_trans (by decide) h
theorem Qmq {Q:Value→Shared→Prop} (hu:A.units + 1 < cLine) (I:Inv X pins σ H s) (g:DGet H a y (some v)) (ry:RelV y u) (h:∀ w' s',Inv X pins σ H s'→RelV v w'→Q w' s') :
  wpAny (model X.prog X.w) A (getItem (.ref a) u) Q E s:=by
 rcases g with ⟨kvs,k,e,ey,l⟩ | ⟨kvs,k,b,e,ey,eb,l⟩
 ·subst ey
  obtain ⟨z,hd,vs,rel,dd⟩:=QjX I.hok e
  obtain ⟨w',hw,rw'⟩:=RelO.some_of (v:=v) (o:=valueAt vs k) (by rw [l];exact rel.val k)
  exact wpAny_getItem_of (QmC ry) dd.mapOf hw (h w' _ (I.tok _) rw')
 ·subst ey
  cases (show u=Value.ref b from ry)
  obtain ⟨z,hd,xs,rel,dd⟩:=QmE I.hok e
  obtain ⟨w',hw,rw'⟩:=RelO.some_of (v:=v) (o:=(atKey xs k).map (·.2)) (by rw [l];exact rel.val k)
  obtain ⟨p,hp,hp2⟩:=Option.map_eq_some_iff.mp hw
  refine wpAny_getItem_heap (tupleKind_room_in1 hu) (Qhs I.hok eb) dd hp ?_
  rw [hp2]
  exact h w' _ (I.tok _) rw'
theorem d_notIn {Q:Value→Shared→Prop} (hu:A.units + 1 < cLine) (I:Inv X pins σ H s) (g:DGet H a y o) (ry:RelV y u) (h:∀ s',Inv X pins σ H s'→Q (.bool (!o.isSome)) s') :
  wpAny (model X.prog X.w) A (compareOp .NotIn u (.ref a)) Q E s:=by
 rcases g with ⟨kvs,k,e,ey,l⟩ | ⟨kvs,k,b,e,ey,eb,l⟩
 ·subst ey
  obtain ⟨z,hd,vs,rel,dd⟩:=QjX I.hok e
  refine wpAny_notIn_of (QmC ry) hd dd.mapOf ?_
  rw [← (rel.val k).isSome_eq,← l]
  exact h _ (I.tok _)
 ·subst ey
  cases (show u=Value.ref b from ry)
  obtain ⟨z,hd,xs,rel,dd⟩:=QmE I.hok e
  refine wpAny_notIn_heap (tupleKind_room_in1 hu) (Qhs I.hok eb) hd dd ?_
  have q:=(rel.val k).isSome_eq
  rw [Option.isSome_map] at q
  rw [← q,← l]
  exact h _ (I.tok _)
theorem Qlm {h':Heap} {t':Nat} {ob:HO} (I:Inv X pins σ H s) (mu:Mut (H a)) (hs:Heap.SameBut a s.heap h') (he:∃ q,h'.get? a=some q) (new:YK X.prog X.w (upd H a ob) h' a ob) :
  Inv X pins σ (upd H a ob) { s with heap:=h',toks:=t' } :=
 I.write (x:=a) (e:=a) mu (.inl rfl) (fun b q hb z=>(hs.2 b hb).trans z) he new
theorem dk_new {P:Program} {w:World} {H':Hp} {h':Heap} {kvs:List (Key×V)} {vs:List (Key×Value)} (z:kvs.length≤sizeLine) (hd:(a==sysModules)=false) (rel:KV kvs vs) (dd:h'.DictOf (ZQ P w) a vs) :
  YK P w H' h' a (.dK kvs):=⟨z,hd,vs,rel,dd⟩
theorem Qmp {H':Hp} {Q:Unit→Shared→Prop} (hu:A.units + 1 < cLine) (I:Inv X pins σ H s) (g:DPut H a y v H') (ry:RelV y u) (rv:RelV v r) (h:∀ s',Inv X pins σ H' s'→Q () s') :
  wpAny (model X.prog X.w) A (setItem (.ref a) u r) Q E s:=by
 rcases g with ⟨kvs,k,e,ey,l,eH⟩ | ⟨kvs,k,b,e,ey,eb,l,eH⟩
 ·subst ey eH
  obtain ⟨z,hd,vs,rel,dd⟩:=dk_of I.hok e
  have hz:vs.length≤sizeLine:=by rw [← rel.length];exact z
  have hl:(putK kvs k v).length≤sizeLine:=by have:=QdF kvs k v;omega
  refine wpAny_setItem_pairs (hsz:=hz) (QmC ry) dd fun h' dd' hs=>h _ ?_
  have he:∃ q,h'.get? a=some q:=let ⟨q,_,_,hq,_⟩:=dd';⟨q,hq⟩
  exact Qlm I (by rw [e];exact True.intro) hs he (dk_new hl hd (rel.put k rv) dd')
 ·subst ey eH
  cases (show u=Value.ref b from ry)
  obtain ⟨z,hd,xs,rel,dd⟩:=dt_of I.hok e
  have hz:xs.length≤sizeLine:=by rw [← Paired.length rel];exact z
  have hl:(putK kvs k v).length≤sizeLine:=by have:=QdF kvs k v;omega
  refine wpAny_setItem_heap (hsz:=hz) (tupleKind_room_in1 hu) (Qhs I.hok eb) dd fun h' dd' hs=>h _ ?_
  obtain ⟨q,es,ep,hq,h2,h3,h4,_,h5⟩:=dd'
  refine Qlm I (by rw [e];exact True.intro) hs ⟨q,hq⟩ ⟨hl,hd,_,(rel.put k eb rv).keeps fun c ys ec => ?_,q,es,ep,hq,h2,h3,h4,h5⟩
  rw [Qr (QhU ec e (fun z=>nomatch z))]
  exact ec
end
section
variable {X:Cx} {pins:List (Addr×Obj)} {σ:St} {H:Hp} {s:Shared} {a:Addr} {kvs:List (Key×V)} {k:Key} {u:Value} {A:Around} {E:Value→Shared→Prop}
theorem d_len {Q:Value→Shared→Prop} (I:Inv X pins σ H s) (e:Rd H a (.dK kvs)) (h:∀ t s',Inv X pins σ H s'→Q (.int kvs.length t) s'):wpAny (model X.prog X.w) A (call (.builtin "len") [.ref a]) Q E s:=by
 obtain ⟨z,hd,vs,rel,dd⟩:=QjX I.hok e
 refine call_len_dict hd dd (by rw [← rel.length];rw [sizeLine_eq] at z;omega) ?_
 rw [← rel.length]
 exact h _ _ (I.tok _)
end
def NoSl (i:Expr):Prop:=∀ ov iv,subscripted i false ov iv=operate [ov,iv] (getItem ov iv)
theorem subD_of {prog:Program} {w:World} {A:Around} {E:Value→Shared→Prop} {s:Shared} {env:Env} {value slice:Expr} {pos:Pos} {T id:String} {Q:Value→Shared→Prop}
  (hl:typeLookup (.type T) "__getitem__"=pure (some (.builtin id))) (hs:NoSl slice)
  (h:wpAny (model prog w) A (eval value env) (fun o s₁=>wpAny (model prog w) A (eval slice env) (fun i s₂=>s₂.TypeIs o T∧wpAny (model prog w) A (getItem o i) Q E s₂) E s₁) E s) :
  wpAny (model prog w) A (eval (.Subscript value slice pos) env) Q E s:=by
 refine Subscript_ (wpAny_mono h (fun o s₁ h₁=>wpAny_mono h₁ (fun i s₂ h₂ => ?_) fun _ _ x=>x) fun _ _ x=>x)
 obtain ⟨hT,h₂⟩:=h₂
 unfold subscriptTail
 refine wpAny_bind ?_
 rw [getitemInPython_of_ne hT.not_modules]
 refine wpAny_bind (wpAny_specialOf hT hl ?_)
 have fin:wpAny (model prog w) A (subscripted slice false o i) (fun r s₃=>wpAny (model prog w) A (letTemporaryGo value o r >>= fun _=>pure r) Q E s₃) E s₂:=by
  rw [hs o i]
  exact wpAny_operating (wpAny_mono h₂ (fun r s₃ h₃=>wpAny_bind (wpAny_letTemporaryGo (wpAny_pure h₃))) fun _ _ x=>x)
 first
  | exact wpAny_pure (wpAny_bind fin)
  | exact wpAny_bind (wpAny_pure (wpAny_bind fin))
  | exact wpAny_bind fin
theorem Qii {X:Cx} {pins:List (Addr×Obj)} {σ:St} {H:Hp} {s:Shared} {a:Addr} {y:V} {o:Option V} (I:Inv X pins σ H s) (g:DGet H a y o):s.TypeIs (.ref a) "dict":=by
 rcases g with ⟨kvs,k,e,_,_⟩ | ⟨kvs,k,b,e,_,_,_⟩
 ·obtain ⟨_,_,vs,_,dd⟩:=QjX I.hok e
  exact dd.typeIs
 ·obtain ⟨_,_,xs,_,dd⟩:=QmE I.hok e
  exact dd.typeIs
def tDGet (td ty:TE):TE:=fun σ H Q=>td σ H fun x H1=>ty σ H1 fun y H2=>∃ a v,x = .ref a∧DGet H2 a y (some v)∧Q v H2
def sDPut (td ty tv:TE):TS:=fun D σ H=>tv σ H fun v H1=>td σ H1 fun x H2=>ty σ H2 fun y H3=>∃ a H4,x = .ref a∧DPut H3 a y v H4∧D.nx σ H4
section
variable {X:Cx} {o i e value:Expr} {pos pos' tpos:Pos} {td ty tv:TE}
theorem pe_dget (hu:X.A.units + 1 < cLine) (ho:PE X o td) (hi:PE X i ty) (hs:NoSl i):PE X (.Subscript o i pos) (tDGet td ty):=by
 intro pins s σ H Q I h
 refine subD_of PySem.F.slot_dict_getitem.lookup hs (thn (ho pins s σ H _ I h) fun u s1 ⟨x,H1,I1,rx,q1⟩=>thn (hi pins s1 σ H1 _ I1 q1) fun iv s2 ⟨y,H2,I2,ry,a,v,ex,g,q2⟩ => ?_)
 subst ex
 obtain rfl:u=Value.ref a:=rx
 exact ⟨Qii I2 g,Qmq hu I2 g ry fun w' s3 I3 rw'=>⟨v,H2,I3,rw',q2⟩⟩
theorem ps_dput (hu:X.A.units + 1 < cLine) (ho:PE X o td) (hi:PE X i ty) (hv:PE X value tv) (hs:swapsWith value (some (.Subscript o i pos')) pos.line X.env=pure false) :
  PS X (.Assign [.Subscript o i pos'] value pos) (sDPut td ty tv):=by
 intro pins s σ H D I h
 refine wpAny_Assign_Subscript (thn (hv pins s σ H _ I h) fun r s1 ⟨v,H1,I1,rv,q1⟩=>thn (ho pins s1 σ H1 _ I1 q1) fun u s2 ⟨x,H2,I2,rx,q2⟩=>thn (hi pins s2 σ H2 _ I2 q2) fun iv s3 ⟨y,H3,I3,ry,a,H4,ex,g,q3⟩ => ?_) hs
 subst ex
 obtain rfl:u=Value.ref a:=rx
 exact Qmp hu I3 g ry rv fun s4 I4=>⟨σ,H4,I4,q3⟩
end
theorem dk_empty {P:Program} {w:World} {H:Hp} (h:Heap) (hb:sysModules < h.objs.size):YK P w H (h.push { cls := .type "dict",data := .dict #[] }) h.objs.size (.dK []) :=
 ⟨Nat.zero_le _,beq_eq_false_iff_ne.mpr (Ne.symm (Nat.ne_of_lt hb)),[],.nil,Heap.DictOf.new h⟩
def tDNewK:TE:=fun _ H Q=>∀ p,H p=none→Q (.ref p) (upd H p (.dK []))
section
variable {X:Cx} {pos:Pos}
theorem pe_dnewK:PE X (.Dict [] [] pos) tDNewK:=fun pins s σ H Q I h =>
 wpAny_Dict_empty ⟨.ref s.heap.objs.size,_,I.laid (a:=s.heap.objs.size) (o := .dK []) (t':=s.toks) (fun _ _ q=>Heap.get?_push_of_some _ q) (Nat.le_refl _) (dk_empty s.heap I.big),rfl,h _ (I.hok.fresh (Nat.le_refl _))⟩
end
end L2
namespace Att
open PySem PySem.W PySem.Calls PyProof.Rows
end Att
namespace L2
open PySem PySem.Spec PyProof.Rows
end L2
/- THE LAST THEOREM (shape;LID,My.* are yours):
   My.Adr: a structure of the addresses that your layer names (classes,functions);My.Txt K t: a structure (Prop) of the equations over K;
   My.txt_mk:{K} {implicit addresses ..} (e1:nsIn K mainGlobals "law"=some (some (.ref f))) (e2:K.lookup f=some ⟨oc,od,.func (fnOf "law" "law" params body scope dV kV doc pm an cdv ct),sl⟩) (e3:codeIn K cdv "law"=true) ..:∃ t,My.Txt K t
set_option maxRecDepth 100000 in
set_option maxHeartbeats 0 in
theorem PySem.Challenge.cw_LID_holds : PySem.Challenge.rw_LID.Holds := by
 w_on;o_law;k_head;(case hw=>w_witness2)
 k_fill
 refine L2.walk_of (l:=PySem.Challenge.rw_LID) (n:=63) (k:=40) (x := "script") (CX:=fun w => ..) (sp:=fun _=>My.sp_law) rfl (by decide) rfl ⟨rfl,by decide,by decide⟩ (fun w h Y=>PySem.W.kIn_of Y) ?F ?S ?C
 case F =>
  intro w mg fa h KX G hmg
  have T:∃ t,My.Txt (L2.KOf KX) t:=by
   dsimp only [L2.KOf]                          -- K must stand as «<heap const> w.params» for k_is
   refine' My.txt_mk ?e1 ?e2 ?e3 ..
   (case e1=>PySem.W.k_is)                    -- in the order: a name -> its address -> its object -> its parts
   (case e2=>PySem.W.k_is)
   ..
  obtain ⟨t,T⟩:=T
  have e0:=hmg.symm.trans (PySem.W.mg_of KX G T.law)
  cases e0                                       -- fa is the law's own address
  exact ⟨_,fun s u => .of_eq rfl,fun base kb nb=>My.law_fn T kb nb⟩     -- if «.of_eq rfl» comes too early: refine' ⟨_,?b,fun base kb nb=>My.law_fn T kb nb⟩;exact fun s u => .of_eq rfl
 case S=>exact fun w H a ns hl hO hS => ..
 case C=>exact ..
(the tactic k_is has no namespace: write k_is) -/
namespace L2
open PySem PySem.Spec PyProof.Rows
end L2
namespace L2.PM
open PySem PySem.Spec PyProof.Rows
def ItD1 (a:Addr) (o:Obj) (kvs:List (Key×V)):It :=
 ⟨fun i H=>H a=some (.frz o (.dK kvs))∧i < kvs.length,fun i H x H'=>H'=H∧∃ p,kvs[i]?=some p∧x=kV p.1,fun i H=>H a=some (.frz o (.dK kvs))∧kvs.length≤i⟩
def epOf (o:Obj):Nat:=match o.data with
 | .dict _ ep=>ep
 | _=>0
section
variable {X:Cx} {pins:List (Addr×Obj)} {σ:St} {H:Hp} {s:Shared} {a:Addr} {o:Obj} {kvs:List (Key×V)}
theorem Qfh (I:Inv X pins σ H s) (e:H a=some (.frz o (.dK kvs))):∃ vs,KV kvs vs∧s.heap.DictAt (ZQ X.prog X.w) a vs (epOf o)∧(a==sysModules)=false:=by
 obtain ⟨g,z,ns,vs,kv,o',es,ep,h1,h2,h3,h4⟩:=(show YK X.prog X.w H s.heap a (.frz o (.dK kvs)) from I.hok a _ e)
 rw [g] at h1
 cases h1
 have he:epOf o=ep:=by unfold epOf;rw [h3]
 exact ⟨vs,kv,⟨o,es,g,h2,by rw [he];exact h3,h4⟩,ns⟩
theorem is_rel {P:Program} {w:World} {k:Key} {u:Value} (h:(ZQ P w).is k u=true):RelV (kV k) u:=by
 rcases Zr h with ⟨i,t,rfl,rfl⟩ | ⟨x,t,rfl,rfl⟩
 ·exact ⟨t,rfl⟩
 ·exact ⟨t,rfl⟩
end
theorem Qlz {P:Program} {w:World} {K:PySem.W.Frag} {tg:Expr} (a it:Addr) (o:Obj) (kvs:List (Key×V)):Turn P w K tg (ItD1 a o kvs) [it] it (fun i h=>h.IsKeyIter it a i kvs.length (epOf o)) where
 mem:=by simp
 obj:=fun i h st b hb=>by
  have e:b=it:=by simpa using hb
  subst e
  obtain ⟨o,e,c,d⟩:=st
  exact ⟨o,e,fun v z=>by rw [d] at z;cases z⟩
 keep:=fun i h h' st k=>st.at fun o e=>k it (by simp) o e
 item:=by
  intro X hP hw hK hc i pins s σ H E I hf st hg
  subst hP hw hK
  obtain ⟨hg1,hg2⟩:=hg
  obtain ⟨vs,kv,da,_⟩:=Qfh I hg1
  have hl:kvs.length=vs.length:=kv.length
  have hi:i < vs.length:=by omega
  obtain ⟨⟨k,v⟩,hx⟩:∃ p,vs[i]?=some p:=⟨vs[i],by simp [hi]⟩
  have hk:(kvs.map (·.1))[i]?=some k:=by rw [kv.keys,List.getElem?_map,hx];rfl
  obtain ⟨p,hp,hpk⟩:∃ p,kvs[i]?=some p∧p.1=k:=by
   rw [List.getElem?_map] at hk
   cases q:kvs[i]? with
   | none=>rw [q] at hk;cases hk
   | some p=>rw [q] at hk;exact ⟨p,rfl,Option.some.inj hk⟩
  obtain ⟨f0,f1,f2,f3,f4,f5⟩:=hf it (by simp)
  rw [hl] at st
  refine wpAny_pyNext_dict_item st da hx fun key h' hkey st' sb => ?_
  have I1:Inv X pins σ H { s with heap:=h' }:=I.turned (t':=s.toks) (fun b o hb e=>(sb.2 b hb).trans e) f0 f1 f3 f4 f5
  obtain ⟨o',e,c,d⟩:=id st'
  refine ⟨key,rfl,QjT (s:={ s with heap:=h' }) e c d (by decide) ⟨kV k,H,I1,is_rel hkey,⟨rfl,p,hp,by rw [hpk]⟩,?_,fun b hb=>(hf b hb).1⟩⟩
  rw [hl]
  exact st'
 done:=by
  intro X hP hw hK hc i pins s σ H E I hf st hg
  subst hP hw hK
  obtain ⟨hg1,hg2⟩:=hg
  obtain ⟨vs,kv,da,_⟩:=Qfh I hg1
  have hl:kvs.length=vs.length:=kv.length
  obtain ⟨f0,f1,f2,f3,f4,f5⟩:=hf it (by simp)
  rw [hl] at st
  exact wpAny_pyNext_dict_end (I.ok.hd hc) st da (by simp;omega) fun h' eb=>⟨rfl,I.turned (t':=s.toks) (fun b o hb e=>eb b o hb e) f0 f1 f3 f4 f5⟩
 self:=fun _ _ _ _ _ st h=>wpAny_pyIter_keyiter st h
section
variable {X:Cx} {e:Expr} {ms:List Nat} {m:MEx} {tg:Expr}
def iDic (tl:TE):TI:=fun σ H R=>tl σ H fun x H1=>∃ a o kvs,x = .ref a∧H1 a=some (.frz o (.dK kvs))∧R (ItD1 a o kvs) H1
theorem pi_dict {l:Expr} {tl:TE} (hl:PE X l tl):PI X tg l (iDic tl):=by
 intro pins s σ H R I h
 refine thn (hl pins s σ H _ I h) fun v s1 ⟨x,H1,I1,r1,q1⟩ => ?_
 obtain ⟨a,o,kvs,e,hq,q⟩:=q1
 subst e
 cases r1
 obtain ⟨vs,kv,da,ns⟩:=Qfh I1 hq
 refine wpAny_pyIter_dict ns da ?_
 refine ⟨s1.heap.objs.size,[s1.heap.objs.size],_,_,H1,rfl,I1.kept (t':=s1.toks) fun b o e=>Heap.get?_push_of_some _ e,Qlz a _ o kvs,⟨_,Heap.get?_push_size _ rfl,rfl,by rw [kv.length];rfl⟩,fun b hb => ?_,q⟩
 have e:b=s1.heap.objs.size:=by simpa using hb
 subst e
 exact I1.fpOk (Nat.le_refl _) (I1.hok.fresh (Nat.le_refl _))
def iDct (m:MEx):PEnv→Option (List PV):=fun γ=>(m γ).bind fun p=>match p with
 | .dct kvs=>some (kvs.map fun p => .str p.1)
 | _=>none
theorem Qdl (h:EM X ms e m):IM X ms tg e (iDct m):=PI.imp (pi_dict h) fun σ H R ⟨F,γ,xs,h1,h2,h3,w⟩=>by
 obtain ⟨p,e1,e2⟩:=Qi h3
 refine ⟨F,γ,p,h1,h2,e1,fun v H' F' g q => ?_⟩
 cases p with
 | dct kvs =>
  cases e2
  unfold Rep at q
  obtain ⟨a,o,rfl,k2⟩:=q
  have hlen:(dvK kvs).length=kvs.length:=by unfold dvK;rw [List.length_map]
  refine ⟨a,o,dvK kvs,rfl,g.sub _ _ k2,w _ _ _ g ?_⟩
  refine ⟨fun i H hi e => ?_,fun i H x H' hi e y => ?_,fun H e => ?_⟩
  ·rw [List.length_map] at hi
   exact ⟨e _ _ k2,by rw [hlen];exact hi⟩
  ·obtain ⟨rfl,p,hp,rfl⟩:=y
   unfold dvK at hp
   rw [List.getElem?_map] at hp
   cases q:kvs[i]? with
   | none=>rw [q] at hp;cases hp
   | some r =>
    rw [q] at hp
    cases hp
    refine ⟨.str r.1,by rw [List.getElem?_map,q];rfl,fun F1 x1 x2=>⟨F1,.refl x2,?_⟩⟩
    unfold Rep
    rfl
  ·exact ⟨e _ _ k2,by rw [hlen,List.length_map];exact Nat.le_refl _⟩
 | _=>cases e2
end
def dvP:Bool ⊕ Int→PV
 | .inl b => .bl b
 | .inr i => .int i
def dvOf:PV→Option (Bool ⊕ Int)
 | .bl b=>some (.inl b)
 | .int i=>some (.inr i)
 | _=>none
def dcOf:PV→Option (List (Str×(Bool ⊕ Int)))
 | .dct kvs=>some kvs
 | .dcw kvs=>some kvs
 | _=>none
def valD (kvs:List (Str×(Bool ⊕ Int))) (k:Str):Option (Bool ⊕ Int):=(kvs.find? fun p=>decide (p.1=k)).map (·.2)
def putD (kvs:List (Str×(Bool ⊕ Int))) (k:Str) (v:Bool ⊕ Int):List (Str×(Bool ⊕ Int)) :=
 if (kvs.any fun p=>decide (p.1=k))=true then kvs.map (fun p=>if p.1=k then (p.1,v) else p) else kvs++[(k,v)]
theorem rep_dv {K:PySem.W.Frag} {F:Hp} (x:Bool ⊕ Int):Rep K F (dvP x) (dvV x):=by
 cases x <;> (unfold dvP dvV Rep;rfl)
theorem dv_rep {K:PySem.W.Frag} {F:Hp} {p:PV} {x:Bool ⊕ Int} {v:V} (h:dvOf p=some x) (r:Rep K F p v):v=dvV x∧flat p=true:=by
 cases p <;> first
  | (cases h;done)
  | (cases h;unfold Rep at r;exact ⟨r,rfl⟩)
theorem dc_rd {K:PySem.W.Frag} {F:Hp} {p:PV} {kvs:List (Str×(Bool ⊕ Int))} {v:V} (h:dcOf p=some kvs) (r:Rep K F p v):∃ a,v = .ref a∧Rd F a (.dK (dvK kvs)):=by
 cases p with
 | dct l =>
  cases h
  unfold Rep at r
  obtain ⟨a,o,rfl,e⟩:=r
  exact ⟨a,rfl,.inr ⟨o,e⟩⟩
 | dcw l =>
  cases h
  unfold Rep at r
  obtain ⟨a,_,rfl,e⟩:=r
  exact ⟨a,rfl,e.rd⟩
 | _=>cases h
theorem Qkq (kvs:List (Str×(Bool ⊕ Int))) (k:Str):valV (dvK kvs) (Sum.inr k)=(valD kvs k).map dvV:=by
 unfold valV valD dvK
 induction kvs with
 | nil=>rfl
 | cons p kvs ih =>
  rw [List.map_cons,List.find?_cons,List.find?_cons]
  by_cases c:p.1=k
  ·simp [c]
  ·have c':¬ (Sum.inr p.1:Key)=Sum.inr k:=fun z=>c (Sum.inr.inj z)
   simp only [c,c',decide_false]
   exact ih
theorem any_dv (kvs:List (Str×(Bool ⊕ Int))) (k:Str):((dvK kvs).any fun kv=>decide (kv.1=(Sum.inr k:Key)))=kvs.any fun p=>decide (p.1=k):=by
 unfold dvK
 rw [List.any_map]
 congr 1
 funext p
 show decide ((Sum.inr p.1:Key)=Sum.inr k)=decide (p.1=k)
 exact decide_eq_decide.mpr ⟨Sum.inr.inj,congrArg _⟩
theorem put_dv (kvs:List (Str×(Bool ⊕ Int))) (k:Str) (x:Bool ⊕ Int):dvK (putD kvs k x)=putK (dvK kvs) (Sum.inr k) (dvV x):=by
 unfold putD putK
 rw [any_dv]
 split
 ·unfold dvK
  rw [List.map_map,List.map_map]
  refine List.map_congr_left fun p _ => ?_
  by_cases c:p.1=k
  ·simp [c]
  ·have c':¬ (Sum.inr p.1:Key)=Sum.inr k:=fun z=>c (Sum.inr.inj z)
   simp [c,c']
 ·unfold dvK
  rw [List.map_append]
  rfl
theorem Qlk (kvs:List (Str×(Bool ⊕ Int))):(dvK kvs).length=kvs.length:=by unfold dvK;rw [List.length_map]
def QgX:PV→PV→Option PV
 | .str k,d=>(dcOf d).map fun kvs => .bl (!(valD kvs k).isSome)
 | _,_=>none
def QgA:PV→PV→Option PV
 | d,.str k=>(dcOf d).bind fun kvs=>(valD kvs k).map dvP
 | _,_=>none
def QhM:List PV→Option PV
 | [d]=>(dcOf d).map fun kvs => .int kvs.length
 | _=>none
section
variable {X:Cx} {e a b c i o:Expr} {ms ns:List Nat} {m m1 m2:MEx} {pos:Pos}
theorem QgW {F H:Hp} {a:Addr} {u:HO} (h:Same F H) (e:Rd F a u):Rd H a u:=e.imp (fun z=>h _ _ z) fun ⟨o,z⟩=>⟨o,h _ _ z⟩
theorem one64 {a b:Nat} (h:a + 64 < b):a + 1 < b:=by omega
theorem QlR (hu:X.A.units + 64 < cLine):OpM X (compareOp .NotIn) QgX:=by
 intro pins s σ H x y v u Q I rx ry h
 obtain ⟨F,p,q,r,h1,h2,h3,h4,w⟩:=h
 cases p <;> first
  | (exfalso;cases h4;done)
  | skip
 rename_i k
 obtain ⟨kvs,e1,rfl⟩:=Yp h4
 obtain ⟨a,rfl,rd⟩:=dc_rd e1 h3
 unfold Rep at h2
 subst h2
 cases ry
 refine d_notIn (one64 hu) I (.inl ⟨dvK kvs,Sum.inr k,QgW h1 rd,rfl,rfl⟩) rx fun s3 I3=>⟨.bl _,H,I3,rfl,?_⟩
 rw [Qkq,Option.isSome_map]
 exact w.here h1 (YH _)
theorem QaX (hu:X.A.units + 64 < cLine) (ho:EM X ms o m1) (hi:EM X ns i m2) (hs:NoSl i):EM X (ms++ns) (.Subscript o i pos) (bin2 QgA m1 m2) :=
 PE.imp (pe_dget (one64 hu) ho hi hs) fun σ H Q ⟨F,γ,r,k1,k2,k3,w⟩=>by
  obtain ⟨p,e1,k3⟩:=Qi k3
  obtain ⟨q,e2,k3⟩:=Qi k3
  refine ⟨F,γ,p,k1,k2.left,e1,fun v H1 F1 g1 q1=>⟨F1,γ,q,g1.sub,k2.right.mono g1.ext,e2,fun u H2 F2 g2 q2 => ?_⟩⟩
  cases q <;> first
   | (exfalso;cases k3;done)
   | skip
  rename_i k
  obtain ⟨kvs,e3,k3⟩:=Qi k3
  obtain ⟨x,e4,rfl⟩:=Yp k3
  obtain ⟨a,rfl,rd⟩:=dc_rd e3 (q1.mono g2.ext)
  unfold Rep at q2
  subst q2
  refine ⟨a,dvV x,rfl,.inl ⟨dvK kvs,Sum.inr k,QgW g2.sub rd,rfl,?_⟩,w _ _ _ (g1.trans g2) (rep_dv x)⟩
  rw [Qkq,e4]
  rfl
theorem Qlp:QgD X (.builtin "len") QhM:=by
 intro pins s σ H vs us Q I rs h
 obtain ⟨F,ps,r,h1,h2,h3,w⟩:=h
 unfold QhM at h3
 split at h3
 ·rename_i d
  obtain ⟨kvs,e1,rfl⟩:=Yp h3
  unfold RepL at h2
  obtain ⟨v,t,rfl,h2,ht⟩:=h2
  unfold RepL at ht
  subst ht
  obtain ⟨a,rfl,rd⟩:=dc_rd e1 h2
  obtain ⟨u,rfl,ru⟩:=XH rs
  cases ru
  refine d_len I (QgW h1 rd) fun t s' I'=>⟨.int (dvK kvs).length,H,I',⟨t,rfl⟩,?_⟩
  rw [Qlk]
  exact w.here h1 (ZD _)
 ·cases h3
end
section
variable {X:Cx} {pins:List (Addr×Obj)} {σ:St} {H:Hp} {s:Shared} {a:Addr} {kvs:List (Key×V)}
theorem Inv.freeze (I:Inv X pins σ H s) (e:H a=some (.dK kvs)):∃ o,Inv X pins σ (upd H a (.frz o (.dK kvs))) s:=by
 have ok:=(show YK X.prog X.w H s.heap a (.dK kvs) from I.hok a _ e)
 obtain ⟨z,ns,vs,kv,o,es,ep,h1,h2⟩:=id ok
 have ne:∀ b u,H b=some u→u ≠ .dK kvs→b≠a:=fun b u q d w=>by
  subst w
  rw [e] at q
  exact d (Option.some.inj q).symm
 have st:∀ b u,H b=some u→u ≠ .dK kvs→upd H a (.frz o (.dK kvs)) b=some u:=fun b u q d=>by rw [Qr (ne b u q d)];exact q
 refine ⟨o,I.step (t':=s.toks) (g':=s.gens) (d':=s.drawn) (ch:=[]) (fun _ z=>nomatch z) (fun b o _ _ _ q _=>q) (fun b o _ _ _ q _=>⟨o.slots,q⟩) (fun b u _ _ n => ?_) (fun b o _ q=>⟨o,q⟩)
  (fun b xs q=>st b _ q (fun w=>nomatch w)) (fun b o u q=>st b _ q (fun w=>nomatch w)) (fun b ps q=>⟨#[],by rw [Array.append_empty];exact st b _ q (fun w=>nomatch w)⟩) (fun m q=>q) (fun b u q => ?_) I.bare⟩
 ·rw [Qr (fun w=>by rw [w,e] at n;cases n)]
  exact n
 ·by_cases w:b=a
  ·subst w
   rw [Qq] at q
   cases q
   exact ⟨h1,ok⟩
  ·rw [Qr w] at q
   exact (I.hok b u q).stay (fun c v _ r=>r) (fun c r=>st c _ r (fun w=>nomatch w)) fun c xs r=>st c _ r (fun w=>nomatch w)
end
section
variable {K:PySem.W.Frag} {B F₀ F F' H H':Hp} {σ:St} {γ:PEnv} {a:Addr}
theorem ZS {γ:PEnv} {i j:Nat} {t u:Slot} (h:(γ.set i t)[j]?=some u):(i=j∧u=t∧i < γ.length)∨(i≠j∧γ[j]?=some u):=by
 by_cases e:i=j
 ·subst e
  by_cases hi:i < γ.length
  ·rw [List.getElem?_set_self hi] at h
   exact .inl ⟨rfl,(Option.some.inj h).symm,hi⟩
  ·rw [List.getElem?_eq_none (by simpa using hi)] at h;cases h
 ·rw [List.getElem?_set_ne e] at h
  exact .inr ⟨e,h⟩
theorem SR.setOd (S:SR K B F₀ F σ H γ) (i:Nat) {kvs:List (Str×(Bool ⊕ Int))} (hH:H a=some (.dK (dvK kvs))) (nF:F a=none) (nB:B a=none)
  (nd:∀ (j:Nat) lvs,i≠j→γ[j]?=some (.od lvs)→σ[j]?≠some (some (.ref a))):SR K B F₀ F (σ.set i (some (.ref a))) H (γ.set i (.od kvs)):=by
 refine ⟨S.sub,S.base,S.f0,S.fb,by simpa using S.len,fun j q e => ?_,fun j ys e => ?_,fun j k ys zs c hjk e1 e2 e3 => ?_,⟨fun j ls e => ?_,fun j k ks ls c hjk e1 e2 e3 e4 => ?_⟩⟩
 ·rcases ZS e with ⟨_,z,_⟩ | ⟨n,e⟩
  ·cases z
  ·rw [List.getElem?_set_ne n];exact S.fz j q e
 ·rcases ZS e with ⟨_,z,_⟩ | ⟨n,e⟩
  ·cases z
  ·rw [List.getElem?_set_ne n];exact S.ow j ys e
 ·rcases ZS e1 with ⟨_,z,_⟩ | ⟨n1,e1⟩
  ·cases z
  ·rcases ZS e2 with ⟨_,z,_⟩ | ⟨n2,e2⟩
   ·cases z
   ·rw [List.getElem?_set_ne n1] at e3
    rw [List.getElem?_set_ne n2]
    exact S.dj j k ys zs c hjk e1 e2 e3
 ·rcases ZS e with ⟨rfl,z,hi⟩ | ⟨n,e⟩
  ·cases z
   exact ⟨a,by rw [List.getElem?_set_self (by rw [S.len];exact hi)],hH,nF,nB⟩
  ·rw [List.getElem?_set_ne n];exact S.dq.at_ j ls e
 ·rcases ZS e1 with ⟨rfl,z1,hi⟩ | ⟨n1,e1⟩
  ·rw [List.getElem?_set_self (by rw [S.len];exact hi)] at e3
   cases e3
   rcases ZS e2 with ⟨z,_,_⟩ | ⟨n2,e2⟩
   ·exact hjk z
   ·rw [List.getElem?_set_ne n2] at e4
    exact nd k ls n2 e2 e4
  ·rw [List.getElem?_set_ne n1] at e3
   rcases ZS e2 with ⟨rfl,z,hi⟩ | ⟨n2,e2⟩
   ·rw [List.getElem?_set_self (by rw [S.len];exact hi)] at e4
    cases e4
    exact nd j ks n1 e1 e3
   ·rw [List.getElem?_set_ne n2] at e4
    exact S.dq.dj j k ks ls c hjk e1 e2 e3 e4
theorem SR.writeD (S:SR K B F₀ F σ H γ) {i:Nat} {kvs lvs:List (Str×(Bool ⊕ Int))} (hi:γ[i]?=some (.od kvs)) (ha:σ[i]?=some (some (.ref a))) :
  SR K B F₀ F σ (upd H a (.dK (dvK lvs))) (γ.set i (.od lvs)):=by
 obtain ⟨a',h1,h2,h4,h5⟩:=S.dq.at_ i kvs hi
 rw [ha] at h1
 cases h1
 have hil:i < γ.length:=(List.getElem?_eq_some_iff.mp hi).1
 have stay:∀ b o,H b=some o→b≠a→upd H a (.dK (dvK lvs)) b=some o:=fun b o e n=>by rw [Qr n];exact e
 refine ⟨fun b o e=>stay b o (S.sub b o e) (Qs e h4),fun b o e=>stay b o (S.base b o e) (Qs e h5),S.f0,S.fb,by simpa using S.len,fun j q e => ?_,fun j zs e => ?_,fun j k ws zs c hjk e1 e2 e3 => ?_,⟨fun j ls e => ?_,fun j k ks ls c hjk e1 e2 e3 => ?_⟩⟩
 ·rcases ZS e with ⟨_,z,_⟩ | ⟨n,e⟩
  ·cases z
  ·exact S.fz j q e
 ·rcases ZS e with ⟨_,z,_⟩ | ⟨n,e⟩
  ·cases z
  ·obtain ⟨b,ts,k1,k2,k3⟩:=S.ow j zs e
   exact ⟨b,ts,k1,stay _ _ k2 (QhU k2 h2 (fun w=>nomatch w)),k3⟩
 ·rcases ZS e1 with ⟨_,z,_⟩ | ⟨n1,e1⟩
  ·cases z
  ·rcases ZS e2 with ⟨_,z,_⟩ | ⟨n2,e2⟩
   ·cases z
   ·exact S.dj j k ws zs c hjk e1 e2 e3
 ·rcases ZS e with ⟨rfl,z,_⟩ | ⟨n,e⟩
  ·cases z
   exact ⟨a,ha,Qq,h4,h5⟩
  ·obtain ⟨b,k1,k2,k3⟩:=S.dq.at_ j ls e
   have hb:b≠a:=fun w=>by
    subst w
    exact S.dq.dj i j kvs ls b n hi e ha k1
   exact ⟨b,k1,stay _ _ k2 hb,k3⟩
 ·have f:∀ (n:Nat) ls,(γ.set i (.od lvs))[n]?=some (.od ls)→∃ ls',γ[n]?=some (.od ls'):=fun n ls q=>by
   rcases ZS q with ⟨rfl,_,_⟩ | ⟨_,q⟩
   ·exact ⟨kvs,hi⟩
   ·exact ⟨ls,q⟩
  obtain ⟨ks',e1⟩:=f j ks e1
  obtain ⟨ls',e2⟩:=f k ls e2
  exact S.dq.dj j k _ _ c hjk e1 e2 e3
theorem SR.exact (S:SR K B F₀ F σ H γ) {i:Nat} {kvs:List (Str×(Bool ⊕ Int))} (hi:γ[i]?=some (.od kvs)) (ha:σ[i]?=some (some (.ref a))) (o:Obj) :
  SR K B F₀ (upd F a (.frz o (.dK (dvK kvs)))) σ (upd H a (.frz o (.dK (dvK kvs)))) (γ.set i (.fz (.dct kvs))):=by
 obtain ⟨a',h1,h2,h4,h5⟩:=S.dq.at_ i kvs hi
 rw [ha] at h1
 cases h1
 have hil:i < γ.length:=(List.getElem?_eq_some_iff.mp hi).1
 have gx:Same F (upd F a (.frz o (.dK (dvK kvs)))):=fun b u q=>by rw [Qr (Qs q h4)];exact q
 have stay:∀ b u,H b=some u→b≠a→upd H a (.frz o (.dK (dvK kvs))) b=some u:=fun b u e n=>by rw [Qr n];exact e
 refine ⟨fun b u e => ?_,fun b u e=>stay b u (S.base b u e) (Qs e h5),S.f0.trans gx,fun b u e => ?_,by simpa using S.len,fun j q e => ?_,fun j zs e => ?_,fun j k ws zs c hjk e1 e2 e3 => ?_,⟨fun j ls e => ?_,fun j k ks ls c hjk e1 e2 e3 => ?_⟩⟩
 ·by_cases z:b=a
  ·subst z;rw [Qq] at e ⊢;exact e
  ·rw [Qr z] at e;exact stay b u (S.sub b u e) z
 ·by_cases z:b=a
  ·subst z;exact .inr h5
  ·rw [Qr z] at e;exact S.fb b u e
 ·rcases ZS e with ⟨rfl,z,_⟩ | ⟨n,e⟩
  ·cases z
   refine ⟨.ref a,ha,?_⟩
   unfold Rep
   exact ⟨a,o,rfl,Qq⟩
  ·obtain ⟨v,k1,k2⟩:=S.fz j q e
   exact ⟨v,k1,k2.mono gx⟩
 ·rcases ZS e with ⟨_,z,_⟩ | ⟨n,e⟩
  ·cases z
  ·obtain ⟨b,ts,k1,k2,k3,k4,k5⟩:=S.ow j zs e
   have hb:=QhU k2 h2 (fun w=>nomatch w)
   exact ⟨b,ts,k1,stay _ _ k2 hb,k3.mono gx,by rw [Qr hb];exact k4,k5⟩
 ·rcases ZS e1 with ⟨_,z,_⟩ | ⟨n1,e1⟩
  ·cases z
  ·rcases ZS e2 with ⟨_,z,_⟩ | ⟨n2,e2⟩
   ·cases z
   ·exact S.dj j k ws zs c hjk e1 e2 e3
 ·rcases ZS e with ⟨_,z,_⟩ | ⟨n,e⟩
  ·cases z
  ·obtain ⟨b,k1,k2,k3,k4⟩:=S.dq.at_ j ls e
   have hb:b≠a:=fun w=>by
    subst w
    exact S.dq.dj i j kvs ls b n hi e ha k1
   exact ⟨b,k1,stay _ _ k2 hb,by rw [Qr hb];exact k3,k4⟩
 ·rcases ZS e1 with ⟨_,z,_⟩ | ⟨n1,e1⟩
  ·cases z
  ·rcases ZS e2 with ⟨_,z,_⟩ | ⟨n2,e2⟩
   ·cases z
   ·exact S.dq.dj j k ks ls c hjk e1 e2 e3
end
section
variable {X:Cx} {e k v:Expr} {st:Stmt} {ms ns:List Nat} {m mk mv:MEx} {s1:MSt} {pos p2 spos:Pos}
def QjO (i:Nat):MSt:=fun γ=>some (.nx (γ.set i (.od [])))
theorem QgT {i:Nat} {x:Str} {dpos:Pos} (hN:X.N.Nodup) (hi:X.N[i]?=some x) (hx:Loc X.env.scope x) (hs:swapsWith (.Dict [] [] dpos) (some (.Name x p2)) pos.line X.env=pure false:=by rfl) (hf:X.fn x=true∨X.env.scope.names.lookup x=some .local:=by first | exact .inl rfl | exact .inr rfl | assumption) :
  SM X (.Assign [.Name x p2] (.Dict [] [] dpos) pos) (QjO i):=PS.imp (Qkd hN hi hx pe_dnewK hs hf) fun D σ H ⟨B,F₀,F,γ,o,S,e,ok⟩=>by
 cases e
 intro p hp
 have gs:Same H (upd H p (.dK [])):=fun b u q=>by rw [Qr (Qs q hp)];exact q
 have nF:F p=none:=by
  cases q:F p with
  | none=>rfl
  | some u=>rw [S.sub p u q] at hp;cases hp
 have nB:B p=none:=by
  cases q:B p with
  | none=>rfl
  | some u=>rw [S.base p u q] at hp;cases hp
 refine ok _ _ F ((S.same gs).setOd i (kvs:=[]) Qq nF nB fun j lvs hij e z => ?_)
 obtain ⟨a,k1,k2,_⟩:=S.dq.at_ j lvs e
 rw [z] at k1
 cases k1
 rw [hp] at k2
 cases k2
def QjW (i:Nat) (γ:PEnv) (k v:PV):Option Slot→Option Out
 | some (.od kvs)=>match k,dvOf v with
  | .str s,some x=>if kvs.length≤1000 then some (.nx (γ.set i (.od (putD kvs s x)))) else none
  | _,_=>none
 | _=>none
def QhH (i:Nat) (mk mv:MEx):MSt:=fun γ=>(mv γ).bind fun v=>(mk γ).bind fun k=>QjW i γ k v γ[i]?
theorem QeJ {i:Nat} {d:Str} {dpos:Pos} (hu:X.A.units + 64 < cLine) (hd:PE X (.Name d dpos) (tVar i)) (hk:EM X ns k mk) (hv:EM X ms v mv) (hs:swapsWith v (some (.Subscript (.Name d dpos) k spos)) pos.line X.env=pure false:=by rfl) :
  SM X (.Assign [.Subscript (.Name d dpos) k spos] v pos) (QhH i mk mv):=PS.imp (ps_dput (one64 hu) hd hk hv hs) fun D σ H ⟨B,F₀,F,γ,o,S,e,ok⟩=>by
 obtain ⟨p,e1,e⟩:=Qi e
 obtain ⟨q,e2,e⟩:=Qi e
 unfold QjW at e
 split at e
 ·rename_i kvs hi
  split at e
  ·rename_i t x hx
   obtain ⟨c,rfl⟩:=Qz e
   obtain ⟨F1,S1,x1,er⟩:=S.see ms
   refine ⟨F1,γ,p,S1.sub,er,e1,fun vv H1 F2 g q1 => ?_⟩
   obtain ⟨rfl,fl⟩:=dv_rep hx q1
   obtain ⟨F3,S3,_⟩:=S.val S1 g q1
   rw [fl] at S3
   have S3:SR X.K B F₀ F3 σ H1 γ:=S3
   obtain ⟨a,k1,_⟩:=S3.dq.at_ i kvs hi
   refine ⟨.ref a,k1,?_⟩
   obtain ⟨F4,S4,x4,er4⟩:=S3.see ns
   refine ⟨F4,γ,.str t,S4.sub,er4,e2,fun yy H2 F5 g2 q2 => ?_⟩
   obtain ⟨F6,S6,_⟩:=S3.val S4 g2 q2
   have S6:SR X.K B F₀ F6 σ H2 γ:=S6
   unfold Rep at q2
   subst q2
   obtain ⟨a',k1',k2',_⟩:=S6.dq.at_ i kvs hi
   rw [k1] at k1'
   cases k1'
   refine ⟨a,_,rfl,DPut.k (k:=Sum.inr t) k2' (by rw [Qlk];exact Nat.lt_of_le_of_lt c (by decide)),?_⟩
   rw [← put_dv]
   exact ok _ _ F6 (S6.writeD hi k1)
  ·cases e
 ·cases e
def sEx (i:Nat) (s1:MSt):MSt:=fun γ=>match γ[i]? with
 | some (.od kvs)=>s1 (γ.set i (.fz (.dct kvs)))
 | _=>s1 γ
theorem QcR (i:Nat) (h:SM X st s1):SM X st (sEx i s1):=fun pins s σ H D I ⟨B,F₀,F,γ,o,S,e,ok⟩=>by
 unfold sEx at e
 split at e
 ·rename_i kvs hi
  obtain ⟨a,k1,k2,_⟩:=S.dq.at_ i kvs hi
  obtain ⟨ob,I'⟩:=Inv.freeze I k2
  exact h pins s σ _ D I' ⟨B,F₀,_,_,o,S.exact hi k1 ob,e,ok⟩
 ·exact h pins s σ H D I ⟨B,F₀,F,γ,o,S,e,ok⟩
end
def revS (x:Str):Str:=⟨((Builtin.Str.strSliceIndices none none (-1) x.length).filterMap (x.cps[·]?)).toArray⟩
def pRvS:PV→Option PV
 | .str x=>if x.length≤LIM∧(revS x).length≤LIM then some (.str (revS x)) else none
 | _=>none
section
variable {X:Cx} {e st:Expr} {ms ns:List Nat} {m mst:MEx} {p2 pos:Pos}
theorem rv_str:RvR X (fun x H Q=>∃ z,x = .str z∧(revS z).length≤sizeLine∧Q (.str (revS z)) H):=by
 intro pins s σ H x v sl u Q I rx hs h
 obtain ⟨z,rfl,hz,q⟩:=h
 obtain ⟨t,rfl⟩:=rx
 refine ⟨"str",_,PySem.F.slot_str_getitem.lookup,typeIs_str _ _ _,wpAny_getItem_str_slice (l:=none) (u:=none) (st:=some (-1,u)) hs rfl ?_⟩
 show (Made.str (revS z)).post _ s
 exact ⟨hz,⟨.str _,H,I.tok _,⟨_,rfl⟩,q⟩⟩
theorem em_revS (he:EM X ms e m) (hst:EM X [] st mst) (hm:∀ γ,mst γ=some (.int (-1))):EM X ms (.Subscript e (.Slice none none (some st) p2) pos) (un1 pRvS m) :=
 PE.imp (pe_rev rv_str he hst) fun σ H Q ⟨F,γ,r,h1,h2,h3,w⟩=>by
  obtain ⟨x,e1,h3⟩:=Qi h3
  refine ⟨F,γ,x,h1,h2,e1,fun vx H1 F1 g1 r1=>⟨F1,γ,_,g1.sub,(fun i hi=>by cases hi),hm γ,fun v2 H2 F2 g2 r2=>⟨by unfold Rep at r2;exact r2,?_⟩⟩⟩
  cases x with
  | str z =>
   have h3:(if z.length≤LIM∧(revS z).length≤LIM then some (PV.str (revS z)) else none)=some r:=h3
   obtain ⟨⟨c1,c2⟩,rfl⟩:=Qz h3
   unfold Rep at r1
   exact ⟨z,r1,Nat.le_trans c2 Zx,(w.go (g1.trans g2)).here g2.sub (Qak _)⟩
  | _=>cases h3
end
theorem fn_none {P:Program} {w:World} {K:PySem.W.Frag} {mg:Str→Option Value} {base:Heap} {k n:Nat} {f:Addr} {fd:FuncData} {ps:List Str} (h:ps.length=n):FnOk P w K mg base CX0 k f fd ps (spM K n fun _=>none) :=
 ⟨fun vs H Q E q=>by rw [q.1,h],fun A outer s H args us vs Q E _ _ _ _ q=>by
  obtain ⟨_,F,qs,r,_,_,h3,_⟩:=q
  cases h3⟩
theorem QjJ {i j:Int} (h1 : -(2 ^ 64) < j) (h2:j < 2 ^ 64):cMul i j=true:=by
 unfold cMul
 rw [Bool.or_eq_true]
 exact .inr (QfO ⟨h1,h2⟩)
theorem Qmu {i j:Int} (h1 : -(2 ^ 64) < i) (h2:i < 2 ^ 64):cMul i j=true:=by
 unfold cMul
 rw [Bool.or_eq_true]
 exact .inl (QfO ⟨h1,h2⟩)
theorem pAdd_i (i j:Int):pAdd (.int i) (.int j)=some (.int (i + j)):=rfl
theorem pSub_i (i j:Int):pSub (.int i) (.int j)=some (.int (i - j)):=rfl
theorem pMul_l {i j:Int} (h1 : -(2 ^ 64) < i) (h2:i < 2 ^ 64):pMul (.int i) (.int j)=some (.int (i * j)):=if_pos (Qmu h1 h2)
theorem pMul_r {i j:Int} (h1 : -(2 ^ 64) < j) (h2:j < 2 ^ 64):pMul (.int i) (.int j)=some (.int (i * j)):=if_pos (QjJ h1 h2)
theorem pMod_i {i j:Int} (h:0 < j):pMod (.int i) (.int j)=some (.int (i % j)):=if_pos (decide_eq_true h)
theorem pDiv_i {i j:Int} (h:0 < j) (h2:j < 2 ^ 200):pDiv (.int i) (.int j)=some (.int (i / j)):=if_pos (QfO ⟨h,h2⟩)
theorem pLt_i (i j:Int):pLt (.int i) (.int j)=some (.bl (decide (i < j))):=rfl
theorem pLe_i (i j:Int):pLe (.int i) (.int j)=some (.bl (decide (i≤j))):=rfl
theorem pGt_i (i j:Int):pGt (.int i) (.int j)=some (.bl (decide (j < i))):=rfl
theorem Qdj (i:Int):okv (.int i)=true:=by simp [okv,dep,okS]
theorem QaW {s:Str} (h:PyData.strOk s=true):okv (.str s)=true:=by simp [okv,dep,okS,h]
theorem Qkf {p q:PV} (h1:okv p=true) (h2:okv q=true):pEq p q=some (.bl (peq p q)):=if_pos ⟨h1,h2⟩
theorem pNe_ok {p q:PV} (h1:okv p=true) (h2:okv q=true):pNe p q=some (.bl (!peq p q)):=if_pos ⟨h1,h2⟩
theorem pEq_i (i j:Int):pEq (.int i) (.int j)=some (.bl (i==j)):=by rw [Qkf (Qdj i) (Qdj j)];rfl
theorem pNe_i (i j:Int):pNe (.int i) (.int j)=some (.bl (!(i==j))):=by rw [pNe_ok (Qdj i) (Qdj j)];rfl
theorem Xf {n:Nat} (h:n≤100000):n≤LIM:=Nat.le_trans h (by decide)
theorem Qhr {n:Nat} (h:n≤100000):n < LIM:=Nat.lt_of_le_of_lt h (by decide)
theorem keepE_true (ms:List Nat) (γ:PEnv):Zt true ms γ=γ:=rfl
theorem keepE_false (ms:List Nat) (γ:PEnv):Zt false ms γ=frz ms γ:=rfl
theorem flat_int (i:Int):flat (.int i)=true:=rfl
theorem flat_bl (i:Bool):flat (.bl i)=true:=rfl
theorem flat_str (i:Str):flat (.str i)=true:=rfl
theorem flat_non:flat .non=true:=rfl
theorem flat_tup (i:List PV):flat (.tup i)=false:=rfl
theorem flat_lst (i:List PV):flat (.lst i)=false:=rfl
theorem allflat_ints (ns:List Int):(ns.map PV.int).all flat=true:=by simp [flat]
theorem allflat_strs (ns:List Str):(ns.map PV.str).all flat=true:=by simp [flat]
theorem pIx_lst (xs:List PV) (i:Int):pIx (.lst xs) (.int i)=atI xs i:=rfl
theorem pIx_tup (xs:List PV) (i:Int):pIx (.tup xs) (.int i)=atI xs i:=rfl
theorem Qax {α:Type} {g:PV→PEnv→Option PEnv} {t:PEnv→Option Bool} {e:MEx} {γ:PEnv} (f:α→PV) (b:α→Bool) (y:α→PV) :
  ∀ (xs:List α),(∀ x∈xs,∃ γ1,g (f x) γ=some γ1∧t γ1=some (b x)∧(b x=true→e γ1=some (y x)))→QbT g t e γ (xs.map f)=some ((xs.filter b).map y)
 | [],_=>rfl
 | x :: xs,h=>by
  obtain ⟨γ1,h1,h2,h3⟩:=h x List.mem_cons_self
  have ih:=Qax f b y xs fun z hz=>h z (List.mem_cons_of_mem _ hz)
  rw [List.map_cons,QbT,h1,Option.bind_some,h2,Option.bind_some]
  cases hb:b x with
  | true =>
   rw [if_pos rfl,h3 hb,Option.bind_some,ih,List.filter_cons_of_pos hb]
   rfl
  | false =>
   rw [if_neg Bool.false_ne_true,ih,List.filter_cons_of_neg (by simp [hb])]
theorem YA {α:Type} {g:PV→PEnv→Option PEnv} {e:MEx} {γ:PEnv} (f:α→PV) (y:α→PV) (xs:List α) (h:∀ x∈xs,∃ γ1,g (f x) γ=some γ1∧e γ1=some (y x)):QbT g Qaq e γ (xs.map f)=some (xs.map y):=by
 have:=Qax (g:=g) (t:=Qaq) (e:=e) (γ:=γ) f (fun _=>true) y xs fun x hx=>by
  obtain ⟨γ1,h1,h2⟩:=h x hx
  exact ⟨γ1,h1,rfl,fun _=>h2⟩
 rw [this,List.filter_eq_self.mpr (fun _ _=>rfl)]
theorem Zy {α:Type} {g:PV→PEnv→Option PEnv} {b:MSt} (f:α→PV) (R:List α→PEnv→Prop) (xs:List α) :
  ∀ (ys pre:List α) (γ:PEnv),pre++ys=xs→R pre γ→(∀ pre x post γ,pre++x :: post=xs→R pre γ→∃ γ1 γ2,g (f x) γ=some γ1∧b γ1=some (.nx γ2)∧R (pre++[x]) γ2)→∃ γ',forL g b (ys.map f) γ=some (.nx γ')∧R xs γ'
 | [],pre,γ,e,r,_=>by
  rw [List.append_nil] at e
  subst e
  exact ⟨γ,rfl,r⟩
 | x :: ys,pre,γ,e,r,h=>by
  obtain ⟨γ1,γ2,h1,h2,h3⟩:=h pre x ys γ e r
  obtain ⟨γ',e',r'⟩:=Zy f R xs ys (pre++[x]) γ2 (by rw [List.append_assoc];exact e) h3 h
  refine ⟨γ',?_,r'⟩
  rw [List.map_cons,forL,h1,Option.bind_some,h2,Option.bind_some]
  exact e'
def pw (row:List Nat):Nat:=(row.map fun i=>2 ^ i).sum
theorem rngL_0 (j:Int):rngL 0 j=(List.range j.toNat).map fun (k:Nat)=>PV.int k:=by
 unfold rngL
 rw [show (j - 0)=j by omega]
 exact List.map_congr_left fun k _=>by simp
def rg1:PV→Option (List PV)
 | .int j=>if rOk j=true then some (rngL 0 j) else none
 | _=>none
theorem rg1_i {j:Int} (h1 : -100000≤j) (h2:j≤100000):rg1 (.int j)=some ((List.range j.toNat).map fun (k:Nat)=>PV.int k):=by
 have e:rg1 (.int j)=if rOk j=true then some (rngL 0 j) else none:=rfl
 rw [e,if_pos (rOk_of (by omega) (by omega)),rngL_0]
theorem ev_iRg1 (m:MEx) (γ:PEnv):iRg1 m γ=(m γ).bind rg1:=by
 unfold iRg1
 cases m γ with
 | none=>rfl
 | some p=>cases p <;> rfl
def itL:PV→Option (List PV)
 | .lst xs=>some xs
 | _=>none
theorem itL_l (xs:List PV):itL (.lst xs)=some xs:=rfl
theorem ev_iLst (m:MEx) (γ:PEnv):iLst m γ=(m γ).bind itL:=by
 unfold iLst
 cases m γ with
 | none=>rfl
 | some p=>cases p <;> rfl
def itT:PV→Option (List PV)
 | .tup xs=>some xs
 | _=>none
theorem itT_t (xs:List PV):itT (.tup xs)=some xs:=rfl
theorem ev_iTpl (m:MEx) (γ:PEnv):iTpl m γ=(m γ).bind itT:=by
 unfold iTpl
 cases m γ with
 | none=>rfl
 | some p=>cases p <;> rfl
def itS:PV→Option (List PV)
 | .lst xs=>some xs
 | .tup xs=>some xs
 | _=>none
theorem itS_l (xs:List PV):itS (.lst xs)=some xs:=rfl
theorem itS_t (xs:List PV):itS (.tup xs)=some xs:=rfl
theorem ev_iSeq (m:MEx) (γ:PEnv):iSeq m γ=(m γ).bind itS:=by
 unfold iSeq
 cases m γ with
 | none=>rfl
 | some p=>cases p <;> rfl
theorem pEnum_l (xs:List PV):QfE [.lst xs]=some (xs.zipIdx.map fun x => .tup [pN x.2,x.1]):=rfl
theorem pEnum_t (xs:List PV):pEnumT [.tup xs]=some (xs.zipIdx.map fun x => .tup [pN x.2,x.1]):=rfl
def cmpK (g:PV→PEnv→Option PEnv) (t:PEnv→Option Bool) (e:MEx) (γ:PEnv) (xs:List PV):Option (List PV):=if xs.length≤LIM then QbT g t e γ xs else none
theorem cmpK_ok {g:PV→PEnv→Option PEnv} {t:PEnv→Option Bool} {e:MEx} {γ:PEnv} {xs:List PV} (h:xs.length≤100000):cmpK g t e γ xs=QbT g t e γ xs:=if_pos (Xf h)
theorem ev_mComp (mi:PEnv→Option (List PV)) (nt:Nat) (caps:List Nat) (g:PV→PEnv→Option PEnv) (t:PEnv→Option Bool) (e:MEx) (γ:PEnv):XD mi nt caps g t e γ=(mi γ).bind (cmpK g t e (blkG nt caps γ)):=rfl
def seqK (s2:MSt):Out→Option Out
 | .nx γ=>s2 γ
 | o=>some o
theorem seqK_nx (s2:MSt) (γ:PEnv):seqK s2 (.nx γ)=s2 γ:=rfl
theorem seqK_rt (s2:MSt) (p:PV):seqK s2 (.rt p)=some (.rt p):=rfl
theorem seqK_ro (s2:MSt) (p:List PV):seqK s2 (.ro p)=some (.ro p):=rfl
theorem seqK_ct (s2:MSt) (γ:PEnv):seqK s2 (.ct γ)=some (.ct γ):=rfl
theorem seqK_bk (s2:MSt) (γ:PEnv):seqK s2 (.bk γ)=some (.bk γ):=rfl
theorem ev_sSeq (s1 s2:MSt) (γ:PEnv):sSeq s1 s2 γ=(s1 γ).bind (seqK s2):=by
 unfold sSeq
 cases s1 γ with
 | none=>rfl
 | some o=>cases o <;> rfl
theorem ev_startG1 (N:Nat) (ps:List PV):YX N ps=ps.map .fz++List.replicate (N - ps.length) .un:=rfl
theorem outV_rt (p:PV):outV (.rt p)=some p:=rfl
theorem outV_ro (xs:List PV):outV (.ro xs)=some (.lst xs):=rfl
theorem outV_nx (γ:PEnv):outV (.nx γ)=some .non:=rfl
theorem ev_bin2 {α:Type} (f:PV→PV→Option α) (m1 m2:MEx) (γ:PEnv):bin2 f m1 m2 γ=(m1 γ).bind fun x=>(m2 γ).bind (f x):=rfl
theorem ev_mVar (i:Nat) (γ:PEnv):mVar i γ=getV γ i:=rfl
theorem ev_mC (p:PV) (γ:PEnv):mC p γ=some p:=rfl
theorem ev_mCall {α:Type} (g:List PV→Option α) (ma:PEnv→Option (List PV)) (γ:PEnv):Qj g ma γ=(ma γ).bind g:=rfl
theorem ev_mLst (m:PEnv→Option (List PV)) (γ:PEnv):mLst m γ=(m γ).map PV.lst:=rfl
def tupK (xs:List PV):Option PV:=if xs.length≤LIM then some (.tup xs) else none
theorem tupK_ok {xs:List PV} (h:xs.length≤100000):tupK xs=some (.tup xs):=if_pos (Xf h)
theorem ev_mTup (m:PEnv→Option (List PV)) (γ:PEnv):mTup m γ=(m γ).bind tupK:=rfl
def limK (xs:List PV):Option (List PV):=if xs.length≤LIM then some xs else none
theorem limK_ok {xs:List PV} (h:xs.length≤100000):limK xs=some xs:=if_pos (Xf h)
theorem ev_mLim (m:PEnv→Option (List PV)) (γ:PEnv):mLim m γ=(m γ).bind limK:=rfl
theorem ev_aNil (γ:PEnv):aNil γ=some []:=rfl
theorem ev_aCons (m:MEx) (ma:PEnv→Option (List PV)) (γ:PEnv):Qc m ma γ=(m γ).bind fun x=>(ma γ).map (x :: ·):=rfl
theorem isB_bl (b:Bool):isB (.bl b)=some b:=rfl
theorem ev_truB (m:MEx) (γ:PEnv):truB m γ=(m γ).bind isB:=rfl
theorem ev_mIsi (f:PV→Bool) (m:MEx) (γ:PEnv):mIsi f m γ=(m γ).bind (isiK f):=rfl
theorem isiK_i (f:PV→Bool) (i:Int):isiK f (.int i)=some (.bl (f (.int i))):=rfl
theorem isiK_b (f:PV→Bool) (i:Bool):isiK f (.bl i)=some (.bl (f (.bl i))):=rfl
theorem isiK_s (f:PV→Bool) (i:Str):isiK f (.str i)=some (.bl (f (.str i))):=rfl
theorem isiK_t (f:PV→Bool) (i:List PV):isiK f (.tup i)=some (.bl (f (.tup i))):=rfl
theorem isiK_l (f:PV→Bool) (i:List PV):isiK f (.lst i)=some (.bl (f (.lst i))):=rfl
theorem isiK_0 (f:PV→Bool):isiK f .non=some (.bl (f .non)):=rfl
theorem isiK_n (f:PV→Bool) (i:Nat):isiK f (pN i)=some (.bl (f (pN i))):=rfl
theorem getV_0 (s:Slot) (γ:PEnv):getV (s :: γ) 0=s.val:=rfl
theorem getV_s (s:Slot) (γ:PEnv) (i:Nat):getV (s :: γ) (i + 1)=getV γ i:=rfl
theorem val_fz (p:PV):(Slot.fz p).val=some p:=rfl
theorem val_ow (p:List PV):(Slot.ow p).val=some (.lst p):=rfl
def keep (k:Bool) (ms:List Nat) (γ:PEnv):PEnv:=Zt k ms γ
theorem ev_sRet (m:MEx) (γ:PEnv):sRet m γ=(m γ).map .rt:=rfl
theorem ev_sRetO (m:PEnv→Option (List PV)) (γ:PEnv):sRetO m γ=(m γ).map .ro:=rfl
def retS:Option Slot→Option Out
 | some (.ow xs)=>some (.ro xs)
 | some (.fz p)=>some (.rt p)
 | _=>none
theorem retS_ow (xs:List PV):retS (some (.ow xs))=some (.ro xs):=rfl
theorem retS_fz (p:PV):retS (some (.fz p))=some (.rt p):=rfl
theorem ev_sRetV (i:Nat) (γ:PEnv):QbS i γ=retS γ[i]?:=by
 unfold QbS
 cases γ[i]? with
 | none=>rfl
 | some s=>cases s <;> rfl
def ifK (s1 s2:MSt) (γ:PEnv) (k:Bool):Option Out:=if k=true then s1 γ else s2 γ
theorem ifK_t (s1 s2:MSt) (γ:PEnv):ifK s1 s2 γ true=s1 γ:=rfl
theorem ifK_f (s1 s2:MSt) (γ:PEnv):ifK s1 s2 γ false=s2 γ:=rfl
theorem ev_sIf (t:PEnv→Option Bool) (s1 s2:MSt) (γ:PEnv):sIf t s1 s2 γ=(t γ).bind (ifK s1 s2 γ):=rfl
theorem ev_sNx (γ:PEnv):sNx γ=some (.nx γ):=rfl
theorem ev_sBk (γ:PEnv):sBk γ=some (.bk γ):=rfl
theorem ev_sCt (γ:PEnv):sCt γ=some (.ct γ):=rfl
theorem ev_sSet (ms:List Nat) (i:Nat) (m:MEx) (γ:PEnv):sSet ms i m γ=(m γ).map fun r => .nx ((Zt (flat r) ms γ).set i (.fz r)):=rfl
theorem ev_sSetO (ms:List Nat) (i:Nat) (m:PEnv→Option (List PV)) (γ:PEnv):ZB ms i m γ=(m γ).map fun xs => .nx ((Zt (xs.all flat) ms γ).set i (.ow xs)):=rfl
theorem ev_gSet (i:Nat) (p:PV) (γ:PEnv):gSet i p γ=some (γ.set i (.fz p)):=rfl
theorem gSet2_t (i j:Nat) (x y:PV) (γ:PEnv):QgB i j (.tup [x,y]) γ=some ((γ.set i (.fz x)).set j (.fz y)):=rfl
theorem gSet3_t (i j k:Nat) (x y z:PV) (γ:PEnv):gSet3 i j k (.tup [x,y,z]) γ=some (((γ.set i (.fz x)).set j (.fz y)).set k (.fz z)):=rfl
def appK (ms:List Nat) (i:Nat) (γ:PEnv) (r:PV):Option Slot→Option Out
 | some (.ow xs)=>if xs.length < LIM∧(flat r || !ms.contains i)=true then some (.nx ((Zt (flat r) ms γ).set i (.ow (xs++[r])))) else none
 | _=>none
theorem XT {ms:List Nat} {i:Nat} {γ:PEnv} {r:PV} {xs:List PV} (h:xs.length≤100000) (h2:(flat r || !ms.contains i)=true):appK ms i γ r (some (.ow xs))=some (.nx ((Zt (flat r) ms γ).set i (.ow (xs++[r])))):=if_pos ⟨Qhr h,h2⟩
theorem ev_sApp (ms:List Nat) (i:Nat) (m:MEx) (γ:PEnv):sApp ms i m γ=(m γ).bind fun r=>appK ms i γ r γ[i]?:=by
 unfold sApp
 cases γ[i]? with
 | none=>cases m γ <;> rfl
 | some s =>
  cases s with
  | ow xs=>rfl
  | _=>cases m γ <;> rfl
def sixK (ms:List Nat) (i:Nat) (γ:PEnv) (r k:PV):Option Slot→Option Out
 | some (.ow xs)=>match k with
  | .int j=>(ixN xs.length j).bind fun n=>if (flat r || !ms.contains i)=true then some (.nx ((Zt (flat r) ms γ).set i (.ow (xs.set n r)))) else none
  | _=>none
 | _=>none
theorem sixK_ow {ms:List Nat} {i:Nat} {γ:PEnv} {r:PV} {xs:List PV} {j:Int} (h0:0≤j) (h1:j < xs.length) (h2:(flat r || !ms.contains i)=true):sixK ms i γ r (.int j) (some (.ow xs))=some (.nx ((Zt (flat r) ms γ).set i (.ow (xs.set j.toNat r)))):=by
 show ((ixN xs.length j).bind fun n=>if (flat r || !ms.contains i)=true then some (Out.nx ((Zt (flat r) ms γ).set i (.ow (xs.set n r)))) else none)=_
 unfold ixN
 rw [if_pos h0,if_pos h1,Option.bind_some,if_pos h2]
theorem ev_sSetIx (ms:List Nat) (i:Nat) (mv mi:MEx) (γ:PEnv):QcM ms i mv mi γ=(mv γ).bind fun r=>(mi γ).bind fun k=>sixK ms i γ r k γ[i]?:=by
 unfold QcM
 cases γ[i]? with
 | none=>cases mv γ <;> cases mi γ <;> rfl
 | some s =>
  cases s with
  | ow xs =>
   cases mv γ with
   | none=>rfl
   | some r =>
    cases mi γ with
    | none=>rfl
    | some k=>cases k <;> rfl
  | _=>cases mv γ <;> cases mi γ <;> rfl
theorem ev_sFor (ms:List Nat) (mi:PEnv→Option (List PV)) (g:PV→PEnv→Option PEnv) (b:MSt) (γ:PEnv):sFor ms mi g b γ=(mi γ).bind fun xs=>forL g b xs (frz ms γ):=rfl
theorem ev_sForR (mi:PEnv→Option (List PV)) (g:PV→PEnv→Option PEnv) (b:MSt) (γ:PEnv):Qcx mi g b γ=(mi γ).bind fun xs=>forL g b xs γ:=rfl
def capO:Option PV→Slot
 | some p => .fz p
 | none => .un
theorem capO_s (p:PV):capO (some p) = .fz p:=rfl
theorem ev_capS (γ:PEnv) (j:Nat):capS γ j=capO (getV γ j):=by
 unfold capS
 cases getV γ j <;> rfl
theorem ev_blkG (nt:Nat) (caps:List Nat) (γ:PEnv):blkG nt caps γ=List.replicate nt .un++caps.map (capS γ):=rfl
theorem ev_tYesM (γ:PEnv):Qaq γ=some true:=rfl
theorem ev_mTru (m:MEx) (γ:PEnv):mTru m γ=(m γ).bind tru:=rfl
theorem tru_i (i:Int):tru (.int i)=some (i != 0):=rfl
theorem tru_b (i:Bool):tru (.bl i)=some i:=rfl
theorem tru_l (i:List PV):tru (.lst i)=some (!i.isEmpty):=rfl
theorem tru_t (i:List PV):tru (.tup i)=some (!i.isEmpty):=rfl
def andK (t2:PEnv→Option Bool) (γ:PEnv) (x:Bool):Option Bool:=if x=true then t2 γ else some false
theorem andK_t (t2:PEnv→Option Bool) (γ:PEnv):andK t2 γ true=t2 γ:=rfl
theorem andK_f (t2:PEnv→Option Bool) (γ:PEnv):andK t2 γ false=some false:=rfl
theorem ev_bAnd (t1 t2:PEnv→Option Bool) (γ:PEnv):bAnd t1 t2 γ=(t1 γ).bind (andK t2 γ):=rfl
def orK (t2:PEnv→Option Bool) (γ:PEnv) (x:Bool):Option Bool:=if x=true then some true else t2 γ
theorem orK_t (t2:PEnv→Option Bool) (γ:PEnv):orK t2 γ true=some true:=rfl
theorem orK_f (t2:PEnv→Option Bool) (γ:PEnv):orK t2 γ false=t2 γ:=rfl
theorem ev_bOr (t1 t2:PEnv→Option Bool) (γ:PEnv):bOr t1 t2 γ=(t1 γ).bind (orK t2 γ):=rfl
theorem ev_bNot (t1:PEnv→Option Bool) (γ:PEnv):bNot t1 γ=(t1 γ).map not:=rfl
def vAndK (m2:MEx) (γ:PEnv) (k:Bool):Option PV:=if k=true then m2 γ else some (.bl false)
theorem vAndK_t (m2:MEx) (γ:PEnv):vAndK m2 γ true=m2 γ:=rfl
theorem vAndK_f (m2:MEx) (γ:PEnv):vAndK m2 γ false=some (.bl false):=rfl
theorem ev_vAnd (m1 m2:MEx) (γ:PEnv):vAnd m1 m2 γ=(m1 γ).bind fun x=>(isB x).bind (vAndK m2 γ):=rfl
theorem ev_vNot (m1:MEx) (γ:PEnv):vNot m1 γ=(m1 γ).bind fun x=>(isB x).map fun k => .bl (!k):=rfl
def ifEK (m1 m2:MEx) (γ:PEnv) (k:Bool):Option PV:=if k=true then m1 γ else m2 γ
theorem ifEK_t (m1 m2:MEx) (γ:PEnv):ifEK m1 m2 γ true=m1 γ:=rfl
theorem ifEK_f (m1 m2:MEx) (γ:PEnv):ifEK m1 m2 γ false=m2 γ:=rfl
theorem ev_mIfE (t:PEnv→Option Bool) (m1 m2:MEx) (γ:PEnv):mIfE t m1 m2 γ=(t γ).bind (ifEK m1 m2 γ):=rfl
def chK (g:PV→PV→Option PV) (m3:MEx) (γ:PEnv) (y:PV) (k:Bool):Option PV:=if k=true then (m3 γ).bind fun w=>g y w else some (.bl false)
theorem chK_t (g:PV→PV→Option PV) (m3:MEx) (γ:PEnv) (y:PV):chK g m3 γ y true=(m3 γ).bind (g y):=rfl
theorem chK_f (g:PV→PV→Option PV) (m3:MEx) (γ:PEnv) (y:PV):chK g m3 γ y false=some (.bl false):=rfl
theorem ev_ch3 (f g:PV→PV→Option PV) (m1 m2 m3:MEx) (γ:PEnv):ch3 f g m1 m2 m3 γ=(m1 γ).bind fun x=>(m2 γ).bind fun y=>(f x y).bind fun z=>(isB z).bind (chK g m3 γ y):=rfl
theorem ev_un1 (f:PV→Option PV) (m:MEx) (γ:PEnv):un1 f m γ=(m γ).bind f:=rfl
def mtK {α:Type} (T:String) (g:PV→List PV→Option α) (q:Option (List PV)) (p:PV):Option α:=if tyOk T p=true then q.bind (g p) else none
theorem mtK_i {α:Type} (g:PV→List PV→Option α) (q:Option (List PV)) (i:Int):mtK "int" g q (.int i)=q.bind (g (.int i)):=rfl
theorem mtK_s {α:Type} (g:PV→List PV→Option α) (q:Option (List PV)) (i:Str):mtK "str" g q (.str i)=q.bind (g (.str i)):=rfl
theorem mtK_l {α:Type} (g:PV→List PV→Option α) (q:Option (List PV)) (i:List PV):mtK "list" g q (.lst i)=q.bind (g (.lst i)):=rfl
theorem ev_mMt {α:Type} (T:String) (g:PV→List PV→Option α) (m:MEx) (ma:PEnv→Option (List PV)) (γ:PEnv):mMt T g m ma γ=(m γ).bind (mtK T g (ma γ)):=rfl
theorem ev_mMt0 {α:Type} (T:String) (g:PV→List PV→Option α) (m:MEx) (γ:PEnv):mMt0 T g m γ=(m γ).bind (mtK T g (some [])):=rfl
theorem ev_sl3 {α:Type} (f:PV→Option Int→Option Int→Option α) (m:MEx) (ml mh:PEnv→Option (Option Int)) (γ:PEnv):sl3 f m ml mh γ=(m γ).bind fun x=>(ml γ).bind fun l=>(mh γ).bind (f x l):=rfl
theorem ev_mNo (γ:PEnv):mNo γ=some none:=rfl
theorem ev_mSo (m:MEx) (γ:PEnv):mSo m γ=(m γ).bind pInt:=rfl
theorem pInt_i (i:Int):pInt (.int i)=some (some i):=rfl
theorem pCut_l (xs:List PV) (lo hi:Option Int):pCut (.lst xs) lo hi=some (cutP xs lo hi):=rfl
theorem pCutS_s {z:Str} (h:z.length≤100000) (lo hi:Option Int):QjP (.str z) lo hi=some (.str (Txt.slice z lo hi)):=if_pos (Xf h)
theorem pItems_l (xs:List PV):QfD [.lst xs]=some xs:=rfl
theorem pItems_t (xs:List PV):QfD [.tup xs]=some xs:=rfl
theorem pTuple_l (xs:List PV):Xe [.lst xs]=some (.tup xs):=rfl
theorem pTuple_t (xs:List PV):Xe [.tup xs]=some (.tup xs):=rfl
theorem pMin_i (i j:Int):pMin [.int i,.int j]=some (.int (if j < i then j else i)):=rfl
theorem pAdd_s {a b:Str} (h:a.length + b.length≤100000):pAdd (.str a) (.str b)=some (.str (a++b)):=if_pos (Xf h)
theorem pCat_l {a b:List PV} (h:a.length + b.length≤100000):pCat (.lst a) (.lst b)=some (a++b):=if_pos (Xf h)
theorem tru_bit (b:Bool):(((if b=true then 1 else 0):Int) != 0)=b:=by cases b <;> rfl
theorem isInt_i (i:Int):isInt (.int i)=true:=rfl
theorem isBl_i (i:Int):isBl (.int i)=false:=rfl
theorem isBl_b (i:Bool):isBl (.bl i)=true:=rfl
theorem isStr_s (i:Str):Qia (.str i)=true:=rfl
theorem isTup_t (i:List PV):QjS (.tup i)=true:=rfl
theorem isTup_l (i:List PV):QjS (.lst i)=false:=rfl
theorem isLst_l (i:List PV):isLst (.lst i)=true:=rfl
theorem isN_i (i:Int):isN (.int i)=false:=rfl
theorem isN_n:isN .non=true:=rfl
theorem isN_t (i:List PV):isN (.tup i)=false:=rfl
theorem forL_nil (g:PV→PEnv→Option PEnv) (b:MSt) (γ:PEnv):forL g b [] γ=some (.nx γ):=rfl
theorem runV_0 {N:Nat} {m:MSt}:runV N 0 m []=(m (YX N [])).bind outV:=rfl
theorem runV_1 {N:Nat} {m:MSt} {a0:PV}:runV N 1 m [a0]=(m (YX N [a0])).bind outV:=rfl
theorem runV_2 {N:Nat} {m:MSt} {a0 a1:PV}:runV N 2 m [a0,a1]=(m (YX N [a0,a1])).bind outV:=rfl
theorem runV_3 {N:Nat} {m:MSt} {a0 a1 a2:PV}:runV N 3 m [a0,a1,a2]=(m (YX N [a0,a1,a2])).bind outV:=rfl
theorem runV_4 {N:Nat} {m:MSt} {a0 a1 a2 a3:PV}:runV N 4 m [a0,a1,a2,a3]=(m (YX N [a0,a1,a2,a3])).bind outV:=rfl
theorem runV_5 {N:Nat} {m:MSt} {a0 a1 a2 a3 a4:PV}:runV N 5 m [a0,a1,a2,a3,a4]=(m (YX N [a0,a1,a2,a3,a4])).bind outV:=rfl
theorem runV_6 {N:Nat} {m:MSt} {a0 a1 a2 a3 a4 a5:PV}:runV N 6 m [a0,a1,a2,a3,a4,a5]=(m (YX N [a0,a1,a2,a3,a4,a5])).bind outV:=rfl
theorem runV_7 {N:Nat} {m:MSt} {a0 a1 a2 a3 a4 a5 a6:PV}:runV N 7 m [a0,a1,a2,a3,a4,a5,a6]=(m (YX N [a0,a1,a2,a3,a4,a5,a6])).bind outV:=rfl
def frzS:Slot→Slot
 | .ow xs => .fz (.lst xs)
 | .od kvs => .fz (.dcw kvs)
 | s=>s
theorem frzS_ow (xs:List PV):frzS (.ow xs) = .fz (.lst xs):=rfl
theorem frzS_fz (p:PV):frzS (.fz p) = .fz p:=rfl
theorem frzS_un:frzS .un = .un:=rfl
theorem frz_nil (γ:PEnv):frz [] γ=γ:=rfl
theorem frz_cons (i:Nat) (ms:List Nat) (γ:PEnv):frz (i :: ms) γ=frz ms (frz1 γ i):=rfl
theorem frz1_0 (s:Slot) (γ:PEnv):frz1 (s :: γ) 0=frzS s :: γ:=by cases s <;> rfl
theorem frz1_s (s:Slot) (γ:PEnv) (i:Nat):frz1 (s :: γ) (i + 1)=s :: frz1 γ i:=by
 unfold frz1
 rw [List.getElem?_cons_succ]
 cases γ[i]? with
 | none=>rfl
 | some t=>cases t <;> rfl
theorem ev_mN (n:Nat) (γ:PEnv):mN n γ=some (pN n):=rfl
def encN (xs:List Nat):List PV:=xs.map pN
theorem encN_len (xs:List Nat):(encN xs).length=xs.length:=List.length_map _
theorem flat_n (n:Nat):flat (pN n)=true:=rfl
theorem encN_flat (xs:List Nat):(encN xs).all flat=true:=by
 unfold encN
 rw [List.all_map,List.all_eq_true]
 exact fun _ _=>rfl
theorem pAdd_n (a b:Nat):pAdd (pN a) (pN b)=some (pN (a + b)):=by
 unfold pN;rw [pAdd_i];simp
theorem pSub_n {a b:Nat} (h:b≤a):pSub (pN a) (pN b)=some (pN (a - b)):=by
 unfold pN;rw [pSub_i,Int.ofNat_sub h]
theorem pMul_ln {a b:Nat} (h:a < 2 ^ 60):pMul (pN a) (pN b)=some (pN (a * b)):=by
 unfold pN;rw [pMul_l (by omega) (by omega)];simp
theorem pMul_rn {a b:Nat} (h:b < 2 ^ 60):pMul (pN a) (pN b)=some (pN (a * b)):=by
 unfold pN;rw [pMul_r (by omega) (by omega)];simp
theorem pMod_n {a b:Nat} (h:0 < b):pMod (pN a) (pN b)=some (pN (a % b)):=by
 unfold pN;rw [pMod_i (by omega)];simp
theorem pMod_in {c:Int} {b:Nat} (h:0 < b):pMod (.int c) (pN b)=some (pN (c % (b:Int)).toNat):=by
 unfold pN;rw [pMod_i (by omega),Int.toNat_of_nonneg (Int.emod_nonneg _ (by omega))]
theorem pDiv_n {a b:Nat} (h:0 < b) (h2:b < 2 ^ 100):pDiv (pN a) (pN b)=some (pN (a / b)):=by
 unfold pN;rw [pDiv_i (by omega) (by omega)];simp
theorem pDiv_in {c:Int} {b:Nat} (h:0 < b) (h2:b < 2 ^ 100):pDiv (.int c) (pN b)=some (.int (c / (b:Int))):=by
 unfold pN;rw [pDiv_i (by omega) (by omega)]
theorem pLt_n (a b:Nat):pLt (pN a) (pN b)=some (.bl (decide (a < b))):=by
 unfold pN;rw [pLt_i];simp
theorem pLe_n (a b:Nat):pLe (pN a) (pN b)=some (.bl (decide (a≤b))):=by
 unfold pN;rw [pLe_i];simp
theorem pGt_n (a b:Nat):pGt (pN a) (pN b)=some (.bl (decide (b < a))):=by
 unfold pN;rw [pGt_i];simp
theorem Qda (a b:Nat):((a:Int)==(b:Int))=(a==b):=by
 rw [Bool.eq_iff_iff,beq_iff_eq,beq_iff_eq];exact Int.ofNat_inj
theorem pEq_n (a b:Nat):pEq (pN a) (pN b)=some (.bl (a==b)):=by
 unfold pN;rw [pEq_i,Qda]
theorem pNe_n (a b:Nat):pNe (pN a) (pN b)=some (.bl (!(a==b))):=by
 unfold pN;rw [pNe_i,Qda]
theorem testBit_odd (m k:Nat):((m / 2 ^ k)&&&1 != 0)=m.testBit k:=by
 rw [Nat.testBit,Nat.shiftRight_eq_div_pow,Nat.and_comm]
theorem testBit_mod (m k:Nat):(m / 2 ^ k % 2==1)=m.testBit k:=by
 rw [← testBit_odd,Nat.and_one_is_mod]
 have h:m / 2 ^ k % 2=0∨m / 2 ^ k % 2=1:=by omega
 rcases h with h | h <;> rw [h] <;> rfl
theorem pMin_n (a b:Nat):pMin [pN a,pN b]=some (pN (min a b)):=by
 unfold pN;rw [pMin_i];congr 2;split <;> omega
theorem pLen_ln (xs:List PV):pLen [.lst xs]=some (pN xs.length):=rfl
theorem pLen_tn (xs:List PV):pLen [.tup xs]=some (pN xs.length):=rfl
theorem pLen_sn {z:Str} (h:z.length≤100000):pLen [.str z]=some (pN z.length):=if_pos (Xf h)
theorem rg1_n {n:Nat} (h:n≤100000):rg1 (pN n)=some (encN (List.range n)):=by
 unfold pN;rw [rg1_i (by omega) (by omega),Int.toNat_natCast];rfl
theorem mtK_n {α:Type} (g:PV→List PV→Option α) (q:Option (List PV)) (i:Nat):mtK "int" g q (pN i)=q.bind (g (pN i)):=rfl
theorem isInt_n (i:Nat):isInt (pN i)=true:=rfl
theorem isBl_n (i:Nat):isBl (pN i)=false:=rfl
theorem isTup_n (i:Nat):QjS (pN i)=false:=rfl
theorem isN_pn (i:Nat):isN (pN i)=false:=rfl
theorem tru_n (i:Nat):tru (pN i)=some (i != 0):=by
 unfold pN;rw [tru_i]
 have:=Qda i 0
 show some (!((i:Int)==((0:Nat):Int)))=_
 rw [this];rfl
theorem atI_last1 (xs:List PV) (v:PV):atI (xs++[v]) (-((1:Nat):Int))=some v:=atI_last xs v
theorem pInt_n (i:Nat):pInt (pN i)=some (some (i:Int)):=rfl
theorem Qje {α:Type} (xs:List α) (i:Nat):atI xs (i:Int)=xs[i]?:=by
 cases h:xs[i]? with
 | some v=>exact atI_nat h
 | none =>
  have:=List.getElem?_eq_none_iff.mp h
  unfold atI ixN
  rw [if_pos (by omega),if_neg (by omega)]
  rfl
theorem pIx_ln (xs:List PV) (i:Nat):pIx (.lst xs) (pN i)=xs[i]?:=Qje xs i
theorem pIx_tn (xs:List PV) (i:Nat):pIx (.tup xs) (pN i)=xs[i]?:=Qje xs i
theorem encN_get (xs:List Nat) (i:Nat):(encN xs)[i]?=(xs[i]?).map pN:=by unfold encN;rw [List.getElem?_map]
theorem sixK_n {ms:List Nat} {i:Nat} {γ:PEnv} {r:PV} {xs:List PV} {j:Nat} (h1:j < xs.length) (h2:(flat r || !ms.contains i)=true):sixK ms i γ r (pN j) (some (.ow xs))=some (.nx ((Zt (flat r) ms γ).set i (.ow (xs.set j r)))):=by
 have:=sixK_ow (ms:=ms) (i:=i) (γ:=γ) (r:=r) (xs:=xs) (j:=(j:Int)) (by omega) (by omega) h2
 rw [Int.toNat_natCast] at this
 exact this
theorem peq_pn (a b:Nat):peq (pN a) (pN b)=(a==b):=by
 unfold pN
 have:peq (.int (a:Int)) (.int (b:Int))=((a:Int)==(b:Int)):=rfl
 rw [this,Qda]
theorem okv_n (a:Nat):okv (pN a)=true:=Qdj _
theorem QiG (xs:List Nat):(encN xs).all okv=true:=by
 unfold encN
 rw [List.all_map,List.all_eq_true]
 exact fun _ _=>okv_n _
theorem any_pn (k:Nat) (xs:List Nat):((encN xs).any fun y=>peq y (pN k))=decide (k∈xs):=by
 unfold encN
 rw [List.any_map,Bool.eq_iff_iff,List.any_eq_true]
 simp [peq_pn]
theorem pIn_nl (k:Nat) (xs:List Nat):pIn (pN k) (.lst (encN xs))=some (.bl (decide (k∈xs))):=by
 have e:pIn (pN k) (.lst (encN xs))=if okv (pN k)=true∧(encN xs).all okv=true then some (.bl ((encN xs).any fun y=>peq y (pN k))) else none:=rfl
 rw [e,if_pos ⟨okv_n k,QiG xs⟩,any_pn]
theorem pIn_nt (k:Nat) (xs:List Nat):pIn (pN k) (.tup (encN xs))=some (.bl (decide (k∈xs))):=by
 have e:pIn (pN k) (.tup (encN xs))=if okv (pN k)=true∧(encN xs).all okv=true then some (.bl ((encN xs).any fun y=>peq y (pN k))) else none:=rfl
 rw [e,if_pos ⟨okv_n k,QiG xs⟩,any_pn]
theorem Qdv {x y:PV} {b:Bool} (h:pIn x y=some (.bl b)):QaA x y=some (.bl (!b)):=by
 unfold QaA
 rw [h]
 rfl
theorem pNotIn_nl (k:Nat) (xs:List Nat):QaA (pN k) (.lst (encN xs))=some (.bl (!decide (k∈xs))):=Qdv (pIn_nl k xs)
theorem pNotIn_nt (k:Nat) (xs:List Nat):QaA (pN k) (.tup (encN xs))=some (.bl (!decide (k∈xs))):=Qdv (pIn_nt k xs)
theorem cutP_map {α β:Type} (f:α→β) (xs:List α) (lo hi:Option Int):cutP (xs.map f) lo hi=(cutP xs lo hi).map f:=by
 unfold cutP
 rw [List.length_map,← List.map_drop,← List.map_take]
theorem cutP_nn {α:Type} (xs:List α) (a b:Nat):cutP xs (some (a:Int)) (some (b:Int))=(xs.take b).drop a:=by
 unfold cutP
 rw [HT.sIx_nat,HT.sIx_nat]
 apply List.ext_getElem?
 intro i
 rw [List.getElem?_take,List.getElem?_drop,List.getElem?_drop,List.getElem?_take]
 by_cases h:min a xs.length + i < xs.length
 ·have ha:min a xs.length=a:=by omega
  rw [ha]
  by_cases h2:i < min b xs.length - a
  ·rw [if_pos h2,if_pos (by omega)]
  ·rw [if_neg h2,if_neg (by omega)]
 ·have hn:xs[min a xs.length + i]?=none:=List.getElem?_eq_none (by omega)
  rw [hn]
  by_cases h3:a + i < b
  ·rw [if_pos h3,List.getElem?_eq_none (by omega)]
   split <;> rfl
  ·rw [if_neg h3]
   split <;> rfl
theorem Qlo {α:Type} (xs:List α) (b:Nat):cutP xs none (some (b:Int))=xs.take b:=by
 unfold cutP
 rw [HT.sIx_nat,HT.sIx_none]
 simp
theorem Qln {α:Type} (xs:List α) (a:Nat):cutP xs (some (a:Int)) none=xs.drop a:=by
 unfold cutP
 rw [HT.sIx_nat,HT.sIx_none]
 rw [List.take_of_length_le (by rw [List.length_drop];omega)]
 by_cases h:a≤xs.length
 ·rw [Nat.min_eq_left h]
 ·rw [Nat.min_eq_right (by omega),List.drop_length,List.drop_of_length_le (by omega)]
theorem Qmb (s:Str) (r:List PV):Qcy (.str s :: r)=none:=rfl
theorem pSort_s {ss:List Str} (h:ss.length < 64):Qea [.lst (ss.map .str)]=some ((QM ss).map .str):=by
 cases ss with
 | nil=>simp [Qea,Qcy,Qec,QM]
 | cons s r =>
  show (match Qcy (.str s :: r.map .str) with
   | some ns=>if ns.length < 64 then some ((Qec ns).map PV.int) else none
   | none=>match Yc ((s :: r).map .str) with
    | some ss=>if ss.length < 64 then some ((QM ss).map PV.str) else none
    | none=>none)=_
  rw [Qmb,strs?_map]
  exact if_pos h
theorem QkL {ss:List Int} (h:ss.length < 64):Qea [.lst (ss.map .int)]=some ((Qec ss).map .int):=by
 show (match Qcy (ss.map .int) with
   | some ns=>if ns.length < 64 then some ((Qec ns).map PV.int) else none
   | none=>match Yc (ss.map .int) with
    | some ss=>if ss.length < 64 then some ((QM ss).map PV.str) else none
    | none=>none)=_
 rw [Qmc]
 exact if_pos h
theorem Qdq (ss:List Str):(QM ss).length=ss.length:=(Qw ss).length_eq
theorem QiF {ss:List Str} (h:∀ s∈ss,PyData.strOk s=true):(ss.map PV.str).all okv=true:=by
 rw [List.all_map,List.all_eq_true]
 exact fun s hs=>QaW (h s hs)
theorem peq_s (a b:Str):peq (.str a) (.str b)=(a==b):=rfl
theorem pIn_sl {s:Str} {ss:List Str} (h:PyData.strOk s=true) (hs:∀ s∈ss,PyData.strOk s=true):pIn (.str s) (.lst (ss.map .str))=some (.bl (ss.any (·==s))):=by
 have e:pIn (.str s) (.lst (ss.map .str))=if okv (.str s)=true∧(ss.map PV.str).all okv=true then some (.bl ((ss.map PV.str).any fun y=>peq y (.str s))) else none:=rfl
 rw [e,if_pos ⟨QaW h,QiF hs⟩,List.any_map]
 congr 3
theorem pIn_st {s:Str} {ss:List Str} (h:PyData.strOk s=true) (hs:∀ s∈ss,PyData.strOk s=true):pIn (.str s) (.tup (ss.map .str))=some (.bl (ss.any (·==s))):=by
 have e:pIn (.str s) (.tup (ss.map .str))=if okv (.str s)=true∧(ss.map PV.str).all okv=true then some (.bl ((ss.map PV.str).any fun y=>peq y (.str s))) else none:=rfl
 rw [e,if_pos ⟨QaW h,QiF hs⟩,List.any_map]
 congr 3
theorem Qge {s:Str} {ss:List Str} (h:PyData.strOk s=true) (hs:∀ s∈ss,PyData.strOk s=true):QaA (.str s) (.lst (ss.map .str))=some (.bl (!ss.any (·==s))):=Qdv (pIn_sl h hs)
theorem Yv {a b:Str} (ha:PyData.strOk a=true) (hb:PyData.strOk b=true):pEq (.str a) (.str b)=some (.bl (a==b)):=by rw [Qkf (QaW ha) (QaW hb),peq_s]
theorem Qmx {a b:Str} (ha:PyData.strOk a=true) (hb:PyData.strOk b=true):pNe (.str a) (.str b)=some (.bl (!(a==b))):=by rw [pNe_ok (QaW ha) (QaW hb),peq_s]
theorem allflat_nats (ns:List Nat):(ns.map fun (k:Nat)=>PV.int k).all flat=true:=by simp [flat]
theorem QbV (a b:Str):(a++b).length=a.length + b.length:=by
 show (a.cps++b.cps).size=_
 rw [Array.size_append];rfl
theorem Qgy (a b c:Str):a++b++c=a++(b++c):=by
 show (⟨a.cps++b.cps++c.cps⟩:Str)=⟨a.cps++(b.cps++c.cps)⟩
 rw [Array.append_assoc]
theorem QfV (sep:Str):Txt.join sep []=("":Str):=by
 unfold Txt.join
 rw [StrLaws.glued_eq_join]
 rfl
theorem Xu (sep x:Str):Txt.join sep [x]=x:=by
 unfold Txt.join
 rw [StrLaws.glued_eq_join]
 rfl
theorem ZW (sep x:Str) (y:Str) (r:List Str):Txt.join sep (x :: y :: r)=x++sep++Txt.join sep (y :: r):=by
 unfold Txt.join
 rw [StrLaws.glued_eq_join,StrLaws.glued_eq_join]
 rfl
theorem ZM (sep:Str) (ss:List Str):(Txt.join sep ss).length=(ss.map Str.length).sum + (ss.length - 1) * sep.length:=by
 unfold Txt.join
 exact PySem.size_glued sep ss
theorem QbU (ss:List Str) (b:Nat) (h:∀ s∈ss,s.length≤b):(ss.map Str.length).sum≤ss.length * b:=by
 induction ss with
 | nil=>simp
 | cons x l ih =>
  have h1:=ih fun k hk=>h k (List.mem_cons_of_mem _ hk)
  have h2:=h x (by simp)
  simp only [List.map_cons,List.sum_cons,List.length_cons,Nat.succ_mul]
  omega
theorem EVc:type_of% (And.intro (And.intro (And.intro (And.intro (And.intro (And.intro (And.intro @ev_mN (And.intro @encN_len @encN_flat)) (And.intro @flat_n (And.intro @pAdd_n @pSub_n))) (And.intro (And.intro @pMul_ln (And.intro @pMul_rn @pMod_n)) (And.intro (And.intro @pMod_in @pDiv_n) (And.intro @pDiv_in @pLt_n)))) (And.intro (And.intro (And.intro @pLe_n (And.intro @pGt_n @pEq_n)) (And.intro (And.intro @pNe_n @testBit_odd) (And.intro @testBit_mod @pMin_n))) (And.intro (And.intro @rg1_n (And.intro @mtK_n @isInt_n)) (And.intro (And.intro @isBl_n @isTup_n) (And.intro @isN_pn @tru_n))))) (And.intro (And.intro (And.intro (And.intro @atI_last1 (And.intro @pInt_n @pIx_ln)) (And.intro @pIx_tn (And.intro @encN_get @sixK_n))) (And.intro (And.intro @pIn_nl (And.intro @pIn_nt @pNotIn_nl)) (And.intro (And.intro @pNotIn_nt @runV_0) (And.intro @runV_1 @runV_2)))) (And.intro (And.intro (And.intro @runV_3 (And.intro @runV_4 @runV_5)) (And.intro (And.intro @runV_6 @runV_7) (And.intro @ev_startG1 @ev_sSeq))) (And.intro (And.intro @seqK_nx (And.intro @seqK_rt @seqK_ro)) (And.intro (And.intro @seqK_ct @seqK_bk) (And.intro @ev_sSet @ev_sSetO)))))) (And.intro (And.intro (And.intro (And.intro (And.intro @ev_sRet (And.intro @ev_sRetO @ev_sRetV)) (And.intro @retS_ow (And.intro @retS_fz @ev_sIf))) (And.intro (And.intro @ifK_t (And.intro @ifK_f @ev_sNx)) (And.intro (And.intro @ev_sBk @ev_sCt) (And.intro @ev_bin2 @ev_mVar)))) (And.intro (And.intro (And.intro @ev_mC (And.intro @ev_mCall @ev_mLst)) (And.intro (And.intro @ev_mTup @tupK_ok) (And.intro @ev_mLim @limK_ok))) (And.intro (And.intro @ev_aCons (And.intro @ev_aNil @ev_truB)) (And.intro (And.intro @isB_bl @ev_mIsi) (And.intro @isiK_i @isiK_b))))) (And.intro (And.intro (And.intro (And.intro @isiK_s (And.intro @isiK_t @isiK_l)) (And.intro @isiK_0 (And.intro @isiK_n @getV_0))) (And.intro (And.intro @getV_s (And.intro @val_fz @val_ow)) (And.intro (And.intro @pAdd_i @pSub_i) (And.intro @pLt_i @pLe_i)))) (And.intro (And.intro (And.intro @pGt_i (And.intro @pEq_i @pNe_i)) (And.intro (And.intro @pLen_ln @pLen_tn) (And.intro @pIx_lst @pIx_tup))) (And.intro (And.intro @keepE_true (And.intro @keepE_false @flat_int)) (And.intro (And.intro @flat_bl @flat_str) (And.intro @flat_non @flat_tup))))))) (And.intro (And.intro (And.intro (And.intro (And.intro (And.intro @flat_lst (And.intro @outV_rt @outV_ro)) (And.intro @outV_nx (And.intro @ev_bAnd @andK_t))) (And.intro (And.intro @andK_f (And.intro @ev_bOr @orK_t)) (And.intro (And.intro @orK_f @ev_bNot) (And.intro @ev_vAnd @vAndK_t)))) (And.intro (And.intro (And.intro @vAndK_f (And.intro @ev_vNot @ev_mIfE)) (And.intro (And.intro @ifEK_t @ifEK_f) (And.intro @ev_ch3 @chK_t))) (And.intro (And.intro @chK_f (And.intro @ev_un1 @ev_mMt0)) (And.intro (And.intro @ev_mMt @mtK_i) (And.intro @mtK_s @mtK_l))))) (And.intro (And.intro (And.intro (And.intro @ev_sForR (And.intro @ev_sFor @ev_mComp)) (And.intro @cmpK_ok (And.intro @ev_iRg1 @rg1_i))) (And.intro (And.intro @ev_iLst (And.intro @itL_l @ev_iTpl)) (And.intro (And.intro @itT_t @ev_iSeq) (And.intro @itS_l @itS_t)))) (And.intro (And.intro (And.intro @pEnum_l (And.intro @pEnum_t @ev_blkG)) (And.intro (And.intro @ev_capS @capO_s) (And.intro @ev_gSet @gSet2_t))) (And.intro (And.intro @gSet3_t (And.intro @ev_mTru @tru_i)) (And.intro (And.intro @tru_b @tru_l) (And.intro @tru_t @ev_tYesM)))))) (And.intro (And.intro (And.intro (And.intro (And.intro @pMod_i (And.intro @pDiv_i @pMul_l)) (And.intro @pMul_r (And.intro @tru_bit @ev_sl3))) (And.intro (And.intro @ev_mNo (And.intro @ev_mSo @pInt_i)) (And.intro (And.intro @pCut_l @pCutS_s) (And.intro @pItems_l @pItems_t)))) (And.intro (And.intro (And.intro @pTuple_l (And.intro @pTuple_t @pMin_i)) (And.intro (And.intro @pLen_sn @pAdd_s) (And.intro @pCat_l @isInt_i))) (And.intro (And.intro @isBl_i (And.intro @isBl_b @isStr_s)) (And.intro (And.intro @isTup_t @isTup_l) (And.intro @isLst_l @isN_i))))) (And.intro (And.intro (And.intro (And.intro @isN_n (And.intro @isN_t @forL_nil)) (And.intro (And.intro @frz_nil @frz_cons) (And.intro @frz1_0 @frz1_s))) (And.intro (And.intro @frzS_ow (And.intro @frzS_fz @frzS_un)) (And.intro (And.intro @ev_sApp @ev_sSetIx) (And.intro @sixK_ow @allflat_ints)))) (And.intro (And.intro (And.intro @allflat_strs (And.intro @allflat_nats @cutP_map)) (And.intro (And.intro @Nat.not_lt_zero @decide_true) (And.intro @decide_false @Bool.not_true))) (And.intro (And.intro @Bool.not_false (And.intro @Bool.true_or @Bool.false_or)) (And.intro (And.intro @Bool.or_true @Bool.or_false) (And.intro @Bool.true_and @Bool.false_and)))))))):=(And.intro (And.intro (And.intro (And.intro (And.intro (And.intro (And.intro @ev_mN (And.intro @encN_len @encN_flat)) (And.intro @flat_n (And.intro @pAdd_n @pSub_n))) (And.intro (And.intro @pMul_ln (And.intro @pMul_rn @pMod_n)) (And.intro (And.intro @pMod_in @pDiv_n) (And.intro @pDiv_in @pLt_n)))) (And.intro (And.intro (And.intro @pLe_n (And.intro @pGt_n @pEq_n)) (And.intro (And.intro @pNe_n @testBit_odd) (And.intro @testBit_mod @pMin_n))) (And.intro (And.intro @rg1_n (And.intro @mtK_n @isInt_n)) (And.intro (And.intro @isBl_n @isTup_n) (And.intro @isN_pn @tru_n))))) (And.intro (And.intro (And.intro (And.intro @atI_last1 (And.intro @pInt_n @pIx_ln)) (And.intro @pIx_tn (And.intro @encN_get @sixK_n))) (And.intro (And.intro @pIn_nl (And.intro @pIn_nt @pNotIn_nl)) (And.intro (And.intro @pNotIn_nt @runV_0) (And.intro @runV_1 @runV_2)))) (And.intro (And.intro (And.intro @runV_3 (And.intro @runV_4 @runV_5)) (And.intro (And.intro @runV_6 @runV_7) (And.intro @ev_startG1 @ev_sSeq))) (And.intro (And.intro @seqK_nx (And.intro @seqK_rt @seqK_ro)) (And.intro (And.intro @seqK_ct @seqK_bk) (And.intro @ev_sSet @ev_sSetO)))))) (And.intro (And.intro (And.intro (And.intro (And.intro @ev_sRet (And.intro @ev_sRetO @ev_sRetV)) (And.intro @retS_ow (And.intro @retS_fz @ev_sIf))) (And.intro (And.intro @ifK_t (And.intro @ifK_f @ev_sNx)) (And.intro (And.intro @ev_sBk @ev_sCt) (And.intro @ev_bin2 @ev_mVar)))) (And.intro (And.intro (And.intro @ev_mC (And.intro @ev_mCall @ev_mLst)) (And.intro (And.intro @ev_mTup @tupK_ok) (And.intro @ev_mLim @limK_ok))) (And.intro (And.intro @ev_aCons (And.intro @ev_aNil @ev_truB)) (And.intro (And.intro @isB_bl @ev_mIsi) (And.intro @isiK_i @isiK_b))))) (And.intro (And.intro (And.intro (And.intro @isiK_s (And.intro @isiK_t @isiK_l)) (And.intro @isiK_0 (And.intro @isiK_n @getV_0))) (And.intro (And.intro @getV_s (And.intro @val_fz @val_ow)) (And.intro (And.intro @pAdd_i @pSub_i) (And.intro @pLt_i @pLe_i)))) (And.intro (And.intro (And.intro @pGt_i (And.intro @pEq_i @pNe_i)) (And.intro (And.intro @pLen_ln @pLen_tn) (And.intro @pIx_lst @pIx_tup))) (And.intro (And.intro @keepE_true (And.intro @keepE_false @flat_int)) (And.intro (And.intro @flat_bl @flat_str) (And.intro @flat_non @flat_tup))))))) (And.intro (And.intro (And.intro (And.intro (And.intro (And.intro @flat_lst (And.intro @outV_rt @outV_ro)) (And.intro @outV_nx (And.intro @ev_bAnd @andK_t))) (And.intro (And.intro @andK_f (And.intro @ev_bOr @orK_t)) (And.intro (And.intro @orK_f @ev_bNot) (And.intro @ev_vAnd @vAndK_t)))) (And.intro (And.intro (And.intro @vAndK_f (And.intro @ev_vNot @ev_mIfE)) (And.intro (And.intro @ifEK_t @ifEK_f) (And.intro @ev_ch3 @chK_t))) (And.intro (And.intro @chK_f (And.intro @ev_un1 @ev_mMt0)) (And.intro (And.intro @ev_mMt @mtK_i) (And.intro @mtK_s @mtK_l))))) (And.intro (And.intro (And.intro (And.intro @ev_sForR (And.intro @ev_sFor @ev_mComp)) (And.intro @cmpK_ok (And.intro @ev_iRg1 @rg1_i))) (And.intro (And.intro @ev_iLst (And.intro @itL_l @ev_iTpl)) (And.intro (And.intro @itT_t @ev_iSeq) (And.intro @itS_l @itS_t)))) (And.intro (And.intro (And.intro @pEnum_l (And.intro @pEnum_t @ev_blkG)) (And.intro (And.intro @ev_capS @capO_s) (And.intro @ev_gSet @gSet2_t))) (And.intro (And.intro @gSet3_t (And.intro @ev_mTru @tru_i)) (And.intro (And.intro @tru_b @tru_l) (And.intro @tru_t @ev_tYesM)))))) (And.intro (And.intro (And.intro (And.intro (And.intro @pMod_i (And.intro @pDiv_i @pMul_l)) (And.intro @pMul_r (And.intro @tru_bit @ev_sl3))) (And.intro (And.intro @ev_mNo (And.intro @ev_mSo @pInt_i)) (And.intro (And.intro @pCut_l @pCutS_s) (And.intro @pItems_l @pItems_t)))) (And.intro (And.intro (And.intro @pTuple_l (And.intro @pTuple_t @pMin_i)) (And.intro (And.intro @pLen_sn @pAdd_s) (And.intro @pCat_l @isInt_i))) (And.intro (And.intro @isBl_i (And.intro @isBl_b @isStr_s)) (And.intro (And.intro @isTup_t @isTup_l) (And.intro @isLst_l @isN_i))))) (And.intro (And.intro (And.intro (And.intro @isN_n (And.intro @isN_t @forL_nil)) (And.intro (And.intro @frz_nil @frz_cons) (And.intro @frz1_0 @frz1_s))) (And.intro (And.intro @frzS_ow (And.intro @frzS_fz @frzS_un)) (And.intro (And.intro @ev_sApp @ev_sSetIx) (And.intro @sixK_ow @allflat_ints)))) (And.intro (And.intro (And.intro @allflat_strs (And.intro @allflat_nats @cutP_map)) (And.intro (And.intro @Nat.not_lt_zero @decide_true) (And.intro @decide_false @Bool.not_true))) (And.intro (And.intro @Bool.not_false (And.intro @Bool.true_or @Bool.false_or)) (And.intro (And.intro @Bool.or_true @Bool.or_false) (And.intro @Bool.true_and @Bool.false_and))))))))
end L2.PM
set_option maxHeartbeats 4000000
namespace DH
open PySem PySem.Spec PyProof.Rows L2 L2.PM
def XZ:MSt:=(sSeq (sSet [2] 2 (bin2 pMod (bin2 pMul (mVar 2) (mN 48271)) (mN 2147483647)))
 (sApp [2] 3 (bin2 pDiv (mVar 2) (mN 13))))
def QcF:MSt:=(sSeq (sSet [0] 2 (bin2 pMod (bin2 pMul (bin2 pAdd (bin2 pMod (mVar 0) (mN 2147483629)) (mN 1)) (mN 1103515245)) (mN 2147483647)))
 (sSeq (ZB [] 3 (mLim aNil))
 (sSeq (Qcx (iRg1 (mVar 1)) (gSet 4) XZ)
 (QbS 3))))
def QK:List PV→Option PV:=runV 5 2 QcF
theorem Xj:∀ ps r,QK ps=some r→ps.length=2:=Qt
def XY:MSt:=(sSeq (sSet [0] 0 (bin2 pMod (bin2 pAdd (bin2 pMul (mVar 0) (mN 69621)) (mN 1)) (mN 2147483647)))
 (sSet [3,2,0] 3 (bin2 pAdd (mVar 3) (bin2 pIx (mVar 2) (bin2 pMod (bin2 pDiv (mVar 0) (mN 17)) (mN 26))))))
def QcD:MSt:=(sSeq (sSet [] 2 (mC (.str "abcdefghijklmnopqrstuvwxyz")))
 (sSeq (sSet [] 3 (mC (.str "")))
 (sSeq (Qcx (iRg1 (mVar 1)) (gSet 4) XY)
 (QbS 3))))
def QP:List PV→Option PV:=runV 5 2 QcD
theorem Xi:∀ ps r,QP ps=some r→ps.length=2:=Qt
def Qag:MSt:=(sSeq (sSet [] 2 (mC (.str "abcdefghijklmnopqrstuvwxyz")))
 (sSeq (ZB [0,0] 3 (Qj Qhm (Qc (Qj QP (Qc (bin2 pIx (mVar 0) (mN 0)) (Qc (bin2 pAdd (mN 2) (bin2 pMod (bin2 pIx (mVar 0) (mN 1)) (mN 11))) aNil))) aNil)))
 (sSeq (sSet [0,3] 4 (bin2 pMod (bin2 pIx (mVar 0) (mN 2)) (Qj pLen (Qc (mVar 3) aNil))))
 (sSeq (sSet [4,0,3,3] 5 (bin2 pMod (bin2 pAdd (bin2 pAdd (mVar 4) (mN 1)) (bin2 pMod (bin2 pIx (mVar 0) (mN 3)) (bin2 pSub (Qj pLen (Qc (mVar 3) aNil)) (mN 1)))) (Qj pLen (Qc (mVar 3) aNil))))
 (sSeq (QcM [2,0,1,0] 3 (bin2 pIx (mVar 2) (bin2 pMod (bin2 pAdd (bin2 pIx (mVar 0) (mN 4)) (bin2 pMul (mVar 1) (bin2 pIx (mLst (mLim (Qc (mN 1) (Qc (mN 3) (Qc (mN 5) (Qc (mN 7) (Qc (mN 9) (Qc (mN 11) aNil)))))))) (bin2 pMod (bin2 pIx (mVar 0) (mN 5)) (mN 6))))) (mN 26))) (mVar 4))
 (sSeq (QcM [2,0,1] 3 (bin2 pIx (mVar 2) (bin2 pMod (bin2 pAdd (bin2 pIx (mVar 0) (mN 6)) (bin2 pDiv (mVar 1) (mN 26))) (mN 26))) (mVar 5))
 (sRet (mMt "str" QhN (mC (.str "")) (Qc (mVar 3) aNil)))))))))
def QW:List PV→Option PV:=runV 6 2 Qag
theorem Qbb:∀ ps r,QW ps=some r→ps.length=2:=Qt
def Qad:MSt:=(sSeq (sSet [0] 2 (Qj QP (Qc (bin2 pIx (mVar 0) (mN 0)) (Qc (mN 12) aNil))))
 (sSeq (sSet [1,0] 3 (bin2 pMod (bin2 pAdd (bin2 pMul (mVar 1) (mN 7)) (bin2 pIx (mVar 0) (mN 1))) (mN 30)))
 (sSeq (sIf (truB (bin2 pLt (mVar 3) (mN 12))) (sRet (sl3 QjP (mVar 2) mNo (mSo (bin2 pAdd (mN 1) (mVar 3))))) sNx)
 (sSeq (sIf (truB (bin2 pLt (mVar 3) (mN 23))) (sRet (sl3 QjP (mVar 2) (mSo (bin2 pSub (mVar 3) (mN 11))) mNo)) sNx)
 (sRet (sl3 QjP (un1 pRvS (mVar 2)) mNo (mSo (bin2 pSub (mVar 3) (mN 20)))))))))
def QT:List PV→Option PV:=runV 4 2 Qad
theorem QaY:∀ ps r,QT ps=some r→ps.length=2:=Qt
def Qaf:MSt:=(sSeq (ZB [] 1 (mLim (Qc (mC (.str "guesss")) (Qc (mC (.str "gues")) (Qc (mC (.str "uess")) (Qc (mC (.str "unles")) (Qc (mC (.str "nless")) (Qc (mC (.str "ifs")) (Qc (mC (.str "fi")) (Qc (mC (.str "i")) (Qc (mC (.str "f")) (Qc (mC (.str "unlessif")) (Qc (mC (.str "guessif")) (Qc (mC (.str "ifguess")) aNil))))))))))))))
 (sSeq (ZB [1] 1 (bin2 pCat (mVar 1) (mLst (mLim (Qc (mC (.str "guesses")) (Qc (mC (.str "guessunless")) (Qc (mC (.str "iff")) (Qc (mC (.str "unlessguess")) aNil))))))))
 (sRet (bin2 pIx (mVar 1) (bin2 pMod (mVar 0) (mN 16))))))
def QV:List PV→Option PV:=runV 2 1 Qaf
theorem Qba:∀ ps r,QV ps=some r→ps.length=1:=Qt
def Yo:MSt:=(sSeq (sSet [2,4,2,4] 5 (Qj QP (Qc (bin2 pIx (mVar 2) (mVar 4)) (Qc (bin2 pAdd (mN 1) (bin2 pMod (bin2 pDiv (bin2 pIx (mVar 2) (bin2 pAdd (mVar 4) (mN 1))) (mN 5)) (mN 12))) aNil))))
 (sSeq (sIf (truB (bin2 pEq (bin2 pMod (bin2 pIx (mVar 2) (mN 38)) (mN 4)) (mN 1))) (sSet [2,4] 5 (Qj QW (Qc (mVar 2) (Qc (mVar 4) aNil)))) sNx)
 (sSeq (sIf (truB (bin2 pEq (bin2 pMod (bin2 pIx (mVar 2) (mN 38)) (mN 4)) (mN 2))) (sSet [2,4] 5 (Qj QT (Qc (mVar 2) (Qc (mVar 4) aNil)))) sNx)
 (sSeq (sIf (bAnd (truB (bin2 pEq (bin2 pMod (bin2 pIx (mVar 2) (mN 38)) (mN 4)) (mN 3))) (truB (bin2 pLt (mVar 4) (mN 16)))) (sSet [4,2] 5 (Qj QV (Qc (bin2 pAdd (mVar 4) (bin2 pIx (mVar 2) (mN 39))) aNil))) sNx)
 (sSeq (sIf (truB (bin2 pIn (mVar 5) (mTup (Qc (mC (.str "guess")) (Qc (mC (.str "unless")) (Qc (mC (.str "if")) aNil)))))) (sSet [5] 5 (bin2 pAdd (mVar 5) (mC (.str "a")))) sNx)
 (sIf (truB (bin2 QaA (mVar 5) (mVar 3))) (sApp [5] 3 (mVar 5)) sNx))))))
def QaH:MSt:=(sSeq (sSet [0] 2 (Qj QK (Qc (mVar 0) (Qc (mN 40) aNil))))
 (sSeq (ZB [] 3 (mLim aNil))
 (sSeq (Qcx (iRg1 (mVar 1)) (gSet 4) Yo)
 (QbS 3))))
def QR:List PV→Option PV:=runV 6 2 QaH
theorem QbB:∀ ps r,QR ps=some r→ps.length=2:=Qt
def Qbe:MSt:=(sSeq (sIf (truB (bin2 pLt (mVar 1) (Qj pLen (Qc (mVar 0) aNil)))) (sRet (bin2 pIx (mVar 0) (mVar 1))) sNx)
 (sRet (mN 0)))
def Ql:List PV→Option PV:=runV 2 2 Qbe
theorem QD:∀ ps r,Ql ps=some r→ps.length=2:=Qt
def QcG:MSt:=(sRet (vAnd (bin2 pEq (bin2 pIx (mVar 0) (mN 1)) (bin2 pIx (mVar 1) (mN 1))) (bin2 pEq (mLst (Qj Qeg (Qc (bin2 pIx (mVar 0) (mN 2)) aNil))) (mLst (Qj Qeg (Qc (bin2 pIx (mVar 1) (mN 2)) aNil))))))
def ZP:List PV→Option PV:=runV 2 2 QcG
theorem Qde:∀ ps r,ZP ps=some r→ps.length=2:=Qt
def YE:MSt:=(ZB [4,0,5,5] 4 (bin2 pCat (mVar 4) (mLst (mLim (Qc (bin2 pAdd (bin2 pMod (Qj Ql (Qc (mVar 0) (Qc (mN 2) aNil))) (bin2 pPow (mN 10) (mN 60))) (bin2 pMul (bin2 pMul (mN 7919) (mVar 5)) (mVar 5))) aNil)))))
def ZU:MSt:=(sSeq (sSet [1,7,5,1] 9 (bin2 pIx (mVar 1) (bin2 pMod (bin2 pIx (mVar 7) (bin2 pAdd (mN 1) (mVar 5))) (Qj pLen (Qc (mVar 1) aNil)))))
 (sIf (truB (bin2 QaA (mVar 9) (mVar 8))) (sApp [9] 8 (mVar 9)) sNx))
def YD:MSt:=(sSeq (sSet [6] 7 (Qj QK (Qc (mVar 6) (Qc (mN 8) aNil))))
 (sSeq (ZB [] 8 (mLim aNil))
 (sSeq (Qcx (iRg1 (bin2 pMod (bin2 pIx (mVar 7) (mN 0)) (mN 7))) (gSet 5) ZU)
 (sSeq (sSet [1,2,7,1,2,8] 10 (mTup (Qc (mC (.str "rule")) (Qc (bin2 pIx (mVar 1) (bin2 pAdd (mVar 2) (bin2 pMod (bin2 pIx (mVar 7) (mN 7)) (bin2 pSub (Qj pLen (Qc (mVar 1) aNil)) (mVar 2))))) (Qc (Qj Xe (Qc (mVar 8) aNil)) aNil)))))
 (sIf (truB (bin2 pEq (Qj pLen (Qc (mLst (XD (iLst (mVar 3)) 1 [10] (gSet 0) (mTru (Qj ZP (Qc (mVar 0) (Qc (mVar 1) aNil)))) (mVar 0))) aNil)) (mN 0))) (sApp [10] 3 (mVar 10)) sNx)))))
def Qbd:MSt:=(sSeq (ZB [] 3 (mLim aNil))
 (sSeq (ZB [0] 4 (sl3 pCut (mVar 0) (mSo (mN 3)) (mSo (mN 43))))
 (sSeq (sIf (truB (bin2 pEq (bin2 pMod (bin2 pDiv (Qj Ql (Qc (mVar 0) (Qc (mN 2) aNil))) (mN 9)) (mN 4)) (mN 1))) (Qcx (iRg1 (bin2 pMod (bin2 pDiv (Qj Ql (Qc (mVar 0) (Qc (mN 2) aNil))) (mN 36)) (mN 41))) (gSet 5) YE) sNx)
 (sSeq (sFor [4] (iLst (mLst (sl3 pCut (mVar 4) mNo (mSo (mN 40))))) (gSet 6) YD)
 (QbS 3)))))
def QY:List PV→Option (List PV):=runO 11 3 Qbd
theorem Qcf:∀ ps r,QY ps=some r→ps.length=3:=runO_len
def Xc:MSt:=(sSeq (sSet [2,5,6,2] 7 (bin2 pIx (mVar 2) (bin2 pMod (bin2 pIx (mVar 5) (mVar 6)) (Qj pLen (Qc (mVar 2) aNil)))))
 (sIns [2,6,7] 4 (bin2 pMod (bin2 pIx (mVar 5) (bin2 pAdd (mN 8) (mVar 6))) (bin2 pAdd (Qj pLen (Qc (mVar 4) aNil)) (mN 1))) (mTup (Qc (mC (.str "guess")) (Qc (bin2 pIx (mVar 2) (mVar 6)) (Qc (mVar 7) aNil))))))
def QdL:MSt:=(sSeq (sSet [0] 1 (bin2 pMod (Qj Ql (Qc (mVar 0) (Qc (mN 0) aNil))) (mN 31)))
 (sSeq (sIf (truB (bin2 pEq (bin2 pMod (bin2 pDiv (Qj Ql (Qc (mVar 0) (Qc (mN 0) aNil))) (mN 31)) (mN 3)) (mN 1))) (sSet [] 1 (mN 30)) sNx)
 (sSeq (sSet [0,1] 2 (Qj QR (Qc (Qj Ql (Qc (mVar 0) (Qc (mN 1) aNil))) (Qc (mVar 1) aNil))))
 (sSeq (sSet [0,2] 3 (Qj pMin (Qc (bin2 pMod (Qj Ql (Qc (mVar 0) (Qc (mN 2) aNil))) (mN 9)) (Qc (Qj pLen (Qc (mVar 2) aNil)) aNil))))
 (sSeq (ZB [] 4 (mLim aNil))
 (sSeq (sIf (truB (bin2 pLt (mVar 3) (Qj pLen (Qc (mVar 2) aNil)))) (ZB [0,2,3] 4 (Qj QY (Qc (mVar 0) (Qc (mVar 2) (Qc (mVar 3) aNil))))) sNx)
 (sSeq (sSet [0] 5 (Qj QK (Qc (bin2 pDiv (Qj Ql (Qc (mVar 0) (Qc (mN 1) aNil))) (mN 7)) (Qc (mN 16) aNil))))
 (sSeq (Qcx (iRg1 (mVar 3)) (gSet 6) Xc)
 (QbS 4)))))))))
def Yn:List PV→Option PV:=runV 8 1 QdL
theorem QdU:∀ ps r,Yn ps=some r→ps.length=1:=Qt
def Xb:List PV→Option PV:=fun _=>none
theorem Qce:∀ ps r,Xb ps=some r→ps.length=2:=fun _ _ h=>nomatch h
def Qaz (r:List PV→Option PV):MSt:=(sIf (bNot (mTru (Qj r (Qc (bin2 pIx (mVar 0) (mVar 2)) (Qc (bin2 pIx (mVar 1) (mVar 2)) aNil))))) (sRet (mC (.bl false))) sNx)
def Zb (r:List PV→Option PV):MSt:=(sSeq (sIf (mTru (mIsi Qia (mVar 1))) (sRet (vAnd (mIsi Qia (mVar 0)) (bin2 pEq (mVar 0) (mVar 1)))) sNx)
 (sSeq (sIf (mTru (mIsi isInt (mVar 1))) (sRet (vAnd (mIsi isInt (mVar 0)) (vAnd (vNot (mIsi isBl (mVar 0))) (bin2 pEq (mVar 0) (mVar 1))))) sNx)
 (sSeq (sIf (bOr (bNot (mTru (mIsi QjS (mVar 0)))) (truB (bin2 pNe (Qj pLen (Qc (mVar 0) aNil)) (Qj pLen (Qc (mVar 1) aNil))))) (sRet (mC (.bl false))) sNx)
 (sSeq (Qcx (iRg1 (Qj pLen (Qc (mVar 1) aNil))) (gSet 2) (Qaz r))
 (sRet (mC (.bl true)))))))
def Yj:List PV→Option PV:=runV 3 2 (Zb Xb)
theorem Qcd:∀ ps r,Yj ps=some r→ps.length=2:=Qt
def Yi:List PV→Option PV:=runV 3 2 (Zb Yj)
theorem Qcc:∀ ps r,Yi ps=some r→ps.length=2:=Qt
def Yh:List PV→Option PV:=runV 3 2 (Zb Yi)
theorem Qcb:∀ ps r,Yh ps=some r→ps.length=2:=Qt
def Yg:List PV→Option PV:=runV 3 2 (Zb Yh)
theorem Qca:∀ ps r,Yg ps=some r→ps.length=2:=Qt
def Yf:List PV→Option PV:=runV 3 2 (Zb Yg)
theorem QbZ:∀ ps r,Yf ps=some r→ps.length=2:=Qt
def ZI:List PV→Option PV:=runV 3 2 (Zb Yf)
theorem QbY:∀ ps r,ZI ps=some r→ps.length=2:=Qt
def Qgq:MSt:=(sSeq (sIf (bOr (truB (bin2 pIn (mVar 0) (mC (.tup ((["guess","unless","if"]:List Str).map .str))))) (bNot (truB (ch3 pLe pLe (mN 1) (Qj pLen (Qc (mVar 0) aNil)) (mN 12))))) (sRet (mC (.bl false))) sNx)
 (sRet (Qj QjQ (Qc (mLst (XD (iStr (mVar 0)) 1 [] (gSet 0) Qaq (ch3 pLeS pLeS (mC (.str "a")) (mVar 0) (mC (.str "z"))))) aNil))))
def ZK:List PV→Option PV:=runV 1 1 Qgq
theorem Xm:∀ ps r,ZK ps=some r→ps.length=1:=Qt
def XI:MSt:=(sSeq (sIf (bOr (truB (bin2 pNe (Qj pLen (Qc (mVar 0) aNil)) (mN 4))) (bOr (truB (bin2 pNe (bin2 pIx (mVar 0) (mN 0)) (mC (.str "guess")))) (truB (bin2 pNe (bin2 pIx (mVar 0) (mN 2)) (mC (.str "unless")))))) (sRet (mC (.bl false))) sNx)
 (sRet (vAnd (Qj ZK (Qc (bin2 pIx (mVar 0) (mN 1)) aNil)) (Qj ZK (Qc (bin2 pIx (mVar 0) (mN 3)) aNil)))))
def QI:List PV→Option PV:=runV 1 1 XI
theorem QbX:∀ ps r,QI ps=some r→ps.length=1:=Qt
def XW:MSt:=(sSeq (sIf (truB (bin2 pEq (Qj pLen (Qc (mVar 0) aNil)) (mN 1))) (sRet (Qj ZK (Qc (bin2 pIx (mVar 0) (mN 0)) aNil))) sNx)
 (sSeq (sIf (bOr (truB (bin2 pEq (Qj pLen (Qc (mVar 0) aNil)) (mN 2))) (truB (bin2 pNe (bin2 pIx (mVar 0) (mN 1)) (mC (.str "if"))))) (sRet (mC (.bl false))) sNx)
 (sRet (Qj QjQ (Qc (mLst (XD (iLst (mLst (bin2 pCat (mLst (sl3 pCut (mVar 0) mNo (mSo (mN 1)))) (mLst (sl3 pCut (mVar 0) (mSo (mN 2)) mNo))))) 1 [] (gSet 0) Qaq (Qj ZK (Qc (mVar 0) aNil)))) aNil)))))
def QO:List PV→Option PV:=runV 1 1 XW
theorem Qcr:∀ ps r,QO ps=some r→ps.length=1:=Qt
def Qcm:MSt:=(sSeq (ZB [0] 2 (mMt "str" Qbi (mVar 0) (Qc (mC (.str " ")) aNil)))
 (sSeq (sIf (mTru (Qj QI (Qc (mVar 2) aNil))) (sRet (mTup (Qc (mC (.str "guess")) (Qc (bin2 pIx (mVar 2) (mN 1)) (Qc (bin2 pIx (mVar 2) (mN 3)) aNil))))) sNx)
 (sSeq (sIf (bNot (mTru (Qj QO (Qc (mVar 2) aNil)))) sNo sNx)
 (sSeq (sSet [2] 3 (Qj Xe (Qc (mLst (sl3 pCut (mVar 2) (mSo (mN 2)) mNo)) aNil)))
 (sSeq (sIf (truB (bin2 pGt (Qj pLen (Qc (mVar 3) aNil)) (mN 6))) sNo sNx)
 (sSeq (sIf (truB (bin2 pLt (Qj QcU (Qc (mVar 3) aNil)) (Qj pLen (Qc (mVar 3) aNil)))) sNo sNx)
 (sRet (mTup (Qc (mC (.str "rule")) (Qc (bin2 pIx (mVar 2) (mN 0)) (Qc (mVar 3) aNil)))))))))))
def Zj:List PV→Option PV:=runV 4 2 Qcm
theorem Qej:∀ ps r,Zj ps=some r→ps.length=2:=Qt
def QdB:MSt:=(sRetO (XD (iLst (mVar 0)) 1 [1] (gSet 0) (truB (bin2 pEq (bin2 pIx (mVar 0) (mN 0)) (mVar 1))) (mVar 0)))
def QL:List PV→Option PV:=runV 2 2 QdB
theorem Ya:∀ ps r,QL ps=some r→ps.length=2:=Qt
def Qbw:MSt:=(sSeq (sApp [2] 1 (bin2 pIx (mVar 2) (mN 1)))
 (sExM [2,2,2] 1 (mIfE (truB (bin2 pEq (bin2 pIx (mVar 2) (mN 0)) (mC (.str "guess")))) (mLst (mLim (Qc (bin2 pIx (mVar 2) (mN 2)) aNil))) (bin2 pIx (mVar 2) (mN 2)))))
def QeB:MSt:=(sSeq (ZB [] 1 (mLim aNil))
 (sSeq (sFor [0] (iLst (mVar 0)) (gSet 2) Qbw)
 (QbS 1)))
def ZX:List PV→Option PV:=runV 3 1 QeB
theorem Qbc:∀ ps r,ZX ps=some r→ps.length=1:=Qt
def QbN:MSt:=(sSeq (sIf (bOr (truB (bin2 pGt (Qj pLen (Qc (Qj QL (Qc (mVar 0) (Qc (mC (.str "guess")) aNil))) aNil)) (mN 8))) (truB (bin2 pGt (Qj pLen (Qc (Qj QL (Qc (mVar 0) (Qc (mC (.str "rule")) aNil))) aNil)) (mN 40)))) (sRet (mC (.bl true))) sNx)
 (sRet (bin2 pGt (Qj QbI (Qc (Qj ZX (Qc (mVar 0) aNil)) aNil)) (mN 30))))
def Zp:List PV→Option PV:=runV 1 1 QbN
theorem Qcq:∀ ps r,Zp ps=some r→ps.length=1:=Qt
def Qbt:MSt:=(sSeq (sIf (truB (bin2 pEq (bin2 pIx (mVar 0) (mN 0)) (mC (.str "guess")))) (sRet (mTup (Qc (mC (.str "guess")) (Qc (bin2 pIx (mVar 0) (mN 1)) aNil)))) sNx)
 (sRet (mTup (Qc (mC (.str "rule")) (Qc (bin2 pIx (mVar 0) (mN 1)) (Qc (Qj Xe (Qc (mLst (Qj Qeg (Qc (bin2 pIx (mVar 0) (mN 2)) aNil))) aNil)) aNil))))))
def ZC:List PV→Option PV:=runV 1 1 Qbt
theorem QaD:∀ ps r,ZC ps=some r→ps.length=1:=Qt
def Qay:MSt:=(sSeq (sSet [3,2] 4 (Qj Zj (Qc (mVar 3) (Qc (mVar 2) aNil))))
 (sSeq (sIf (truB (bin2 pIn (Qj ZC (Qc (mVar 4) aNil)) (mLst (XD (iLst (mVar 1)) 1 [] (gSet 0) Qaq (Qj ZC (Qc (mVar 0) aNil)))))) sNo sNx)
 (sSeq (sApp [4] 1 (mVar 4))
 (sIf (mTru (Qj Zp (Qc (mVar 1) aNil))) sNo sNx))))
def QdJ:MSt:=(sSeq (ZB [] 1 (mLim aNil))
 (sSeq (sFor [0] (Qj QfE (Qc (mVar 0) aNil)) (QgB 2 3) Qay)
 (QbS 1)))
def Yl:List PV→Option PV:=runV 5 1 QdJ
theorem QdS:∀ ps r,Yl ps=some r→ps.length=1:=Qt
def Xk:MSt:=(sIf (bAnd (truB (bin2 pEq (bin2 pIx (mVar 3) (mN 0)) (mC (.str "rule")))) (truB (bin2 pIn (bin2 pIx (mVar 3) (mN 1)) (mVar 1)))) sNo sNx)
def QaE:MSt:=(sSeq (ZB [0] 1 (XD (iLst (Qj QL (Qc (mVar 0) (Qc (mC (.str "guess")) aNil)))) 1 [] (gSet 0) Qaq (bin2 pIx (mVar 0) (mN 1))))
 (sFor [0] (Qj QfE (Qc (mVar 0) aNil)) (QgB 2 3) Xk))
def Zf:List PV→Option PV:=runV 4 1 QaE
theorem Qby:∀ ps r,Zf ps=some r→ps.length=1:=Qt
def QeC:MSt:=(sSeq (ZB [0] 1 (XD (iLst (Qj QL (Qc (mVar 0) (Qc (mC (.str "guess")) aNil)))) 1 [] (gSet 0) Qaq (bin2 pIx (mVar 0) (mN 1))))
 (sRet (Qj Xe (Qc (mLst (bin2 pCat (mLst (Qj Qea (Qc (mVar 1) aNil))) (mLst (Qdz (Qc (Qj ZX (Qc (mVar 0) aNil)) aNil) (Qc (mVar 1) aNil))))) aNil))))
def YN:List PV→Option PV:=runV 2 1 QeC
theorem Qek:∀ ps r,YN ps=some r→ps.length=1:=Qt
def QaF:MSt:=(sSeq (ZB [1,0] 2 (Qj Qea (Qc (mLst (XD (iSeq (bin2 pIx (mVar 1) (mN 2))) 1 [0] (gSet 0) Qaq (mMtT QaU (mVar 1) (Qc (mVar 0) aNil)))) aNil)))
 (sRet (mTup (Qc (mMtT QaU (mVar 0) (Qc (bin2 pIx (mVar 1) (mN 1)) aNil)) (Qc (Qj Xe (Qc (mVar 2) aNil)) aNil)))))
def Zg:List PV→Option PV:=runV 3 2 QaF
theorem Qbz:∀ ps r,Zg ps=some r→ps.length=2:=Qt
def QaG:MSt:=(sSeq (ZB [1] 2 (Qj QeL (Qc (Qj QL (Qc (mVar 1) (Qc (mC (.str "guess")) aNil))) aNil)))
 (sSeq (sSet [2,0] 3 (Qj Xe (Qc (mLst (XD (iLst (mVar 2)) 1 [0] (gSet 0) Qaq (mMtT QaU (mVar 1) (Qc (bin2 pIx (mVar 0) (mN 2)) aNil)))) aNil)))
 (sSeq (sSet [1,0] 4 (Qj Xe (Qc (mLst (XD (iLst (Qj QL (Qc (mVar 1) (Qc (mC (.str "rule")) aNil)))) 1 [0] (gSet 0) Qaq (Qj Zg (Qc (mVar 1) (Qc (mVar 0) aNil))))) aNil)))
 (sRet (mTup (Qc (Qj pLen (Qc (mVar 0) aNil)) (Qc (mVar 3) (Qc (mVar 4) aNil))))))))
def Zh:List PV→Option PV:=runV 5 2 QaG
theorem QbA:∀ ps r,Zh ps=some r→ps.length=2:=Qt
def QcC:MSt:=(sSeq (sSet [0] 1 (Qj Yl (Qc (mVar 0) aNil)))
 (sSeq (sExE [1] (Qj Zf (Qc (mVar 1) aNil)))
 (sSeq (sSet [1] 2 (Qj YN (Qc (mVar 1) aNil)))
 (sRet (mTup (Qc (mVar 2) (Qc (Qj Zh (Qc (mVar 2) (Qc (mVar 1) aNil))) aNil)))))))
def ZN:List PV→Option PV:=runV 3 1 QcC
theorem Qdc:∀ ps r,ZN ps=some r→ps.length=1:=Qt
def QeD:MSt:=(sRet (mIfE (mTru (mVar 0)) (mLst (mMt "str" Qbi (mVar 0) (Qc (mC (.str "\n")) aNil))) (mLst (mLim aNil))))
def YO:List PV→Option PV:=runV 1 1 QeD
theorem Qel:∀ ps r,YO ps=some r→ps.length=1:=Qt
def QdK:MSt:=(sRet (Qj ZN (Qc (Qj YO (Qc (mVar 0) aNil)) aNil)))
def Ym:List PV→Option PV:=runV 1 1 QdK
theorem QdT:∀ ps r,Ym ps=some r→ps.length=1:=Qt
def QN:MSt:=(sIf (truB (bin2 pEq (bin2 pIx (mVar 3) (mN 0)) (mC (.str "guess")))) (QhH 1 (bin2 pIx (mVar 3) (mN 1)) (mC (.bl true))) sNx)
def Zd:MSt:=(sIf (truB (bin2 QgX (mVar 5) (mVar 1))) (QhH 2 (mVar 5) (mC (.bl true))) sNx)
def Zc:MSt:=(sSeq (ZB [3,3] 4 (mLim (Qc (bin2 pIx (mVar 3) (mN 1)) (Qc (bin2 pIx (mVar 3) (mN 2)) aNil))))
 (sSeq (sIf (truB (bin2 pEq (bin2 pIx (mVar 3) (mN 0)) (mC (.str "rule")))) (ZB [3,3] 4 (bin2 pCat (mLst (mLim (Qc (bin2 pIx (mVar 3) (mN 1)) aNil))) (mLst (Qj QfD (Qc (bin2 pIx (mVar 3) (mN 2)) aNil))))) sNx)
 (sFor [4] (iLst (mVar 4)) (gSet 5) Zd)))
def Zz:MSt:=(QhH 6 (mVar 5) (Qj pLen (Qc (mLst (XD (iDct (mVar 1)) 1 [5] (gSet 0) (truB (bin2 pLtS (mVar 0) (mVar 1))) (mVar 0))) aNil)))
def Yd:MSt:=(QhH 6 (mVar 5) (bin2 pAdd (Qj QhM (Qc (mVar 1) aNil)) (Qj pLen (Qc (mLst (XD (iDct (mVar 2)) 1 [5] (gSet 0) (truB (bin2 pLtS (mVar 0) (mVar 1))) (mVar 0))) aNil))))
def Qae:MSt:=(sSeq (QjO 1)
 (sSeq (QjO 2)
 (sSeq (sFor [0] (iLst (mVar 0)) (gSet 3) QN)
 (sSeq (sFor [0] (iLst (mVar 0)) (gSet 3) Zc)
 (sSeq (QjO 6)
 (sSeq (sEx 1 (sFor [1] (iDct (mVar 1)) (gSet 5) Zz))
 (sSeq (sEx 2 (sFor [2] (iDct (mVar 2)) (gSet 5) Yd))
 (sEx 6 (sRet (mVar 6))))))))))
def QU:List PV→Option PV:=runV 7 1 Qae
theorem QaZ:∀ ps r,QU ps=some r→ps.length=1:=Qt
def Xn:MSt:=(QcM [3] 2 (mVar 3) (bin2 QgA (mVar 1) (mVar 3)))
def Yb:MSt:=(sIf (bAnd (truB (bin2 pEq (bin2 pIx (mVar 6) (mN 0)) (mC (.str "guess")))) (truB (bin2 pEq (bin2 pIx (mVar 6) (mN 1)) (mVar 5)))) (sApp [1,6] 4 (bin2 QgA (mVar 1) (bin2 pIx (mVar 6) (mN 2)))) sNx)
def YC:MSt:=(sFor [0] (iLst (mVar 0)) (gSet 6) Yb)
def YB:MSt:=(sIf (truB (bin2 pEq (bin2 pIx (mVar 6) (mN 0)) (mC (.str "rule")))) (sApp [1,6,6,1] 7 (mTup (Qc (bin2 QgA (mVar 1) (bin2 pIx (mVar 6) (mN 1))) (Qc (Qj Xe (Qc (mLst (Qj Qea (Qc (mLst (XD (iTpl (bin2 pIx (mVar 6) (mN 2))) 1 [1] (gSet 0) Qaq (bin2 QgA (mVar 1) (mVar 0)))) aNil))) aNil)) aNil)))) sNx)
def QcE:MSt:=(sSeq (sSet [0] 1 (Qj QU (Qc (mVar 0) aNil)))
 (sSeq (ZB [1] 2 (bin2 pRep (mLst (mLim (Qc (mC (.str "")) aNil))) (Qj QhM (Qc (mVar 1) aNil))))
 (sSeq (sEx 1 (sFor [1] (iDct (mVar 1)) (gSet 3) Xn))
 (sSeq (ZB [] 4 (mLim aNil))
 (sSeq (sFor [2] (iLst (mVar 2)) (gSet 5) YC)
 (sSeq (ZB [] 7 (mLim aNil))
 (sSeq (sFor [0] (iLst (mVar 0)) (gSet 6) YB)
 (sRet (mTup (Qc (Qj Xe (Qc (mVar 2) aNil)) (Qc (mTup (Qc (Qj pLen (Qc (mVar 2) aNil)) (Qc (Qj Xe (Qc (mVar 4) aNil)) (Qc (Qj Xe (Qc (mVar 7) aNil)) aNil)))) aNil)))))))))))
def ZO:List PV→Option PV:=runV 8 1 QcE
theorem Qdd:∀ ps r,ZO ps=some r→ps.length=1:=Qt
def XX:MSt:=(sSeq (sIf (truB (bin2 pEq (bin2 pIx (mVar 0) (mN 0)) (mC (.str "guess")))) (sRet (bin2 pAdd (bin2 pAdd (bin2 pAdd (mC (.str "guess ")) (bin2 pIx (mVar 0) (mN 1))) (mC (.str " unless "))) (bin2 pIx (mVar 0) (mN 2)))) sNx)
 (sSeq (sIf (truB (bin2 pEq (Qj pLen (Qc (bin2 pIx (mVar 0) (mN 2)) aNil)) (mN 0))) (sRet (bin2 pIx (mVar 0) (mN 1))) sNx)
 (sRet (bin2 pAdd (bin2 pAdd (bin2 pIx (mVar 0) (mN 1)) (mC (.str " if "))) (mMt "str" QfC (mC (.str " ")) (Qc (bin2 pIx (mVar 0) (mN 2)) aNil))))))
def Zq:List PV→Option PV:=runV 1 1 XX
theorem Qcs:∀ ps r,Zq ps=some r→ps.length=1:=Qt
def Qgp:MSt:=(sSeq (sSet [0] 1 (Qj Yn (Qc (mVar 0) aNil)))
 (sSeq (sSet [1] 2 (mMt "str" QhN (mC (.str "\n")) (Qc (mLst (XD (iLst (mVar 1)) 1 [] (gSet 0) Qaq (Qj Zq (Qc (mVar 0) aNil)))) aNil)))
 (sRet (Qj ZI (Qc (Qj Ym (Qc (mVar 2) aNil)) (Qc (Qj ZO (Qc (mVar 1) aNil)) aNil))))))
def Xa:List PV→Option PV:=runV 3 1 Qgp
end DH
namespace DH
open PySem PySem.Spec PyProof.Rows L2 L2.PM
open Builtin.Str StrLaws
def posL (c:Nat):List Nat→Nat→List Nat
 | [],_=>[]
 | d :: l,a=>if d=c then a :: posL c l (a + 1) else posL c l (a + 1)
def splL (c:Nat):List Nat→List (List Nat)
 | []=>[[]]
 | d :: l=>if d=c then [] :: splL c l else match splL c l with
  | h :: t=>(d :: h) :: t
  | []=>[[d]]
theorem Qdr {c:Nat}:∀ {w:List Nat},c∉w→splL c w=[w]
 | [],_=>rfl
 | d :: w,h=>by
  unfold splL
  rw [if_neg (fun e=>h (by simp [e])),Qdr (fun e=>h (by simp [e]))]
theorem QeV {c:Nat}:∀ {w rest:List Nat},c∉w→splL c (w++c :: rest)=w :: splL c rest
 | [],rest,_=>by
  show splL c (c :: rest)=_
  conv=>lhs;unfold splL
  rw [if_pos rfl]
 | d :: w,rest,h=>by
  show splL c (d :: (w++c :: rest))=_
  conv=>lhs;unfold splL
  rw [if_neg (fun e=>h (by simp [e])),QeV (fun e=>h (by simp [e]))]
theorem Qkt (x:Str) (c i:Nat):subAt x ⟨#[c]⟩ i=true↔x.cps.toList[i]?=some c:=by
 rw [subAt_eq]
 show ((x.cps.toList.drop i).take 1==[c])=true↔_
 rw [beq_iff_eq]
 constructor
 ·intro h
  have:=congrArg (fun l:List Nat=>l[0]?) h
  simpa using this
 ·intro h
  rw [List.drop_eq_getElem_cons (List.getElem?_eq_some_iff.mp h).1,(List.getElem?_eq_some_iff.mp h).2]
  simp
theorem QeN (x:Str) (c:Nat):∀ (k a:Nat) (arr:Array Nat) (f:Nat),a + k=x.length + 1→arr.size≤a→f≤a →
  (forIn (List.range' a k) (arr,f) (occBody x ⟨#[c]⟩ x.length (x.length + 1))).run.fst.toList=arr.toList++posL c (x.cps.toList.drop a) a
 | 0,a,arr,f,h1,_,_=>by
  have hx:x.cps.toList.length=x.length:=by simp [Str.length]
  have:x.cps.toList.drop a=[]:=List.drop_eq_nil_of_le (by omega)
  rw [this]
  simp [posL]
 | k + 1,a,arr,f,h1,h2,h3=>by
  rw [List.range'_succ,List.forIn_cons]
  by_cases hs:subAt x ⟨#[c]⟩ a=true
  ·have hg:=(Qkt x c a).mp hs
   have hl:=(List.getElem?_eq_some_iff.mp hg).1
   have hx:x.cps.toList.length=x.length:=by simp [Str.length]
   have e:occBody x ⟨#[c]⟩ x.length (x.length + 1) a (arr,f)=pure (ForInStep.yield (arr.push a,a + 1)):=by
    unfold occBody
    rw [if_pos]
    ·rfl
    ·simp [hs,h3]
     refine ⟨by omega,?_⟩
     show a + 1≤x.length
     omega
   rw [e]
   refine Eq.trans (QeN x c k (a + 1) (arr.push a) (a + 1) (by omega) (by simp;omega) (Nat.le_refl _)) ?_
   rw [List.drop_eq_getElem_cons hl,(List.getElem?_eq_some_iff.mp hg).2]
   simp [posL]
  ·have e:occBody x ⟨#[c]⟩ x.length (x.length + 1) a (arr,f)=pure (ForInStep.yield (arr,f)):=by
    unfold occBody
    rw [if_neg (by simp [hs])]
    try rfl
   rw [e]
   refine Eq.trans (QeN x c k (a + 1) arr f (by omega) (by omega) (by omega)) ?_
   congr 1
   by_cases hl:a < x.cps.toList.length
   ·rw [List.drop_eq_getElem_cons hl]
    conv=>rhs;unfold posL
    rw [if_neg]
    intro z
    exact hs ((Qkt x c a).mpr (by rw [List.getElem?_eq_getElem hl,z]))
   ·rw [List.drop_eq_nil_of_le (by omega),List.drop_eq_nil_of_le (by omega)]
    rfl
theorem QbG (x:Str) (c:Nat):∀ (n s a:Nat),a + n=x.cps.toList.length→s≤a→∃ h t,splL c (x.cps.toList.drop a)=h :: t ∧
  partsFrom x 1 s (posL c (x.cps.toList.drop a) a)=⟨((x.cps.toList.drop s).take (a - s)++h).toArray⟩ :: t.map fun l=>(⟨l.toArray⟩:Str)
 | 0,s,a,h1,h2=>by
  rw [List.drop_eq_nil_of_le (by omega)]
  refine ⟨[],[],rfl,?_⟩
  show [strSub x s x.length]=_
  have hx:x.cps.toList.length=x.length:=by simp [Str.length]
  simp only [List.append_nil,List.map_nil]
  congr 1
  apply Str.ext'
  apply Array.toList_inj.mp
  rw [strSub_toList]
  show _=(List.take (a - s) (List.drop s x.cps.toList))
  rw [show x.length - s=a - s by omega]
 | n + 1,s,a,h1,h2=>by
  have hl:a < x.cps.toList.length:=by omega
  rw [List.drop_eq_getElem_cons hl]
  unfold splL posL
  by_cases hc:x.cps.toList[a]=c
  ·rw [if_pos hc,if_pos hc]
   obtain ⟨h,t,e1,e2⟩:=QbG x c n (a + 1) (a + 1) (by omega) (Nat.le_refl _)
   refine ⟨[],_,rfl,?_⟩
   show strSub x s a :: partsFrom x 1 (a + 1) _=_
   rw [e2,e1]
   congr 1
   ·apply Str.ext'
    apply Array.toList_inj.mp
    rw [strSub_toList]
    simp
   ·simp
  ·rw [if_neg hc,if_neg hc]
   obtain ⟨h,t,e1,e2⟩:=QbG x c n s (a + 1) (by omega) (by omega)
   rw [e1]
   refine ⟨x.cps.toList[a] :: h,t,rfl,?_⟩
   rw [e2]
   congr 2
   rw [show a + 1 - s=(a - s) + 1 by omega,List.take_succ_eq_append_getElem (by rw [List.length_drop];omega),List.append_assoc,List.getElem_drop]
   have e3:s + (a - s)=a:=by omega
   simp only [List.singleton_append,e3]
def sp:Str := " "
theorem sp_is:sp=⟨#[32]⟩:=by decide +kernel
theorem split_sp (x:Str):Txt.split x sp=(splL 32 x.cps.toList).map fun l=>(⟨l.toArray⟩:Str):=by
 have hx:x.cps.toList.length=x.length:=by simp [Str.length]
 have ho:occurrences x sp 0 x.length (x.length + 1)=posL 32 x.cps.toList 0:=by
  rw [occ_eq]
  have:=QeN x 32 (x.length + 1) 0 #[] 0 (by omega) (by simp) (Nat.le_refl _)
  rw [← sp_is] at this
  simpa using this
 obtain ⟨h,t,e1,e2⟩:=QbG x 32 x.cps.toList.length 0 0 (by omega) (Nat.le_refl _)
 rw [List.drop_zero] at e1 e2
 have main:partsFrom x 1 0 (posL 32 x.cps.toList 0)=(splL 32 x.cps.toList).map fun l=>(⟨l.toArray⟩:Str):=by
  rw [e2,e1]
  simp
 unfold Txt.split
 rw [ho]
 by_cases h0:posL 32 x.cps.toList 0=[]
 ·rw [h0] at main
  have one:[x]=(splL 32 x.cps.toList).map fun l=>(⟨l.toArray⟩:Str):=by
   rw [← main]
   show [x]=[strSub x 0 x.length]
   rw [sub_whole]
  rw [h0]
  split
  ·exact one
  ·rw [if_pos (show ([]:List Nat).isEmpty=true from rfl)];exact one
 ·have hk:¬ (decide (x.length < sp.length)||decide (Builtin.Str.strKind x < Builtin.Str.strKind sp))=true:=by
   have k1:Builtin.Str.strKind sp=1:=by decide +kernel
   have k2:1≤Builtin.Str.strKind x:=by unfold Builtin.Str.strKind;split;omega;split <;> omega
   have k3:sp.length=1:=rfl
   have k4:0 < x.cps.toList.length:=by
    cases hL:x.cps.toList with
    | nil=>rw [hL] at h0;exact absurd rfl h0
    | cons _ _=>simp
   rw [k1,k3]
   simp
   omega
  rw [if_neg hk,if_neg (by simpa using h0),partsBetween_eq]
  exact main
theorem Qjl:∀ (w:Str) (ws:List Str),(∀ s∈w :: ws,32∉s.cps.toList)→Txt.split (Txt.join sp (w :: ws)) sp=w :: ws:=by
 have key:∀ (w:Str) (ws:List Str),(∀ s∈w :: ws,32∉s.cps.toList)→splL 32 (Txt.join sp (w :: ws)).cps.toList=(w :: ws).map fun s=>s.cps.toList:=by
  intro w ws
  induction ws generalizing w with
  | nil =>
   intro h
   rw [Xu,Qdr (h w (by simp))]
   rfl
  | cons v ws ih =>
   intro h
   rw [ZW]
   have e:(w++sp++Txt.join sp (v :: ws)).cps.toList=w.cps.toList++32 :: (Txt.join sp (v :: ws)).cps.toList:=by
    show (w.cps++sp.cps++(Txt.join sp (v :: ws)).cps).toList=_
    rw [show sp.cps = #[32] by rw [sp_is]]
    simp
   rw [e,QeV (h w (by simp)),ih v fun s hs=>h s (List.mem_cons_of_mem _ hs)]
   rfl
 intro w ws h
 rw [split_sp,key w ws h,List.map_map]
 exact List.map_id' _
end DH
namespace DH
open PySem PySem.Spec PyProof.Rows L2 L2.PM
def Low (s:Str):Prop:=∀ c∈s.cps.toList,97≤c∧c≤122
def no3:List Str:=["guess","unless","if"]
structure Wd (s:Str):Prop where
 l1:1≤s.length
 l2:s.length≤12
 low:Low s
 no:s∉no3
theorem ZT {s:Str} (h:Low s):PyData.strOk s=true:=by
 unfold PyData.strOk
 rw [Array.all_eq_true']
 intro c hc
 have:=h c (by simpa using hc)
 simp
 omega
theorem QlX {s:Str} (h:Low s):(s.cps.all (· < 128))=true:=by
 rw [Array.all_eq_true']
 intro c hc
 have:=h c (by simpa using hc)
 simp
 omega
theorem QfH {s:Str} (h:Low s):32∉s.cps.toList:=fun z=>by
 have:=h 32 z
 omega
theorem QkS {a b:Str} (h1:Low a) (h2:Low b):Low (a++b):=fun c hc=>by
 have hc:c∈(a.cps++b.cps).toList:=hc
 rw [Array.toList_append] at hc
 rcases List.mem_append.mp hc with z | z
 ·exact h1 c z
 ·exact h2 c z
theorem ok3:∀ s∈no3,PyData.strOk s=true:=by decide +kernel
theorem no_any {s:Str} (h:s∉no3):no3.any (·==s)=false:=by
 rw [List.any_eq_false]
 intro x hx e
 exact h (by rw [← beq_iff_eq.mp e];exact hx)
theorem pIn_3 {s:Str} (h:Low s):pIn (.str s) (.tup [.str "guess",.str "unless",.str "if"])=some (.bl (no3.any (·==s))):=by
 show pIn (.str s) (.tup (no3.map .str))=_
 rw [pIn_st (ZT h) ok3]
theorem pIn_no {s:Str} (h:Wd s):pIn (.str s) (.tup [.str "guess",.str "unless",.str "if"])=some (.bl false):=by
 rw [pIn_3 h.low,no_any h.no]
theorem sLe_a {c:Nat} (h:97≤c):sLe "a" ⟨#[c]⟩=true:=by
 unfold sLe
 rw [show ("a":Str).cps.toList=[97] by decide +kernel]
 show (!decide ([c] < [97]))=true
 rw [StrLaws.lt_cons_cons,StrLaws.lt_nil_nil]
 simp
 omega
theorem sLe_z {c:Nat} (h:c≤122):sLe ⟨#[c]⟩ "z"=true:=by
 unfold sLe
 rw [show ("z":Str).cps.toList=[122] by decide +kernel]
 show (!decide ([122] < [c]))=true
 rw [StrLaws.lt_cons_cons,StrLaws.lt_nil_nil]
 simp
 omega
theorem pLeS_s (a b:Str):pLeS (.str a) (.str b)=some (.bl (sLe a b)):=rfl
theorem ev_iStr (m:MEx) (γ:PEnv):iStr m γ=(m γ).bind itX:=rfl
theorem itX_low {s:Str} (h:Low s):itX (.str s)=some (Qbh s):=if_pos (QlX h)
theorem signs_len (s:Str):(Qbh s).length=s.length:=by unfold Qbh;simp [Str.length]
theorem QkO (bs:List Bool):QjQ [.lst (bs.map .bl)]=some (.bl (bs.all id)):=by
 show (bls? (bs.map PV.bl)).map (fun bs=>PV.bl (bs.all id))=_
 rw [Qjc];rfl
theorem EVl:type_of% (And.intro (And.intro (And.intro (And.intro @List.length_cons.{0} @List.length_nil.{0}) (And.intro @if_true.{1} @List.map_cons.{0,0})) (And.intro (And.intro @List.map_nil.{0,0} @List.replicate_zero.{0}) (And.intro @List.replicate_succ.{0} (And.intro @List.cons_append.{0} @List.nil_append.{0})))) (And.intro (And.intro (And.intro @List.getElem?_cons_zero.{0} @List.getElem?_cons_succ.{0}) (And.intro @Option.bind_some.{0,0} (And.intro @Option.map_some.{0,0} @List.set_cons_zero.{0}))) (And.intro (And.intro @List.set_cons_succ.{0} @List.length_map.{0,0}) (And.intro @List.all_nil.{0} (And.intro @List.all_cons.{0} @List.length_append.{0}))))):=(And.intro (And.intro (And.intro (And.intro @List.length_cons.{0} @List.length_nil.{0}) (And.intro @if_true.{1} @List.map_cons.{0,0})) (And.intro (And.intro @List.map_nil.{0,0} @List.replicate_zero.{0}) (And.intro @List.replicate_succ.{0} (And.intro @List.cons_append.{0} @List.nil_append.{0})))) (And.intro (And.intro (And.intro @List.getElem?_cons_zero.{0} @List.getElem?_cons_succ.{0}) (And.intro @Option.bind_some.{0,0} (And.intro @Option.map_some.{0,0} @List.set_cons_zero.{0}))) (And.intro (And.intro @List.set_cons_succ.{0} @List.length_map.{0,0}) (And.intro @List.all_nil.{0} (And.intro @List.all_cons.{0} @List.length_append.{0})))))
local macro_rules | `(tactic| walk_at "eb")=>`(tactic| first | assumption | omega | (simp only [signs_len,encN_len,List.length_map,List.length_range,List.length_cons,List.length_nil,List.length_append];omega) | decide)
local macro_rules | `(tactic| walk_at "ev")=>`(tactic| try simp (disch:=walk_at "eb") only [pLen_sn,ev_iStr,pLeS_s,signs_len,EVc,EVl,List.length_range])
theorem QbJ {s:Str} (h:Wd s):ZK [.str s]=some (.bl true):=by
 have h1:=h.l1
 have h2:=h.l2
 unfold ZK Qgq
 walk_at "ev"
 rw [pIn_no h]
 walk_at "ev"
 rw [decide_eq_true h1]
 walk_at "ev"
 rw [decide_eq_true h2]
 walk_at "ev"
 rw [itX_low h.low]
 walk_at "ev"
 unfold Qbh
 rw [YA (fun c:Nat=>PV.str ⟨#[c]⟩) (fun _=>PV.bl true) _ fun c hc=>⟨_,rfl,by
  obtain ⟨c1,c2⟩:=h.low c hc
  walk_at "ev"
  rw [sLe_a c1]
  walk_at "ev"
  rw [sLe_z c2]⟩]
 rw [show (s.cps.toList.map fun _=>PV.bl true)=(s.cps.toList.map fun _=>true).map PV.bl by rw [List.map_map];rfl]
 walk_at "ev"
 rw [QkO]
 rw [show (s.cps.toList.map fun _=>true).all id=true by rw [List.all_map];simp]
 rfl
theorem ZV:PyData.strOk ("guess":Str)=true:=by decide +kernel
theorem un_ok:PyData.strOk ("unless":Str)=true:=by decide +kernel
theorem if_ok:PyData.strOk ("if":Str)=true:=by decide +kernel
theorem wd_ne {s:Str} (h:Wd s) {r:Str} (hr:r∈no3):(s==r)=false:=by
 rw [beq_eq_false_iff_ne]
 rintro rfl
 exact h.no hr
theorem Qih {G B:Str} (hG:Wd G) (hB:Wd B):QI [.lst [.str "guess",.str G,.str "unless",.str B]]=some (.bl true):=by
 unfold QI XI
 walk_at "ev"
 rw [show (!0 + 1 + 1 + 1 + 1==4)=false from rfl]
 walk_at "ev"
 rw [Qmx ZV ZV,show (("guess":Str) == "guess")=true by simp]
 walk_at "ev"
 rw [Qmx un_ok un_ok,show (("unless":Str) == "unless")=true by simp]
 walk_at "ev"
 rw [QbJ hG]
 walk_at "ev"
 rw [QbJ hB]
 walk_at "ev"
theorem QeA {H:Str} (hH:Wd H) {ps:List Str} (hl:ps.length≤1000):QI [.lst (.str H :: ps.map .str)]=some (.bl false):=by
 unfold QI XI
 walk_at "ev"
 cases hc:(!(ps.length + 1==4)) with
 | true=>walk_at "ev"
 | false =>
  walk_at "ev"
  rw [Qmx (ZT hH.low) ZV,wd_ne hH (by decide +kernel)]
  walk_at "ev"
theorem QjB {H:Str} (hH:Wd H):QO [.lst [.str H]]=some (.bl true):=by
 unfold QO XW
 walk_at "ev"
 rw [show (0 + 1==1)=true from rfl]
 walk_at "ev"
 rw [QbJ hH]
 walk_at "ev"
theorem cut_01 {α:Type} (x y:α) (l:List α):cutP (x :: y :: l) none (some ((1:Nat):Int))=[x]:=by
 rw [Qlo]
 rfl
theorem cut_2 {α:Type} (x y:α) (l:List α):cutP (x :: y :: l) (some ((2:Nat):Int)) none=l:=by
 rw [Qln]
 rfl
theorem Qif {H:Str} (hH:Wd H) {body:List Str} (hb:∀ s∈body,Wd s) (h0:0 < body.length) (hl:body.length≤1000):QO [.lst (.str H :: .str "if" :: body.map .str)]=some (.bl true):=by
 unfold QO XW
 walk_at "ev"
 rw [show (body.length + 1 + 1==1)=false by rw [beq_eq_false_iff_ne];omega]
 walk_at "ev"
 rw [show (body.length + 1 + 1==2)=false by rw [beq_eq_false_iff_ne];omega]
 walk_at "ev"
 rw [Qmx if_ok if_ok,show (("if":Str) == "if")=true by simp]
 walk_at "ev"
 rw [cut_01,cut_2,pCat_l (by rw [List.length_map];simp;omega),show [PV.str H]++body.map PV.str=(H :: body).map PV.str from rfl]
 walk_at "ev"
 rw [show PV.str H :: body.map PV.str=(H :: body).map PV.str from rfl]
 have hl':((H :: body).map PV.str).length≤100000:=by rw [List.length_map,List.length_cons];omega
 have hall:∀ s∈H :: body,Wd s:=fun s hs=>by
  rcases List.mem_cons.mp hs with rfl | z
  ·exact hH
  ·exact hb s z
 generalize H :: body=ws at *
 walk_at "ev"
 rw [YA PV.str (fun _=>PV.bl true) _ fun s hs=>⟨_,rfl,by
  walk_at "ev"
  rw [QbJ (hall s hs)]⟩]
 rw [show (ws.map fun _=>PV.bl true)=(ws.map fun _=>true).map PV.bl by rw [List.map_map];rfl]
 walk_at "ev"
 rw [QkO,show (ws.map fun _=>true).all id=true by rw [List.all_map];simp]
 rfl
theorem mtK_s {α:Type} (g:PV→List PV→Option α) (q:Option (List PV)) (z:Str):mtK "str" g q (.str z)=q.bind (g (.str z)):=rfl
theorem Qbr {w:Str} {ws:List Str} (h:∀ s∈w :: ws,32∉s.cps.toList) (hl:(Txt.join sp (w :: ws)).length≤9000):Qbi (.str (Txt.join sp (w :: ws))) [.str " "]=some ((w :: ws).map .str):=by
 show (if ((" ":Str).length==0)=false∧(Txt.join sp (w :: ws)).length + 2≤LIM then some ((Txt.split (Txt.join sp (w :: ws)) " ").map PV.str) else none)=_
 rw [if_pos ⟨rfl,Xf (by omega)⟩,show (" ":Str)=sp from rfl,Qjl w ws h]
theorem Qkg:∀ s∈no3,32∉s.cps.toList:=by decide +kernel
local macro_rules | `(tactic| walk_at "ev")=>`(tactic| try simp (disch:=walk_at "eb") only [pLen_sn,ev_iStr,pLeS_s,signs_len,mtK_s,EVc,EVl,List.length_range])
theorem QgN {G B:Str} (hG:Wd G) (hB:Wd B) (r:Nat):Zj [.str (Txt.join sp ["guess",G,"unless",B]),pN r]=some (.tup [.str "guess",.str G,.str B]):=by
 have h1:=hG.l2
 have h2:=hB.l2
 unfold Zj Qcm
 walk_at "ev"
 rw [Qbr (fun s hs=>by
  simp only [List.mem_cons,List.not_mem_nil,or_false] at hs
  rcases hs with rfl | rfl | rfl | rfl
  ·exact Qkg _ (by decide +kernel)
  ·exact QfH hG.low
  ·exact Qkg _ (by decide +kernel)
  ·exact QfH hB.low) (by
  rw [ZM]
  have e1:("guess":Str).length=5:=by decide +kernel
  have e2:("unless":Str).length=6:=by decide +kernel
  have e3:sp.length=1:=rfl
  simp only [List.map_cons,List.map_nil,List.sum_cons,List.sum_nil,List.length_cons,List.length_nil,e1,e2,e3]
  omega)]
 walk_at "ev"
 rw [Qih hG hB]
 walk_at "ev"
theorem QkP:∀ {l:List Str},l.Nodup→once l=l
 | [],_=>rfl
 | x :: l,h=>by
  obtain ⟨h1,h2⟩:=List.nodup_cons.mp h
  unfold once
  rw [QkP h2]
  congr 1
  rw [List.filter_eq_self]
  intro y hy
  have:y≠x:=fun e=>h1 (e ▸ hy)
  simpa using this
theorem QlN {body:List Str} (h:body.Nodup) (hl:body.length < 1000):QcU [.tup (body.map .str)]=some (pN body.length):=by
 show (match Yc (body.map PV.str) with
  | some ss=>if ss.length < 1000 then some (PV.int (once ss).length) else none
  | none=>none)=_
 rw [L2.PM.strs?_map]
 show (if body.length < 1000 then some (PV.int (once body).length) else none)=_
 rw [if_pos hl,QkP h]
 rfl
theorem cut2_p {xs:List PV}:cutP xs (some ((2:Nat):Int)) none=xs.drop 2:=by rw [Qln]
theorem QdI {line H:Str} {parts:List PV} {body:List Str} (r:Nat) (es:Qbi (.str line) [.str " "]=some parts) (hg:QI [.lst parts]=some (.bl false)) (hr:QO [.lst parts]=some (.bl true))
  (hd:parts.drop 2=body.map .str) (hh:parts[0]?=some (.str H)) (hn:body.Nodup) (h6:body.length≤6) (hf:parts.all flat=true):Zj [.str line,pN r]=some (.tup [.str "rule",.str H,.tup (body.map .str)]):=by
 have hbl:(body.map PV.str).length=body.length:=by rw [List.length_map]
 unfold Zj Qcm
 walk_at "ev"
 rw [es]
 walk_at "ev"
 rw [hf]
 walk_at "ev"
 rw [hg]
 walk_at "ev"
 rw [hr]
 walk_at "ev"
 rw [cut2_p,hd]
 walk_at "ev"
 rw [decide_eq_false (show ¬ 6 < body.length by omega)]
 walk_at "ev"
 rw [QlN hn (by omega)]
 walk_at "ev"
 rw [decide_eq_false (Nat.lt_irrefl _)]
 walk_at "ev"
 rw [hh]
 walk_at "ev"
theorem QjC {H:Str} (hH:Wd H) (r:Nat):Zj [.str H,pN r]=some (.tup [.str "rule",.str H,.tup []]):=by
 have h1:=hH.l2
 have es:Qbi (.str H) [.str " "]=some [.str H]:=by
  have:=Qbr (w:=H) (ws:=[]) (fun s hs=>by rw [List.mem_singleton.mp hs];exact QfH hH.low) (by rw [Xu];omega)
  rw [Xu] at this
  exact this
 exact QdI (body:=[]) r es (QeA (ps:=[]) hH (by simp)) (QjB hH) rfl rfl .nil (by simp) rfl
theorem Qig {H:Str} (hH:Wd H) {body:List Str} (hb:∀ s∈body,Wd s) (h0:0 < body.length) (hn:body.Nodup) (h6:body.length≤6) (r:Nat) :
  Zj [.str (Txt.join sp (H :: "if" :: body)),pN r]=some (.tup [.str "rule",.str H,.tup (body.map .str)]):=by
 have es:=Qbr (w:=H) (ws := "if" :: body) (fun s hs=>by
  rcases List.mem_cons.mp hs with rfl | z
  ·exact QfH hH.low
  ·rcases List.mem_cons.mp z with rfl | z
   ·exact Qkg _ (by decide +kernel)
   ·exact QfH (hb s z).low) (by
  rw [ZM]
  have e1:("if":Str).length=2:=by decide +kernel
  have e3:sp.length=1:=rfl
  have e4:=hH.l2
  have e5:=QbU body 12 fun s hs=>(hb s hs).l2
  simp only [List.map_cons,List.sum_cons,List.length_cons,e1,e3]
  omega)
 exact QdI (body:=body) r es (QeA (ps := "if" :: body) hH (by simp;omega)) (Qif hH hb h0 (by omega)) rfl rfl hn h6 (by simp [flat])
theorem Qfd {i:Nat} (h1:i < 26):pIx (.str "abcdefghijklmnopqrstuvwxyz") (pN i)=some (.str ⟨#[97 + i]⟩):=by
 have key:∀ i:_root_.Fin 26,atI ("abcdefghijklmnopqrstuvwxyz":Str).cps.toList ((i:Nat):Int)=some (97 + (i:Nat)):=by decide +kernel
 have:=key ⟨i,h1⟩
 dsimp only at this
 show (if ("abcdefghijklmnopqrstuvwxyz":Str).length≤LIM then (atI ("abcdefghijklmnopqrstuvwxyz":Str).cps.toList (i:Int)).map (fun c=>PV.str ⟨#[c]⟩) else none)=_
 rw [if_pos (Xf (by decide +kernel)),this]
 rfl
theorem QcO {g:PV→PEnv→Option PEnv} {b:MSt} (I:Nat→PEnv→Prop) (n:Nat) (γ:PEnv) (h0:I 0 γ)
  (step:∀ j γ,j < n→I j γ→∃ γ1 γ2,g (pN j) γ=some γ1∧b γ1=some (.nx γ2)∧I (j + 1) γ2):∃ γ',forL g b (encN (List.range n)) γ=some (.nx γ')∧I n γ':=by
 obtain ⟨γ',e,h⟩:=Zy (g:=g) (b:=b) pN (fun pre γ=>I pre.length γ) (List.range n) (List.range n) [] γ rfl h0 (fun pre x post γ hp hI=>by
  have hl:=congrArg List.length hp
  simp at hl
  have hx:(List.range n)[pre.length]?=some x:=by rw [← hp];simp
  rw [List.getElem?_range (by omega)] at hx
  cases hx
  obtain ⟨γ1,γ2,h1,h2,h3⟩:=step pre.length γ (by omega) hI
  exact ⟨γ1,γ2,h1,h2,by simpa using h3⟩)
 rw [List.length_range] at h
 exact ⟨γ',e,h⟩
theorem QiK (c:Nat):(⟨#[c]⟩:Str).length=1:=rfl
theorem low1 {i:Nat} (h:i < 26):Low ⟨#[97 + i]⟩:=fun c hc=>by
 simp at hc
 omega
theorem QlW:Low ("":Str):=fun c hc=>by
 rw [show ("":Str).cps.toList=[] by decide +kernel] at hc
 cases hc
local macro_rules | `(tactic| walk_at "ev")=>`(tactic| try simp (disch:=walk_at "eb") only [pLen_sn,mtK_s,EVc,EVl,List.length_range])
theorem Qhb (n0:Nat) {size:Nat} (hs:size≤12):∃ s:Str,QP [pN n0,pN size]=some (.str s)∧s.length=size∧Low s:=by
 unfold QP QcD
 walk_at "ev"
 obtain ⟨γ',e,number,s,s4,rfl,h1,h2⟩:=QcO (g:=gSet 4) (b:=XY) (fun j γ=>∃ (number:Nat) (s:Str) (s4:Slot),γ=[.fz (pN number),.fz (pN size),.fz (.str "abcdefghijklmnopqrstuvwxyz"),.fz (.str s),s4]∧s.length=j∧Low s)
  size [.fz (pN n0),.fz (pN size),.fz (.str "abcdefghijklmnopqrstuvwxyz"),.fz (.str ""),.un] ⟨n0,"",.un,rfl,rfl,QlW⟩ (by
   rintro j γ hj ⟨number,s,s4,rfl,h1,h2⟩
   have hm:(number * 69621 + 1) % 2147483647 / 17 % 26 < 26:=Nat.mod_lt _ (by decide)
   refine ⟨_,_,rfl,?_,(number * 69621 + 1) % 2147483647,s++⟨#[97 + (number * 69621 + 1) % 2147483647 / 17 % 26]⟩,.fz (pN j),rfl,by rw [QbV,QiK];omega,QkS h2 (low1 hm)⟩
   unfold XY
   generalize hn:(number * 69621 + 1) % 2147483647 / 17 % 26=i at *
   walk_at "ev"
   rw [hn,Qfd hm]
   have:=QiK (97 + i)
   walk_at "ev")
 rw [e]
 walk_at "ev"
 exact ⟨s,rfl,h1,h2⟩
theorem idx_lo (u:Option Int) (n:Nat):Builtin.Str.strSliceIndices none u 1 n=Builtin.Str.strSliceIndices (some ((0:Nat):Int)) u 1 n:=by
 have e0:max (0:Int) (min (((0:Nat):Int)) (n:Int))=0:=by omega
 unfold Builtin.Str.strSliceIndices
 simp only [show ((1:Int) > 0)=True by simp,if_true,show ¬ (((0:Nat):Int) < 0) by omega,if_false,e0]
theorem idx_hi (l:Option Int) (n:Nat):Builtin.Str.strSliceIndices l none 1 n=Builtin.Str.strSliceIndices l (some ((n:Nat):Int)) 1 n:=by
 have e0:max (0:Int) (min ((n:Nat):Int) (n:Int))=n:=by omega
 unfold Builtin.Str.strSliceIndices
 simp only [show ((1:Int) > 0)=True by simp,if_true,show ¬ (((n:Nat):Int) < 0) by omega,if_false,e0]
theorem slice_ab (x:Str) {a b:Nat} (hab:a≤b) (hb:b≤x.length) (l u:Option Int) (e:Builtin.Str.strSliceIndices l u 1 x.length=Builtin.Str.strSliceIndices (some (a:Int)) (some (b:Int)) 1 x.length) :
  (Txt.slice x l u).cps.toList=(x.cps.toList.drop a).take (b - a):=by
 have hx:x.cps.toList.length=x.length:=by simp [Str.length]
 have hp:=StrLaws.sliced_plain x hab hb
 have hi:=StrLaws.strSliceIndices_plain hab hb
 unfold Txt.slice
 rw [e]
 split
 ·rename_i h
  rw [hi] at h
  simp at h
  have h1:b - a=x.length:=h
  have h2:a=0:=by omega
  subst h2
  rw [List.drop_zero,List.take_of_length_le (by omega)]
 ·exact hp
def nl:Str := "\n"
theorem nl_is:nl=⟨#[10]⟩:=by decide +kernel
open Builtin.Str StrLaws in
theorem split_nl (x:Str):Txt.split x nl=(splL 10 x.cps.toList).map fun l=>(⟨l.toArray⟩:Str):=by
 have hx:x.cps.toList.length=x.length:=by simp [Str.length]
 have ho:occurrences x nl 0 x.length (x.length + 1)=posL 10 x.cps.toList 0:=by
  rw [occ_eq]
  have:=QeN x 10 (x.length + 1) 0 #[] 0 (by omega) (by simp) (Nat.le_refl _)
  rw [← nl_is] at this
  simpa using this
 obtain ⟨h,t,e1,e2⟩:=QbG x 10 x.cps.toList.length 0 0 (by omega) (Nat.le_refl _)
 rw [List.drop_zero] at e1 e2
 have main:partsFrom x 1 0 (posL 10 x.cps.toList 0)=(splL 10 x.cps.toList).map fun l=>(⟨l.toArray⟩:Str):=by
  rw [e2,e1]
  simp
 unfold Txt.split
 rw [ho]
 by_cases h0:posL 10 x.cps.toList 0=[]
 ·rw [h0] at main
  have one:[x]=(splL 10 x.cps.toList).map fun l=>(⟨l.toArray⟩:Str):=by
   rw [← main]
   show [x]=[strSub x 0 x.length]
   rw [sub_whole]
  rw [h0]
  split
  ·exact one
  ·rw [if_pos (show ([]:List Nat).isEmpty=true from rfl)];exact one
 ·have hk:¬ (decide (x.length < nl.length)||decide (Builtin.Str.strKind x < Builtin.Str.strKind nl))=true:=by
   have k1:Builtin.Str.strKind nl=1:=by decide +kernel
   have k2:1≤Builtin.Str.strKind x:=by unfold Builtin.Str.strKind;split;omega;split <;> omega
   have k3:nl.length=1:=rfl
   have k4:0 < x.cps.toList.length:=by
    cases hL:x.cps.toList with
    | nil=>rw [hL] at h0;exact absurd rfl h0
    | cons _ _=>simp
   rw [k1,k3]
   simp
   omega
  rw [if_neg hk,if_neg (by simpa using h0),partsBetween_eq]
  exact main
theorem QhC:∀ (w:Str) (ws:List Str),(∀ s∈w :: ws,10∉s.cps.toList)→Txt.split (Txt.join nl (w :: ws)) nl=w :: ws:=by
 have key:∀ (w:Str) (ws:List Str),(∀ s∈w :: ws,10∉s.cps.toList)→splL 10 (Txt.join nl (w :: ws)).cps.toList=(w :: ws).map fun s=>s.cps.toList:=by
  intro w ws
  induction ws generalizing w with
  | nil =>
   intro h
   rw [Xu,Qdr (h w (by simp))]
   rfl
  | cons v ws ih =>
   intro h
   rw [ZW]
   have e:(w++nl++Txt.join nl (v :: ws)).cps.toList=w.cps.toList++10 :: (Txt.join nl (v :: ws)).cps.toList:=by
    show (w.cps++nl.cps++(Txt.join nl (v :: ws)).cps).toList=_
    rw [show nl.cps = #[10] by rw [nl_is]]
    simp
   rw [e,QeV (h w (by simp)),ih v fun s hs=>h s (List.mem_cons_of_mem _ hs)]
   rfl
 intro w ws h
 rw [split_nl,key w ws h,List.map_map]
 exact List.map_id' _
inductive Rw where
 | g (a b:Str)
 | r (h:Str) (b:List Str)
def Rw.v:Rw→PV
 | .g a b => .tup [.str "guess",.str a,.str b]
 | .r h b => .tup [.str "rule",.str h,.tup (b.map .str)]
def Rw.line:Rw→Str
 | .g a b=>Txt.join sp ["guess",a,"unless",b]
 | .r h b=>if b=[] then h else Txt.join sp (h :: "if" :: b)
def Rw.Ok:Rw→Prop
 | .g a b=>Wd a∧Wd b
 | .r h b=>Wd h∧(∀ s∈b,Wd s)∧b.Nodup∧b.length≤6
theorem g_sp:("guess ":Str) = "guess"++sp:=by decide +kernel
theorem u_sp:(" unless ":Str)=sp ++ "unless"++sp:=by decide +kernel
theorem i_sp:(" if ":Str)=sp ++ "if"++sp:=by decide +kernel
theorem XC:PyData.strOk ("rule":Str)=true:=by decide +kernel
theorem QhI:(("rule":Str) == "guess")=false:=by decide +kernel
theorem QmD:(("guess":Str) == "rule")=false:=by decide +kernel
theorem pJoinT_s {x:Str} {ys:List Str} (h:(ys.map Str.length).sum + ys.length * x.length≤100000):QfC (.str x) [.tup (ys.map .str)]=some (.str (Txt.join x ys)):=by
 show (match Yc (ys.map PV.str) with
  | some ys=>if (ys.map (fun z:Str=>z.length)).sum + ys.length * x.length≤LIM then some (PV.str (Txt.join x ys)) else none
  | none=>none)=_
 rw [L2.PM.strs?_map]
 exact if_pos (Xf h)
theorem QkM {x:Str} {ys:List Str} (h:(ys.map Str.length).sum + ys.length * x.length≤100000):QhN (.str x) [.lst (ys.map .str)]=some (.str (Txt.join x ys)):=by
 show (match Yc (ys.map PV.str) with
  | some ys=>if (ys.map (fun z:Str=>z.length)).sum + ys.length * x.length≤LIM then some (PV.str (Txt.join x ys)) else none
  | none=>none)=_
 rw [L2.PM.strs?_map]
 exact if_pos (Xf h)
theorem QeP (a b:Str):(a++b).length=a.length + b.length:=QbV a b
theorem line_g (a b:Str) : "guess "++a ++ " unless "++b=(Rw.g a b).line:=by
 show _=Txt.join sp ["guess",a,"unless",b]
 rw [ZW,ZW,ZW,Xu,g_sp,u_sp]
 simp only [Qgy]
theorem line_r (h y:Str) (ys:List Str):h ++ " if "++Txt.join " " (y :: ys)=(Rw.r h (y :: ys)).line:=by
 show _=if y :: ys=[] then h else Txt.join sp (h :: "if" :: y :: ys)
 rw [if_neg (by simp),ZW,ZW,i_sp,show (" ":Str)=sp from rfl]
 simp only [Qgy]
theorem e_line {x:Rw} (h:x.Ok):Zq [x.v]=some (.str x.line):=by
 cases x with
 | g G B =>
  obtain ⟨hG,hB⟩:=h
  have h1:=hG.l2
  have h2:=hB.l2
  have e1:("guess ":Str).length=6:=by decide +kernel
  have e2:(" unless ":Str).length=8:=by decide +kernel
  unfold Zq XX Rw.v
  walk_at "ev"
  rw [Yv ZV ZV,show (("guess":Str) == "guess")=true by simp]
  walk_at "ev"
  rw [pAdd_s (by rw [QeP];omega)]
  walk_at "ev"
  rw [pAdd_s (by rw [QeP,QeP];omega)]
  walk_at "ev"
  rw [line_g]
 | r H body =>
  obtain ⟨hH,hb,hn,h6⟩:=h
  have h1:=hH.l2
  have hbl:(body.map PV.str).length=body.length:=by rw [List.length_map]
  have e2:(" if ":Str).length=4:=by decide +kernel
  have e3:(" ":Str).length=1:=by decide +kernel
  have e5:=QbU body 12 fun s hs=>(hb s hs).l2
  unfold Zq XX Rw.v
  walk_at "ev"
  rw [Yv XC ZV,QhI]
  walk_at "ev"
  cases body with
  | nil =>
   rw [show (([]:List Str).length==0)=true from rfl]
   walk_at "ev"
   rfl
  | cons y ys =>
   rw [show (((y :: ys).length)==0)=false from rfl]
   walk_at "ev"
   have ej:=pJoinT_s (x := " ") (ys:=y :: ys) (by rw [e3];omega)
   rw [List.map_cons] at ej
   rw [ej]
   walk_at "ev"
   rw [pAdd_s (by
    rw [QeP,ZM,e3]
    rw [List.length_cons] at h6 e5 ⊢
    omega)]
   walk_at "ev"
   rw [line_r]
theorem e_read {x:Rw} (h:x.Ok) (r:Nat):Zj [.str x.line,pN r]=some x.v:=by
 cases x with
 | g a b=>exact QgN h.1 h.2 r
 | r H body =>
  obtain ⟨hH,hb,hn,h6⟩:=h
  cases body with
  | nil=>exact QjC hH r
  | cons y ys=>exact Qig hH hb (by simp) hn h6 r
theorem QcX {c:Nat} (sep:Str):∀ (ws:List Str),c∈(Txt.join sep ws).cps.toList→c∈sep.cps.toList∨∃ w∈ws,c∈w.cps.toList
 | [],h=>by
  rw [QfV,show ("":Str).cps.toList=[] by decide +kernel] at h
  cases h
 | [w],h=>by
  rw [Xu] at h
  exact .inr ⟨w,by simp,h⟩
 | w :: v :: ws,h=>by
  rw [ZW] at h
  have h:c∈(w.cps++sep.cps++(Txt.join sep (v :: ws)).cps).toList:=h
  rw [Array.toList_append,Array.toList_append,List.mem_append,List.mem_append] at h
  rcases h with (h | h) | h
  ·exact .inr ⟨w,by simp,h⟩
  ·exact .inl h
  ·rcases QcX sep (v :: ws) h with h | ⟨x,hx,h⟩
   ·exact .inl h
   ·exact .inr ⟨x,List.mem_cons_of_mem _ hx,h⟩
theorem Qkh:∀ s∈no3,10∉s.cps.toList:=by decide +kernel
theorem QfI {s:Str} (h:Low s):10∉s.cps.toList:=fun z=>by
 have:=h 10 z
 omega
theorem sp_nl:10∉sp.cps.toList:=by decide +kernel
theorem line_nl {x:Rw} (h:x.Ok):10∉x.line.cps.toList:=by
 cases x with
 | g a b =>
  intro z
  rcases QcX sp _ z with z | ⟨w,hw,z'⟩
  ·exact sp_nl z
  ·simp only [List.mem_cons,List.not_mem_nil,or_false] at hw
   rcases hw with e | e | e | e
   ·rw [e] at z';exact Qkh _ (by decide +kernel) z'
   ·rw [e] at z';exact QfI h.1.low z'
   ·rw [e] at z';exact Qkh _ (by decide +kernel) z'
   ·rw [e] at z';exact QfI h.2.low z'
 | r H body =>
  obtain ⟨hH,hb,_,_⟩:=h
  intro z
  have z:10∈(if body=[] then H else Txt.join sp (H :: "if" :: body)).cps.toList:=z
  by_cases c:body=[]
  ·rw [if_pos c] at z
   exact QfI hH.low z
  ·rw [if_neg c] at z
   rcases QcX sp _ z with z | ⟨w,hw,z'⟩
   ·exact sp_nl z
   ·rcases List.mem_cons.mp hw with e | hw
    ·rw [e] at z';exact QfI hH.low z'
    ·rcases List.mem_cons.mp hw with e | hw
     ·rw [e] at z';exact Qkh _ (by decide +kernel) z'
     ·exact QfI (hb w hw).low z'
theorem Qff {x:Rw} (h:x.Ok):1≤x.line.length∧x.line.length≤110:=by
 have e3:sp.length=1:=rfl
 cases x with
 | g a b =>
  have h1:=h.1.l2
  have h2:=h.2.l2
  have e1:("guess":Str).length=5:=by decide +kernel
  have e2:("unless":Str).length=6:=by decide +kernel
  unfold Rw.line
  rw [ZM]
  simp only [List.map_cons,List.map_nil,List.sum_cons,List.sum_nil,List.length_cons,List.length_nil,e1,e2,e3]
  omega
 | r H body =>
  obtain ⟨hH,hb,_,h6⟩:=h
  have h1:=hH.l1
  have h2:=hH.l2
  show 1≤(if body=[] then H else Txt.join sp (H :: "if" :: body)).length∧(if body=[] then H else Txt.join sp (H :: "if" :: body)).length≤110
  by_cases c:body=[]
  ·rw [if_pos c];omega
  ·rw [if_neg c,ZM]
   have e1:("if":Str).length=2:=by decide +kernel
   have e5:=QbU body 12 fun s hs=>(hb s hs).l2
   simp only [List.map_cons,List.sum_cons,List.length_cons,e1,e3]
   omega
theorem QeI {α:Type} [DecidableEq α]:∀ {l m:List α},l.Nodup→(∀ x∈l,x∈m)→l.length≤m.length
 | [],_,_,_=>by simp
 | x :: l,m,hn,h=>by
  obtain ⟨h1,h2⟩:=List.nodup_cons.mp hn
  have hx:=h x (by simp)
  have:=QeI (l:=l) (m:=m.erase x) h2 fun y hy=>(List.mem_erase_of_ne (fun e:y=x=>h1 (e ▸ hy))).mpr (h y (List.mem_cons_of_mem _ hy))
  rw [List.length_erase_of_mem hx] at this
  have:0 < m.length:=List.length_pos_of_mem hx
  simp
  omega
theorem QaL {α:Type} [DecidableEq α]:∀ {l m:List α},l.Nodup→m.Nodup→(∀ x,x∈l↔x∈m)→l.Perm m
 | [],m,_,_,h=>by
  cases m with
  | nil=>exact .refl _
  | cons y m=>exact absurd ((h y).mpr (by simp)) (by simp)
 | x :: l,m,hn,hm,h=>by
  obtain ⟨h1,h2⟩:=List.nodup_cons.mp hn
  have hx:x∈m:=(h x).mp (by simp)
  refine .trans (.cons x (QaL h2 (hm.erase x) fun y => ?_)) (List.perm_cons_erase hx).symm
  rw [hm.mem_erase_iff]
  constructor
  ·intro hy
   exact ⟨fun e=>h1 (e ▸ hy),(h y).mp (List.mem_cons_of_mem _ hy)⟩
  ·rintro ⟨hne,hy⟩
   rcases List.mem_cons.mp ((h y).mpr hy) with e | z
   ·exact absurd e hne
   ·exact z
theorem Qch {α:Type} [BEq α] [LawfulBEq α] {y:α}:∀ {xs:List α},y∈once xs↔y∈xs
 | []=>by simp [once]
 | x :: xs=>by
  unfold once
  rw [List.mem_cons,List.mem_cons,List.mem_filter,Qch (xs:=xs)]
  by_cases h:y=x
  ·simp [h]
  ·simp [h]
theorem Qaw {α:Type} [BEq α] [LawfulBEq α]:∀ xs:List α,(once xs).Nodup
 | []=>by simp [once]
 | x :: xs=>by
  unfold once
  rw [List.nodup_cons]
  refine ⟨by simp [List.mem_filter],List.Pairwise.filter _ (Qaw xs)⟩
def Rw.isG:Rw→Bool
 | .g _ _=>true
 | _=>false
def Rw.gp:Rw→Option (Str×Str)
 | .g a b=>some (a,b)
 | _=>none
def Rw.rp:Rw→Option (Str×List Str)
 | .r h b=>some (h,b)
 | _=>none
def Rw.ws:Rw→List Str
 | .g a b=>[a,b]
 | .r h b=>h :: b
def gRow (p:Str×Str):Rw := .g p.1 p.2
def rRow (p:Str×List Str):Rw := .r p.1 p.2
theorem fil_g:∀ (R:List Rw),R.filter Rw.isG=(R.filterMap Rw.gp).map gRow
 | []=>rfl
 | .g a b :: R=>by
  rw [List.filter_cons_of_pos (by rfl),List.filterMap_cons_some (b:=(a,b)) (by rfl),List.map_cons,fil_g R]
  rfl
 | .r h b :: R=>by
  rw [List.filter_cons_of_neg (by simp [Rw.isG]),List.filterMap_cons_none (by rfl),fil_g R]
theorem fil_r:∀ (R:List Rw),(R.filter fun x => !x.isG)=(R.filterMap Rw.rp).map rRow
 | []=>rfl
 | .r a b :: R=>by
  rw [List.filter_cons_of_pos (by rfl),List.filterMap_cons_some (b:=(a,b)) (by rfl),List.map_cons,fil_r R]
  rfl
 | .g h b :: R=>by
  rw [List.filter_cons_of_neg (by simp [Rw.isG]),List.filterMap_cons_none (by rfl),fil_r R]
theorem v_kind (x:Rw):∃ a b,x.v = .tup [.str (if x.isG=true then "guess" else "rule"),a,b]:=by
 cases x <;> exact ⟨_,_,rfl⟩
theorem Qfk {R:List Rw} (hl:R.length≤1000):QL [.lst (R.map Rw.v),.str "guess"]=some (.lst ((R.filterMap Rw.gp).map fun p=>(gRow p).v)):=by
 unfold QL QdB
 walk_at "ev"
 rw [Qax Rw.v Rw.isG Rw.v R fun x hx=>by
  obtain ⟨a,b,e⟩:=v_kind x
  refine ⟨_,rfl,?_,fun _ => ?_⟩
  ·rw [e]
   walk_at "ev"
   cases hg:x.isG
   ·simp only [Bool.false_eq_true,if_false]
    rw [Yv XC ZV,QhI]
    rfl
   ·simp only [if_true]
    rw [Yv ZV ZV]
    simp [isB_bl]
  ·walk_at "ev"]
 rw [fil_g,List.map_map]
 rfl
theorem QiX {R:List Rw} (hl:R.length≤1000):QL [.lst (R.map Rw.v),.str "rule"]=some (.lst ((R.filterMap Rw.rp).map fun p=>(rRow p).v)):=by
 unfold QL QdB
 walk_at "ev"
 rw [Qax Rw.v (fun x => !x.isG) Rw.v R fun x hx=>by
  obtain ⟨a,b,e⟩:=v_kind x
  refine ⟨_,rfl,?_,fun _ => ?_⟩
  ·rw [e]
   walk_at "ev"
   cases hg:x.isG
   ·simp only [Bool.false_eq_true,if_false]
    rw [Yv XC XC]
    simp [isB_bl]
   ·simp only [if_true]
    rw [Yv ZV XC,QmD]
    rfl
  ·walk_at "ev"]
 rw [fil_r,List.map_map]
 rfl
theorem Qmi {ms:List Nat} {i:Nat} {m:MEx} {γ:PEnv} {ys:List PV} (h:m γ=some (.tup ys)):sExM ms i m γ=extK ms i γ (.tup ys) γ[i]?:=by
 show ((m γ).bind fun r=>match r with
  | .tup _=>sExt ms i m γ
  | _=>sExl ms i m γ)=_
 rw [h]
 show (m γ).bind (fun r=>extK ms i γ r γ[i]?)=_
 rw [h]
 rfl
theorem Qmj {ms:List Nat} {i:Nat} {m:MEx} {γ:PEnv} {ys:List PV} (h:m γ=some (.lst ys)):sExM ms i m γ=exlK ms i γ (.lst ys) γ[i]?:=by
 show ((m γ).bind fun r=>match r with
  | .tup _=>sExt ms i m γ
  | _=>sExl ms i m γ)=_
 rw [h]
 show (m γ).bind (fun r=>exlK ms i γ r γ[i]?)=_
 rw [h]
 rfl
theorem lt_lim5 {n:Nat} (h:n≤1000):n < LIM:=Qhr (by omega)
theorem extK_ok {ms:List Nat} {i:Nat} {γ:PEnv} {xs ys:List PV} (h:xs.length + ys.length≤100000) (h2:(!ms.contains i)=true):extK ms i γ (.tup ys) (some (.ow xs))=some (.nx ((Zt (flat (.tup ys)) ms γ).set i (.ow (xs++ys)))):=if_pos ⟨Qhr h,h2⟩
theorem exlK_ok {ms:List Nat} {i:Nat} {γ:PEnv} {xs ys:List PV} (h:xs.length + ys.length≤100000) (h2:(!ms.contains i)=true):exlK ms i γ (.lst ys) (some (.ow xs))=some (.nx ((Zt (flat (.lst ys)) ms γ).set i (.ow (xs++ys)))):=if_pos ⟨Qhr h,h2⟩
theorem Qbs {R:List Rw} (h:∀ x∈R,x.ws.length≤7):(R.flatMap Rw.ws).length≤R.length * 7:=by
 induction R with
 | nil=>simp
 | cons x R ih =>
  have h1:=h x (by simp)
  have h2:=ih fun y hy=>h y (List.mem_cons_of_mem _ hy)
  rw [List.flatMap_cons,List.length_append,List.length_cons]
  omega
theorem QmB {x:Rw} (h:x.Ok):x.ws.length≤7:=by
 cases x with
 | g a b=>show 2≤7;omega
 | r h b =>
  obtain ⟨_,_,_,h6⟩:=h
  show b.length + 1≤7
  omega
theorem Qlj {R:List Rw} (ok:∀ x∈R,x.Ok) (hl:R.length≤100):ZX [.lst (R.map Rw.v)]=some (.lst ((R.flatMap Rw.ws).map .str)):=by
 unfold ZX QeB
 walk_at "ev"
 generalize hP:PV.lst (R.map Rw.v)=P
 obtain ⟨γ',e4,s2,rfl⟩:=Zy (g:=gSet 2) (b:=Qbw) Rw.v
   (fun pre γ=>∃ (s2:Slot),γ=[.fz P,.ow ((pre.flatMap Rw.ws).map .str),s2])
   R R [] [.fz P,.ow [],.un] rfl ⟨.un,rfl⟩ (by
    rintro pre x post γ hpre ⟨s2,rfl⟩
    have hpl:pre.length≤100:=by
     have:=congrArg List.length hpre
     simp at this
     omega
    have hw:=Qbs (R:=pre) fun y hy=>QmB (ok y (by rw [← hpre];simp [hy]))
    have hx:=ok x (by rw [← hpre];simp)
    refine ⟨_,_,rfl,?_,.fz x.v,rfl⟩
    rw [List.flatMap_append,List.flatMap_cons,List.flatMap_nil,List.append_nil]
    generalize pre.flatMap Rw.ws=W at *
    unfold Qbw
    cases x with
    | g a b =>
     unfold Rw.v Rw.ws
     walk_at "ev"
     rw [XT (by rw [List.length_map];omega) rfl]
     walk_at "ev"
     rw [Qmj (ys:=[.str b]) (by
      walk_at "ev"
      rw [Yv ZV ZV,show (("guess":Str) == "guess")=true by simp]
      walk_at "ev")]
     walk_at "ev"
     rw [exlK_ok (by simp;omega) rfl]
     walk_at "ev"
     simp
    | r h b =>
     obtain ⟨_,_,_,h6⟩:=hx
     unfold Rw.v Rw.ws
     walk_at "ev"
     rw [XT (by rw [List.length_map];omega) rfl]
     walk_at "ev"
     rw [Qmi (ys:=b.map .str) (by
      walk_at "ev"
      rw [Yv XC ZV,QhI]
      walk_at "ev")]
     walk_at "ev"
     rw [extK_ok (by simp;omega) rfl]
     walk_at "ev"
     simp)
 rw [e4]
 walk_at "ev"
theorem QhL {ss:List Str} (h:ss.length < 1000):QbI [.lst (ss.map .str)]=some (pN (once ss).length):=by
 show (match Yc (ss.map PV.str) with
  | some ns=>if ns.length < 1000 then some (PV.int (once ns).length) else none
  | none=>none)=_
 rw [L2.PM.strs?_map]
 show (if ss.length < 1000 then some (PV.int (once ss).length) else none)=_
 rw [if_pos h]
 rfl
theorem e_bounds {R:List Rw} {M:List Str} (ok:∀ x∈R,x.Ok) (hl:R.length≤100) (h1:(R.filterMap Rw.gp).length≤8) (h2:(R.filterMap Rw.rp).length≤40) (hM:M.length≤30) (h3:∀ x∈R,∀ w∈x.ws,w∈M) :
  Zp [.lst (R.map Rw.v)]=some (.bl false):=by
 have hw:=Qbs (R:=R) fun y hy=>QmB (ok y hy)
 have ho:(once (R.flatMap Rw.ws)).length≤30:=Nat.le_trans (QeI (Qaw _) fun w hw=>by
  obtain ⟨x,hx,hw⟩:=List.mem_flatMap.mp (Qch.mp hw)
  exact h3 x hx w hw) hM
 unfold Zp QbN
 walk_at "ev"
 rw [Qfk (by omega)]
 walk_at "ev"
 rw [decide_eq_false (show ¬ 8 < (R.filterMap Rw.gp).length by omega)]
 walk_at "ev"
 rw [QiX (by omega)]
 walk_at "ev"
 rw [decide_eq_false (show ¬ 40 < (R.filterMap Rw.rp).length by omega)]
 walk_at "ev"
 rw [Qlj ok hl]
 walk_at "ev"
 rw [QhL (by omega)]
 walk_at "ev"
 rw [decide_eq_false (show ¬ 30 < (once (R.flatMap Rw.ws)).length by omega)]
def Rw.key:Rw→PV
 | .g a _ => .tup [.str "guess",.str a]
 | .r h b => .tup [.str "rule",.str h,.tup ((QM b).map .str)]
theorem Qfc {ss:List Str} (h:ss.length < 64):Qeg [.tup (ss.map .str)]=some ((QM ss).map .str):=by
 show (match Yc (ss.map PV.str) with
  | some ss=>if ss.length < 64 then some ((QM ss).map PV.str) else none
  | none=>none)=_
 rw [L2.PM.strs?_map]
 exact if_pos h
theorem e_once {x:Rw} (h:x.Ok):ZC [x.v]=some x.key:=by
 cases x with
 | g a b =>
  unfold ZC Qbt Rw.v
  walk_at "ev"
  rw [Yv ZV ZV,show (("guess":Str) == "guess")=true by simp]
  walk_at "ev"
  rfl
 | r H b =>
  obtain ⟨_,_,_,h6⟩:=h
  unfold ZC Qbt Rw.v
  walk_at "ev"
  rw [Yv XC ZV,QhI]
  walk_at "ev"
  rw [Qfc (by omega)]
  walk_at "ev"
  rfl
def Rw.sim:Rw→Rw→Prop
 | .g a _,.g c _=>a=c
 | .r h b,.r k c=>h=k∧QM b=QM c
 | _,_=>False
theorem Qdu:∀ {a b:List Str},peqL (a.map PV.str) (b.map .str)=true→a=b
 | [],[],_=>rfl
 | [],_ :: _,h=>by cases h
 | _ :: _,[],h=>by cases h
 | x :: a,y :: b,h=>by
  have h:((x==y)&&peqL (a.map PV.str) (b.map .str))=true:=h
  rw [Bool.and_eq_true] at h
  rw [eq_of_beq h.1,Qdu h.2]
theorem peq_key {x y:Rw} (h:peq x.key y.key=true):x.sim y:=by
 cases x with
 | g a b=>cases y with
  | g c d =>
   have h:((("guess":Str) == "guess")&&((a==c)&&true))=true:=h
   simp at h
   exact h
  | r k c =>
   have h:((("guess":Str) == "rule")&&((a==k)&&false))=true:=h
   simp at h
 | r h' b=>cases y with
  | g c d =>
   have h:((("rule":Str) == "guess")&&((h'==c)&&false))=true:=h
   simp at h
  | r k c =>
   have h:((("rule":Str) == "rule")&&((h'==k)&&(peqL ((QM b).map .str) ((QM c).map .str)&&true)))=true:=h
   simp at h
   exact ⟨h.1,Qdu h.2⟩
theorem Qfn:∀ {ss:List Str},(∀ s∈ss,PyData.strOk s=true)→depL (ss.map PV.str)=0∧okSL (ss.map PV.str)=true
 | [],_=>by simp [depL,okSL]
 | s :: ss,h=>by
  have ih:=Qfn (ss:=ss) fun x hx=>h x (List.mem_cons_of_mem _ hx)
  have h1:=h s (by simp)
  simp [depL,okSL,dep,okS,ih.1,ih.2,h1]
theorem key_ok {x:Rw} (h:x.Ok):okv x.key=true:=by
 cases x with
 | g a b=>simp [Rw.key,okv,dep,depL,okS,okSL,ZT h.1.low,ZV]
 | r H b =>
  obtain ⟨hH,hb,_,_⟩:=h
  have:=Qfn (ss:=QM b) fun s hs=>ZT (hb s ((Qw b).mem_iff.mp hs)).low
  simp [Rw.key,okv,dep,depL,okS,okSL,ZT hH.low,XC,this.1,this.2]
structure Gd (R:List Rw) (M:List Str):Prop where
 ok:∀ x∈R,x.Ok
 pw:R.Pairwise fun x y=>¬ x.sim y
 ng:(R.filterMap Rw.gp).length≤8
 nr:(R.filterMap Rw.rp).length≤40
 nM:M.length≤30
 ws:∀ x∈R,∀ w∈x.ws,w∈M
 hd:∀ p∈R.filterMap Rw.rp,p.1∉(R.filterMap Rw.gp).map (·.1)
theorem QeO:∀ R:List Rw,R.length=(R.filterMap Rw.gp).length + (R.filterMap Rw.rp).length
 | []=>rfl
 | .g a b :: R=>by
  rw [List.filterMap_cons_some (b:=(a,b)) (by rfl),List.filterMap_cons_none (by rfl),List.length_cons,List.length_cons,QeO R]
  omega
 | .r a b :: R=>by
  rw [List.filterMap_cons_none (by rfl),List.filterMap_cons_some (b:=(a,b)) (by rfl),List.length_cons,List.length_cons,QeO R]
  omega
theorem Gd.len {R:List Rw} {M:List Str} (h:Gd R M):R.length≤48:=by
 have:=QeO R
 have:=h.ng
 have:=h.nr
 omega
theorem pIn_keys {x:Rw} {R:List Rw} (hx:x.Ok) (hR:∀ y∈R,y.Ok) (hs:∀ y∈R,¬ y.sim x):pIn x.key (.lst (R.map Rw.key))=some (.bl false):=by
 have h1:(R.map Rw.key).all okv=true:=by
  rw [List.all_map,List.all_eq_true]
  intro y hy
  exact key_ok (hR y hy)
 have h2:((R.map Rw.key).any fun y=>peq y x.key)=false:=by
  rw [List.any_map,List.any_eq_false]
  intro y hy e
  exact hs y hy (peq_key e)
 show (if okv x.key=true∧(R.map Rw.key).all okv=true then some (PV.bl ((R.map Rw.key).any fun y=>peq y x.key)) else none)=_
 rw [if_pos ⟨key_ok hx,h1⟩,h2]
theorem e_rows {R:List Rw} {M:List Str} (G:Gd R M):Yl [.lst (R.map fun x => .str x.line)]=some (.lst (R.map Rw.v)):=by
 have hl:=G.len
 unfold Yl QdJ
 walk_at "ev"
 generalize hP:PV.lst (R.map fun x=>PV.str x.line)=P
 have ez:((R.map fun x=>PV.str x.line).zipIdx.map fun x=>PV.tup [pN x.2,x.1])=R.zipIdx.map fun p=>PV.tup [pN p.2,.str p.1.line]:=by
  rw [List.zipIdx_map,List.map_map]
  rfl
 rw [ez]
 obtain ⟨γ',e4,s2,s3,s4,rfl⟩:=Zy (g:=QgB 2 3) (b:=Qay) (fun p:Rw×Nat=>PV.tup [pN p.2,.str p.1.line])
   (fun pre γ=>∃ (s2 s3 s4:Slot),γ=[.fz P,.ow ((pre.map (·.1)).map Rw.v),s2,s3,s4])
   R.zipIdx R.zipIdx [] [.fz P,.ow [],.un,.un,.un] rfl ⟨.un,.un,.un,rfl⟩ (by
    rintro pre x post γ hpre ⟨s2,s3,s4,rfl⟩
    have hR:pre.map (·.1)++x.1 :: post.map (·.1)=R:=by
     have:=congrArg (List.map (·.1)) hpre
     rw [List.zipIdx_map_fst] at this
     simpa using this
    obtain ⟨x,n⟩:=x
    have e1:(pre++[(x,n)]).map (·.1)=pre.map (·.1)++[x]:=by simp
    rw [e1]
    generalize pre.map (·.1)=Q at *
    generalize post.map (·.1)=T at *
    dsimp only at hR ⊢
    subst hR
    have hx:=G.ok x (by simp)
    have hQ:∀ y∈Q,y.Ok:=fun y hy=>G.ok y (by simp [hy])
    have hs:∀ y∈Q,¬ y.sim x:=fun y hy=>(List.pairwise_append.mp G.pw).2.2 y hy x (by simp)
    have hQl:Q.length≤48:=by
     rw [List.length_append] at hl
     omega
    have hb:Zp [.lst (Q.map Rw.v++[x.v])]=some (.bl false):=by
     have e:Q.map Rw.v++[x.v]=(Q++[x]).map Rw.v:=by simp
     rw [e]
     have k1:=G.ng
     have k2:=G.nr
     rw [show Q++x :: T=(Q++[x])++T by simp,List.filterMap_append,List.length_append] at k1 k2
     refine e_bounds (M:=M) (fun y hy=>G.ok y ?_) (by simp;omega) (by omega) (by omega) G.nM fun y hy w hw=>G.ws y ?_ w hw
     ·rcases List.mem_append.mp hy with z | z
      ·simp [z]
      ·simp [List.mem_singleton.mp z]
     ·rcases List.mem_append.mp hy with z | z
      ·simp [z]
      ·simp [List.mem_singleton.mp z]
    have hvf:flat x.v=false:=by cases x <;> rfl
    have hk:=pIn_keys hx hQ hs
    have he:=e_once hx
    have hrd:=e_read hx n
    refine ⟨_,_,rfl,?_,.fz (pN n),.fz (.str x.line),.fz x.v,rfl⟩
    unfold Qay
    walk_at "ev"
    rw [hrd]
    walk_at "ev"
    rw [hvf]
    walk_at "ev"
    rw [he]
    walk_at "ev"
    rw [YA Rw.v Rw.key Q fun y hy=>⟨_,rfl,by
     walk_at "ev"
     rw [e_once (hQ y hy)]⟩]
    walk_at "ev"
    rw [hk]
    walk_at "ev"
    rw [XT (by rw [List.length_map];omega) (by rw [hvf];rfl),hvf]
    walk_at "ev"
    rw [hb]
    walk_at "ev"
    simp)
 rw [e4,List.zipIdx_map_fst]
 walk_at "ev"
abbrev Gp:=Str×Str
abbrev Rp:=Str×List Str
def GN (gs:List Gp):List Str:=gs.map (·.1)
def wds (gs:List Gp) (rs:List Rp):List Str:=(gs.flatMap fun p=>[p.1,p.2])++rs.flatMap fun p=>p.1 :: p.2
def nm (gs:List Gp) (rs:List Rp):List Str:=QM (GN gs)++QM ((once (wds gs rs)).filter fun j=>decide (j∉GN gs))
theorem Qbm {a b:List Str} (h:a.Perm b):QM a=QM b:=QbC ((Qw a).trans h) (Qau a)
theorem XB {gs:List Gp} {rs:List Rp} {w:Str}:w∈wds gs rs↔(∃ p∈gs,w=p.1∨w=p.2)∨∃ p∈rs,w=p.1∨w∈p.2:=by
 unfold wds
 rw [List.mem_append,List.mem_flatMap,List.mem_flatMap]
 simp
theorem Qfe {R:List Rw} {w:Str}:w∈R.flatMap Rw.ws↔w∈wds (R.filterMap Rw.gp) (R.filterMap Rw.rp):=by
 rw [XB,List.mem_flatMap]
 constructor
 ·rintro ⟨x,hx,hw⟩
  cases x with
  | g a b =>
   have hw:w∈[a,b]:=hw
   refine .inl ⟨(a,b),List.mem_filterMap.mpr ⟨_,hx,rfl⟩,by simpa using hw⟩
  | r h b =>
   have hw:w∈h :: b:=hw
   exact .inr ⟨(h,b),List.mem_filterMap.mpr ⟨_,hx,rfl⟩,by simpa using hw⟩
 ·rintro (⟨p,hp,hw⟩ | ⟨p,hp,hw⟩)
  ·obtain ⟨x,hx,e⟩:=List.mem_filterMap.mp hp
   cases x with
   | g a b =>
    cases e
    exact ⟨_,hx,by show w∈[a,b];simpa using hw⟩
   | r h b=>cases e
  ·obtain ⟨x,hx,e⟩:=List.mem_filterMap.mp hp
   cases x with
   | g a b=>cases e
   | r h b =>
    cases e
    exact ⟨_,hx,by show w∈h :: b;simpa using hw⟩
theorem nm_rows (R:List Rw):QM (GN (R.filterMap Rw.gp))++QM ((once (R.flatMap Rw.ws)).filter fun j=>decide (j∉GN (R.filterMap Rw.gp)))=nm (R.filterMap Rw.gp) (R.filterMap Rw.rp):=by
 unfold nm
 congr 1
 refine Qbm (QaL ((Qaw _).filter _) ((Qaw _).filter _) fun x => ?_)
 rw [List.mem_filter,List.mem_filter,Qch,Qch,Qfe]
theorem QhK {a b:List Str} (h1:a.length < 1000) (h2:b.length < 1000) (h3:(once a).length < 64):QbH [.lst (a.map .str)] [.lst (b.map .str)]=some ((QM ((once a).filter fun j=>decide (j∉b))).map .str):=by
 show (match Yc (a.map PV.str),Yc (b.map PV.str) with
  | some ns,some ks=>if ns.length < 1000∧ks.length < 1000∧(once ns).length < 64 then some ((QM ((once ns).filter fun j=>decide (j∉ks))).map PV.str) else none
  | _,_=>none)=_
 rw [L2.PM.strs?_map,L2.PM.strs?_map]
 exact if_pos ⟨h1,h2,h3⟩
theorem ev_mSortDiff (ma mb:PEnv→Option (List PV)) (γ:PEnv):Qdz ma mb γ=(ma γ).bind fun x=>(mb γ).bind fun y=>QbH x y:=rfl
theorem GN_ok {R:List Rw} (ok:∀ x∈R,x.Ok):∀ s∈GN (R.filterMap Rw.gp),PyData.strOk s=true:=by
 intro s hs
 obtain ⟨p,hp,rfl⟩:=List.mem_map.mp hs
 obtain ⟨x,hx,e⟩:=List.mem_filterMap.mp hp
 cases x with
 | g a b=>cases e;exact ZT (ok _ hx).1.low
 | r h b=>cases e
local macro_rules | `(tactic| walk_at "ev")=>`(tactic| try simp (disch:=walk_at "eb") only [pLen_sn,mtK_s,ev_mSortDiff,EVc,EVl,List.length_range])
theorem QiY {R:List Rw} (hl:R.length≤1000) (γ:PEnv) (h:getV γ 0=some (.lst (R.map Rw.v))):XD (iLst (Qj QL (Qc (mVar 0) (Qc (mC (.str "guess")) aNil)))) 1 [] (gSet 0) Qaq (bin2 pIx (mVar 0) (mN 1)) γ=some ((GN (R.filterMap Rw.gp)).map .str):=by
 have hl':(R.filterMap Rw.gp).length≤1000:=Nat.le_trans (List.length_filterMap_le _ _) hl
 walk_at "ev"
 rw [h]
 walk_at "ev"
 rw [Qfk hl]
 walk_at "ev"
 rw [YA (fun p=>(gRow p).v) (fun p:Gp=>PV.str p.1) _ fun p hp=>⟨_,rfl,by
  unfold gRow Rw.v
  walk_at "ev"⟩]
 unfold GN
 rw [List.map_map]
 rfl
theorem ev_sExE (ms:List Nat) (m:MEx) (γ:PEnv):sExE ms m γ=(m γ).map fun r => .nx (Zt (flat r) ms γ):=rfl
theorem e_refuse {R:List Rw} {M:List Str} (G:Gd R M):Zf [.lst (R.map Rw.v)]=some .non:=by
 have hl:=G.len
 have hg:=QiY (R:=R) (by omega) [.fz (.lst (R.map Rw.v)),.un,.un,.un] rfl
 have hGo:=GN_ok G.ok
 unfold Zf QaE
 rw [runV_1,ev_startG1]
 simp only [List.map_cons,List.map_nil,List.length_cons,List.length_nil,List.replicate_succ,List.replicate_zero,List.cons_append,List.nil_append]
 rw [ev_sSeq,ev_sSetO,hg]
 walk_at "ev"
 generalize hP:PV.lst (R.map Rw.v)=P
 have ez:((R.map Rw.v).zipIdx.map fun x=>PV.tup [pN x.2,x.1])=R.zipIdx.map fun p=>PV.tup [pN p.2,p.1.v]:=by
  rw [List.zipIdx_map,List.map_map]
  rfl
 rw [ez]
 obtain ⟨γ',e4,s2,s3,rfl⟩:=Zy (g:=QgB 2 3) (b:=Xk) (fun p:Rw×Nat=>PV.tup [pN p.2,p.1.v])
   (fun pre γ=>∃ (s2 s3:Slot),γ=[.fz P,.ow ((GN (R.filterMap Rw.gp)).map .str),s2,s3])
   R.zipIdx R.zipIdx [] [.fz P,.ow ((GN (R.filterMap Rw.gp)).map .str),.un,.un] rfl ⟨.un,.un,rfl⟩ (by
    rintro pre x post γ hpre ⟨s2,s3,rfl⟩
    have hR:x.1∈R:=by
     have:x∈R.zipIdx:=by rw [← hpre];simp
     have:=List.mem_map_of_mem (f:=(·.1)) this
     rw [List.zipIdx_map_fst] at this
     exact this
    obtain ⟨x,n⟩:=x
    refine ⟨_,_,rfl,?_,.fz (pN n),.fz x.v,rfl⟩
    unfold Xk
    dsimp only at hR ⊢
    have hx:=G.ok x hR
    cases x with
    | g a b =>
     unfold Rw.v
     walk_at "ev"
     rw [Yv ZV XC,QmD]
     walk_at "ev"
    | r h b =>
     unfold Rw.v
     walk_at "ev"
     rw [Yv XC XC,show (("rule":Str) == "rule")=true by simp]
     walk_at "ev"
     rw [pIn_sl (ZT hx.1.low) hGo]
     have:(GN (R.filterMap Rw.gp)).any (·==h)=false:=by
      rw [List.any_eq_false]
      intro y hy e
      exact G.hd (h,b) (List.mem_filterMap.mpr ⟨_,hR,rfl⟩) (by rw [← eq_of_beq e];exact hy)
     rw [this]
     walk_at "ev")
 rw [e4]
 walk_at "ev"
theorem e_names {R:List Rw} {M:List Str} (G:Gd R M):YN [.lst (R.map Rw.v)]=some (.tup ((nm (R.filterMap Rw.gp) (R.filterMap Rw.rp)).map .str)):=by
 have hl:=G.len
 have hg:=QiY (R:=R) (by omega) [.fz (.lst (R.map Rw.v)),.un] rfl
 have h8:=G.ng
 have hgl:(GN (R.filterMap Rw.gp)).length≤8:=by unfold GN;rw [List.length_map];exact h8
 have hw:=Qbs (R:=R) fun y hy=>QmB (G.ok y hy)
 have ho:(once (R.flatMap Rw.ws)).length≤30:=Nat.le_trans (QeI (Qaw _) fun w hw=>by
  obtain ⟨x,hx,hw⟩:=List.mem_flatMap.mp (Qch.mp hw)
  exact G.ws x hx w hw) G.nM
 have hof:=List.length_filter_le (fun j=>decide (j∉GN (R.filterMap Rw.gp))) (once (R.flatMap Rw.ws))
 unfold YN QeC
 rw [runV_1,ev_startG1]
 simp only [List.map_cons,List.map_nil,List.length_cons,List.length_nil,List.replicate_succ,List.replicate_zero,List.cons_append,List.nil_append]
 rw [ev_sSeq,ev_sSetO,hg]
 walk_at "ev"
 rw [pSort_s (by omega)]
 walk_at "ev"
 rw [Qlj G.ok (by omega)]
 walk_at "ev"
 rw [QhK (by omega) (by omega) (by omega)]
 walk_at "ev"
 rw [pCat_l (by rw [List.length_map,List.length_map,Qdq,Qdq];omega),← List.map_append,nm_rows]
 walk_at "ev"
def ordN (G:List Str) (x y:Str):Prop:=(x∈G∧y∉G)∨((x∈G↔y∈G)∧sLe x y=true)
theorem QlO {G:List Str} {x y:Str} (h1:ordN G x y) (h2:ordN G y x):x=y:=by
 rcases h1 with ⟨a,b⟩ | ⟨a,b⟩
 ·rcases h2 with ⟨c,_⟩ | ⟨c,_⟩
  ·exact absurd c b
  ·exact absurd (c.mpr a) b
 ·rcases h2 with ⟨c,d⟩ | ⟨_,d⟩
  ·exact absurd (a.mpr c) d
  ·exact QeX b d
theorem QiD {G l1 l2:List Str} (h1:∀ x∈l1,x∈G) (h2:∀ x∈l2,x∉G):(QM l1++QM l2).Pairwise (ordN G):=by
 rw [List.pairwise_append]
 have m1:∀ x∈QM l1,x∈G:=fun x hx=>h1 x ((Qw l1).mem_iff.mp hx)
 have m2:∀ x∈QM l2,x∉G:=fun x hx=>h2 x ((Qw l2).mem_iff.mp hx)
 refine ⟨?_,?_,fun x hx y hy => .inl ⟨m1 x hx,m2 y hy⟩⟩
 ·refine (Qau l1).imp_of_mem fun {x y} hx hy e => .inr ⟨⟨fun _=>m1 y hy,fun _=>m1 x hx⟩,e⟩
 ·refine (Qau l2).imp_of_mem fun {x y} hx hy e => .inr ⟨⟨fun z=>absurd z (m2 x hx),fun z=>absurd z (m2 y hy)⟩,e⟩
theorem nm_ord (gs:List Gp) (rs:List Rp):(nm gs rs).Pairwise (ordN (GN gs)):=QiD (fun _ h=>h) fun x hx=>by
 have:=(List.mem_filter.mp hx).2
 simpa using this
theorem idx_le {N G:List Str} (hN:N.Pairwise (ordN G)) {x y:Str} (hx:x∈N) (hy:y∈N) (h:ordN G x y):N.idxOf x≤N.idxOf y:=by
 apply Classical.byContradiction
 intro c
 have hxl:=List.idxOf_lt_length_iff.mpr hx
 have hyl:=List.idxOf_lt_length_iff.mpr hy
 have:=List.pairwise_iff_getElem.mp hN (N.idxOf y) (N.idxOf x) hyl hxl (by omega)
 rw [List.getElem_idxOf hyl,List.getElem_idxOf hxl] at this
 have e:=QlO h this
 rw [e] at c
 omega
theorem Qhp {gs:List Gp} {rs:List Rp} {w:Str} (h:w∈wds gs rs):w∈nm gs rs:=by
 unfold nm
 rw [List.mem_append,(Qw _).mem_iff,(Qw _).mem_iff,List.mem_filter,Qch]
 by_cases c:w∈GN gs
 ·exact .inl c
 ·exact .inr ⟨h,by simpa using c⟩
def ordB (G b:List Str):List Str:=QM (b.filter fun w=>decide (w∈G))++QM (b.filter fun w=>decide (w∉G))
theorem Qdx (G b:List Str):(ordB G b).Perm b:=by
 unfold ordB
 refine ((Qw _).append (Qw _)).trans ?_
 have h:=List.filter_append_perm (fun w=>decide (w∈G)) b
 refine .trans (.of_eq ?_) h
 congr 1
 refine List.filter_congr fun x _ => ?_
 simp
theorem ordB_ord (G b:List Str):(ordB G b).Pairwise (ordN G):=QiD (fun x hx=>by simpa using (List.mem_filter.mp hx).2) fun x hx=>by simpa using (List.mem_filter.mp hx).2
theorem QiO {N G b:List Str} (hN:N.Pairwise (ordN G)) (hb:∀ w∈b,w∈N):(Qec (b.map fun w=>((N.idxOf w:Nat):Int))).map PV.int=encN ((ordB G b).map N.idxOf):=by
 have hm:∀ w∈ordB G b,w∈N:=fun w hw=>hb w ((Qdx G b).mem_iff.mp hw)
 have e:=QiP (ns:=b.map fun w=>((N.idxOf w:Nat):Int)) (ms:=(ordB G b).map fun w=>((N.idxOf w:Nat):Int)) ((Qdx G b).map _) (by
  rw [List.pairwise_map]
  refine (ordB_ord G b).imp_of_mem fun {x y} hx hy h => ?_
  have:=idx_le hN (hm x hx) (hm y hy) h
  omega)
 rw [← e]
 unfold encN
 rw [List.map_map,List.map_map]
 rfl
theorem Qdw {N:List Str} {w:Str} (h:w∈N):QaU (.tup (N.map .str)) [.str w]=some (pN (N.idxOf w)):=by
 show (match Yc (N.map PV.str) with
  | some ns=>if w∈ns then some (PV.int (ns.idxOf w:Nat)) else none
  | none=>none)=_
 rw [L2.PM.strs?_map]
 exact if_pos h
def tpK (g:PV→List PV→Option PV) (q:Option (List PV)) (p:PV):Option PV:=if Qht p=true then q.bind (g p) else none
theorem ev_mMtT (g:PV→List PV→Option PV) (m:MEx) (ma:PEnv→Option (List PV)) (γ:PEnv):mMtT g m ma γ=(m γ).bind (tpK g (ma γ)):=rfl
theorem tpK_s (g:PV→List PV→Option PV) (q:Option (List PV)) (N:List Str):tpK g q (.tup (N.map .str))=q.bind (g (.tup (N.map .str))):=by
 unfold tpK
 cases N <;> rfl
def rV (f:Str→Nat) (p:Rp):PV := .tup [pN (f p.1),.tup (encN (p.2.map f))]
local macro_rules | `(tactic| walk_at "ev")=>`(tactic| try simp (disch:=walk_at "eb") only [pLen_sn,mtK_s,ev_mSortDiff,ev_mMtT,tpK_s,EVc,EVl,List.length_range])
theorem Qmk {N G:List Str} (hN:N.Pairwise (ordN G)) {h:Str} {b:List Str} (hh:h∈N) (hb:∀ w∈b,w∈N) (hl:b.length < 64):Zg [.tup (N.map .str),(Rw.r h b).v]=some (rV N.idxOf (h,ordB G b)):=by
 have e1:=Qdw hh
 have e2:=QiO hN hb
 unfold Zg QaF Rw.v rV
 walk_at "ev"
 rw [YA PV.str (fun w=>PV.int ((N.idxOf w:Nat):Int)) _ fun w hw=>⟨_,rfl,by
  walk_at "ev"
  rw [Qdw (hb w hw)]
  rfl⟩]
 rw [show (b.map fun w=>PV.int ((N.idxOf w:Nat):Int))=(b.map fun w=>((N.idxOf w:Nat):Int)).map PV.int by rw [List.map_map];rfl]
 walk_at "ev"
 rw [QkL (by rw [List.length_map];exact hl),e2]
 walk_at "ev"
 rw [e1]
 walk_at "ev"
def tr (p:Gp):Tri:=("guess",p.1,p.2)
def srtG (gs:List Gp):List Gp:=(Qdn (gs.map tr)).map fun t=>(t.2.1,t.2.2)
theorem Qkv (gs:List Gp):Qdn (gs.map tr)=(srtG gs).map tr:=by
 unfold srtG
 rw [List.map_map]
 have h:∀ t∈Qdn (gs.map tr),(tr ∘ fun t:Tri=>(t.2.1,t.2.2)) t=id t:=fun t ht=>by
  obtain ⟨p,_,rfl⟩:=List.mem_map.mp ((QaI _).mem_iff.mp ht)
  rfl
 rw [List.map_congr_left h,List.map_id]
theorem XJ (gs:List Gp):(srtG gs).Perm gs:=by
 unfold srtG
 refine ((QaI _).map _).trans ?_
 rw [List.map_map]
 exact .of_eq (List.map_id'' (fun _=>rfl) _)
theorem tri_fst (gs:List Gp):(gs.map tr).map (·.2.1)=GN gs:=by
 unfold GN
 rw [List.map_map]
 rfl
theorem QlM {gs:List Gp} (hn:(GN gs).Nodup) (hl:gs.length < 64):QeL [.lst (gs.map fun p=>(gRow p).v)]=some ((srtG gs).map fun p=>(gRow p).v):=by
 have e:(gs.map fun p=>(gRow p).v)=(gs.map tr).map triV:=by rw [List.map_map];rfl
 rw [e]
 show (match QhA ((gs.map tr).map triV) with
  | some ts=>if ts.length < 64 then (if triOk ts then some ((Qdn ts).map triV) else none) else none
  | none=>none)=_
 rw [QfS]
 show (if (gs.map tr).length < 64 then (if triOk (gs.map tr) then some ((Qdn (gs.map tr)).map triV) else none) else none)=_
 have h1:∀ t∈gs.map tr,t.1=((gs.map tr).getD 0 tri0).1:=fun t ht=>by
  obtain ⟨p,hp,rfl⟩:=List.mem_map.mp ht
  cases gs with
  | nil=>cases hp
  | cons q gs=>rfl
 rw [if_pos (by rw [List.length_map];exact hl),if_pos ⟨h1,by rw [tri_fst];exact hn⟩,Qkv,List.map_map]
 rfl
def bkV (f:Str→Nat) (n:Nat) (gs:List Gp) (rs:List Rp):PV := .tup [pN n,.tup (encN (gs.map fun p=>f p.2)),.tup (rs.map (rV f))]
def ordR (G:List Str) (rs:List Rp):List Rp:=rs.map fun p=>(p.1,ordB G p.2)
theorem keep_5 (k:Bool) (a b:PV) (s2 s3 s4:Slot):Zt k [1] [.fz a,.fz b,s2,s3,s4]=[.fz a,.fz b,s2,s3,s4]:=by
 cases k <;> rfl
theorem wds_g {gs:List Gp} {rs:List Rp} {p:Gp} (h:p∈gs):p.1∈nm gs rs∧p.2∈nm gs rs:=⟨Qhp (XB.mpr (.inl ⟨p,h,.inl rfl⟩)),Qhp (XB.mpr (.inl ⟨p,h,.inr rfl⟩))⟩
theorem wds_r {gs:List Gp} {rs:List Rp} {p:Rp} (h:p∈rs):p.1∈nm gs rs∧∀ w∈p.2,w∈nm gs rs:=⟨Qhp (XB.mpr (.inr ⟨p,h,.inl rfl⟩)),fun w hw=>Qhp (XB.mpr (.inr ⟨p,h,.inr hw⟩))⟩
theorem Gd.gnd {R:List Rw} {M:List Str} (G:Gd R M):(GN (R.filterMap Rw.gp)).Nodup:=by
 have pw:=G.pw
 clear G
 induction R with
 | nil=>exact .nil
 | cons x R ih =>
  obtain ⟨h1,h2⟩:=List.pairwise_cons.mp pw
  cases x with
  | r h b=>rw [List.filterMap_cons_none (by rfl)];exact ih h2
  | g a b =>
   rw [List.filterMap_cons_some (b:=(a,b)) (by rfl)]
   show (a :: GN (R.filterMap Rw.gp)).Nodup
   rw [List.nodup_cons]
   refine ⟨fun ha => ?_,ih h2⟩
   obtain ⟨p,hp,e⟩:=List.mem_map.mp ha
   obtain ⟨x,hx,e2⟩:=List.mem_filterMap.mp hp
   cases x with
   | g c d =>
    cases e2
    exact h1 _ hx e.symm
   | r h b=>cases e2
theorem Gd.rb {R:List Rw} {M:List Str} (G:Gd R M) {p:Rp} (hp:p∈R.filterMap Rw.rp):(rRow p).Ok:=by
 obtain ⟨x,hx,e⟩:=List.mem_filterMap.mp hp
 cases x with
 | g c d=>cases e
 | r h b=>cases e;exact G.ok _ hx
local macro_rules | `(tactic| walk_at "ev")=>`(tactic| try simp (disch:=walk_at "eb") only [pLen_sn,mtK_s,ev_mSortDiff,ev_mMtT,tpK_s,ev_sExE,EVc,EVl,List.length_range])
theorem Qml {R:List Rw} {M:List Str} (G:Gd R M):Zh [.tup ((nm (R.filterMap Rw.gp) (R.filterMap Rw.rp)).map .str),.lst (R.map Rw.v)] =
  some (bkV (nm (R.filterMap Rw.gp) (R.filterMap Rw.rp)).idxOf (nm (R.filterMap Rw.gp) (R.filterMap Rw.rp)).length (srtG (R.filterMap Rw.gp)) (ordR (GN (R.filterMap Rw.gp)) (R.filterMap Rw.rp))):=by
 have hl:=G.len
 have h8:=G.ng
 have h40:=G.nr
 have hgn:=G.gnd
 have hrb:=fun p hp=>G.rb (p:=p) hp
 have ekg:=Qfk (R:=R) (by omega)
 have ekr:=QiX (R:=R) (by omega)
 generalize R.filterMap Rw.gp=gs at *
 generalize R.filterMap Rw.rp=rs at *
 have hN:=nm_ord gs rs
 have hG:∀ p∈gs,p.2∈nm gs rs:=fun p hp=>(wds_g hp).2
 have hR:∀ p∈rs,p.1∈nm gs rs∧∀ w∈p.2,w∈nm gs rs:=fun p hp=>wds_r hp
 generalize nm gs rs=N at *
 have hsl:(srtG gs).length=gs.length:=(XJ gs).length_eq
 unfold Zh QaG
 walk_at "ev"
 rw [ekg]
 walk_at "ev"
 rw [QlM hgn (by omega)]
 walk_at "ev"
 rw [keep_5]
 walk_at "ev"
 rw [YA (fun p=>(gRow p).v) (fun p:Gp=>pN (N.idxOf p.2)) _ fun p hp=>⟨_,rfl,by
  have:=hG p ((XJ gs).mem_iff.mp hp)
  unfold gRow Rw.v
  walk_at "ev"
  rw [Qdw this]⟩]
 walk_at "ev"
 rw [ekr]
 walk_at "ev"
 rw [YA (fun p=>(rRow p).v) (fun p:Rp=>rV N.idxOf (p.1,ordB (GN gs) p.2)) _ fun p hp=>⟨_,rfl,by
  have:=hR p hp
  obtain ⟨_,_,_,h6⟩:=hrb p hp
  walk_at "ev"
  rw [show rRow p=Rw.r p.1 p.2 from rfl,Qmk hN this.1 this.2 (by omega)]⟩]
 walk_at "ev"
 unfold bkV encN ordR
 rw [List.map_map,List.map_map]
 rfl
def QdZ (gs:List Gp) (rs:List Rp):PV := .tup [.tup ((nm gs rs).map .str),bkV (nm gs rs).idxOf (nm gs rs).length (srtG gs) (ordR (GN gs) rs)]
theorem e_lines {R:List Rw} {M:List Str} (G:Gd R M):ZN [.lst (R.map fun x => .str x.line)]=some (QdZ (R.filterMap Rw.gp) (R.filterMap Rw.rp)):=by
 have e1:=e_rows G
 have e2:=e_refuse G
 have e3:=e_names G
 have e4:=Qml G
 unfold ZN QcC QdZ
 walk_at "ev"
 rw [e1]
 walk_at "ev"
 rw [e2]
 walk_at "ev"
 rw [e3]
 walk_at "ev"
 rw [e4]
 walk_at "ev"
theorem Qis {R:List Rw} (ok:∀ x∈R,x.Ok) (hl:R.length≤60):(Txt.join nl (R.map Rw.line)).length≤9000:=by
 rw [ZM]
 have e3:nl.length=1:=rfl
 have e5:=QbU (R.map Rw.line) 110 fun s hs=>by
  obtain ⟨x,hx,rfl⟩:=List.mem_map.mp hs
  exact (Qff (ok x hx)).2
 rw [List.length_map] at e5 ⊢
 rw [e3]
 omega
theorem tru_s {x:Str} (h:x.length≤100000):tru (.str x)=some (!(x.length==0)):=by
 show (if x.length≤LIM then some ((x.length:Int) != 0) else none)=_
 rw [if_pos (Xf h)]
 congr 1
 cases hc:x.length with
 | zero=>rfl
 | succ n =>
  have:((n + 1:Nat):Int)≠0:=by omega
  simp [bne]
  omega
theorem QgF {w:Str} {ws:List Str} (h:∀ s∈w :: ws,10∉s.cps.toList) (hl:(Txt.join nl (w :: ws)).length≤9000):Qbi (.str (Txt.join nl (w :: ws))) [.str "\n"]=some ((w :: ws).map .str):=by
 show (if (("\n":Str).length==0)=false∧(Txt.join nl (w :: ws)).length + 2≤LIM then some ((Txt.split (Txt.join nl (w :: ws)) "\n").map PV.str) else none)=_
 rw [if_pos ⟨rfl,Xf (by omega)⟩,show ("\n":Str)=nl from rfl,QhC w ws h]
theorem text_pos {w:Str} {ws:List Str} (h:1≤w.length):1≤(Txt.join nl (w :: ws)).length:=by
 cases ws with
 | nil=>rw [Xu];exact h
 | cons v ws =>
  rw [ZW,QbV,QbV]
  omega
theorem QjD {R:List Rw} (ok:∀ x∈R,x.Ok) (hl:R.length≤60):YO [.str (Txt.join nl (R.map Rw.line))]=some (.lst (R.map fun x => .str x.line)):=by
 have tl:=Qis ok hl
 unfold YO QeD
 cases R with
 | nil =>
  rw [List.map_nil,QfV]
  walk_at "ev"
  rw [tru_s (by decide +kernel),show (!(("":Str).length==0))=false by decide +kernel]
  walk_at "ev"
 | cons x R =>
  have tp:=text_pos (w:=x.line) (ws:=R.map Rw.line) (Qff (ok x (by simp))).1
  have es:=QgF (w:=x.line) (ws:=R.map Rw.line) (fun s hs=>by
   obtain ⟨y,hy,rfl⟩:=List.mem_map.mp (show s∈(x :: R).map Rw.line from hs)
   exact line_nl (ok y hy)) tl
  rw [List.map_cons] at tl ⊢
  generalize Txt.join nl (x.line :: R.map Rw.line)=T at *
  walk_at "ev"
  rw [tru_s (by omega),show (!(T.length==0))=true by simp;omega]
  walk_at "ev"
  rw [es]
  walk_at "ev"
  simp
theorem e_book {R:List Rw} {M:List Str} (G:Gd R M):Ym [.str (Txt.join nl (R.map Rw.line))]=some (QdZ (R.filterMap Rw.gp) (R.filterMap Rw.rp)):=by
 have hl:=G.len
 have e1:=QjD G.ok (by omega)
 have e2:=e_lines G
 unfold Ym QdK
 walk_at "ev"
 rw [e1]
 walk_at "ev"
 rw [e2]
 walk_at "ev"
def QjY (gs:List Gp) (rs:List Rp):List Rw:=gs.map gRow++rs.map rRow
inductive Sim:List Rp→List Rp→Prop
 | nil:Sim [] []
 | cons {h:Str} {a b:List Str} {rs ts:List Rp}:a.Perm b→Sim rs ts→Sim ((h,a) :: rs) ((h,b) :: ts)
theorem Sim.refl:∀ rs:List Rp,Sim rs rs
 | [] => .nil
 | (h,a) :: rs => .cons (.refl a) (Sim.refl rs)
theorem Sim.len {rs ts:List Rp} (s:Sim rs ts):ts.length=rs.length:=by
 induction s with
 | nil=>rfl
 | cons _ _ ih=>simp [ih]
theorem Sim.back {rs ts:List Rp} (s:Sim rs ts) {p:Rp} (hp:p∈ts):∃ q∈rs,q.1=p.1∧q.2.Perm p.2:=by
 induction s with
 | nil=>cases hp
 | @cons k a b rs ts hab s ih =>
  rcases List.mem_cons.mp hp with rfl | hp
  ·exact ⟨(k,a),by simp,rfl,hab⟩
  ·obtain ⟨q,hq,h1,h2⟩:=ih hp
   exact ⟨q,List.mem_cons_of_mem _ hq,h1,h2⟩
theorem Sim.symm {rs ts:List Rp} (s:Sim rs ts):Sim ts rs:=by
 induction s with
 | nil=>exact .nil
 | cons hab _ ih=>exact .cons hab.symm ih
def QcV (p q:Rp):Prop:=¬ (p.1=q.1∧QM p.2=QM q.2)
theorem Sim.pw {rs ts:List Rp} (s:Sim rs ts) (h:rs.Pairwise QcV):ts.Pairwise QcV:=by
 induction s with
 | nil=>exact h
 | @cons k a b rs ts hab s ih =>
  obtain ⟨h1,h2⟩:=List.pairwise_cons.mp h
  refine List.pairwise_cons.mpr ⟨fun q hq e => ?_,ih h2⟩
  obtain ⟨q',hq',e1,e2⟩:=s.back hq
  refine h1 q' hq' ⟨?_,?_⟩
  ·rw [e1];exact e.1
  ·show QM a=QM q'.2
   rw [Qbm hab,Qbm e2]
   exact e.2
structure GB (gs:List Gp) (rs:List Rp) (M:List Str):Prop where
 gok:∀ p∈gs,(gRow p).Ok
 gnd:(GN gs).Nodup
 gl:gs.length≤8
 rok:∀ p∈rs,(rRow p).Ok
 rpw:rs.Pairwise QcV
 rl:rs.length≤40
 nM:M.length≤30
 ws:∀ w∈wds gs rs,w∈M
 hd:∀ p∈rs,p.1∉GN gs
theorem wds_to {gs hs:List Gp} {rs ts:List Rp} (hp:gs.Perm hs) (s:Sim rs ts) {w:Str} (h:w∈wds hs ts):w∈wds gs rs:=by
 rcases XB.mp h with ⟨p,h1,h2⟩ | ⟨p,h1,h2⟩
 ·exact XB.mpr (.inl ⟨p,hp.mem_iff.mpr h1,h2⟩)
 ·obtain ⟨q,hq,e1,e2⟩:=s.back h1
  refine XB.mpr (.inr ⟨q,hq,?_⟩)
  rcases h2 with h2 | h2
  ·exact .inl (by rw [e1];exact h2)
  ·exact .inr (e2.mem_iff.mpr h2)
theorem GB.go {gs hs:List Gp} {rs ts:List Rp} {M:List Str} (x:GB gs rs M) (hp:gs.Perm hs) (s:Sim rs ts):GB hs ts M where
 gok:=fun p h=>x.gok p (hp.mem_iff.mpr h)
 gnd:=((hp.map _).nodup_iff).mp x.gnd
 gl:=by rw [← hp.length_eq];exact x.gl
 rok:=fun p h=>by
  obtain ⟨q,hq,e1,e2⟩:=s.back h
  obtain ⟨k1,k2,k3,k4⟩:=x.rok q hq
  exact ⟨by rw [← e1];exact k1,fun w hw=>k2 w (e2.mem_iff.mpr hw),e2.nodup_iff.mp k3,by rw [← e2.length_eq];exact k4⟩
 rpw:=s.pw x.rpw
 rl:=by rw [s.len];exact x.rl
 nM:=x.nM
 ws:=fun w hw=>x.ws w (wds_to hp s hw)
 hd:=fun p h z=>by
  obtain ⟨q,hq,e1,e2⟩:=s.back h
  exact x.hd q hq (by rw [e1];exact (hp.map _).mem_iff.mpr z)
theorem GB.rows {gs:List Gp} {rs:List Rp} {M:List Str} (x:GB gs rs M) {R:List Rw} (h1:R.filterMap Rw.gp=gs) (h2:R.filterMap Rw.rp=rs):Gd R M where
 ok:=fun y hy=>by
  cases y with
  | g a b=>exact x.gok (a,b) (by rw [← h1];exact List.mem_filterMap.mpr ⟨_,hy,rfl⟩)
  | r h b=>exact x.rok (h,b) (by rw [← h2];exact List.mem_filterMap.mpr ⟨_,hy,rfl⟩)
 pw:=by
  have n1:=x.gnd
  have n2:=x.rpw
  rw [← h1] at n1
  rw [← h2] at n2
  clear h1 h2 x
  induction R with
  | nil=>exact .nil
  | cons y R ih =>
   cases y with
   | g a b =>
    rw [List.filterMap_cons_some (b:=(a,b)) (by rfl)] at n1
    rw [List.filterMap_cons_none (by rfl)] at n2
    obtain ⟨k1,k2⟩:=List.nodup_cons.mp (show (a :: GN (R.filterMap Rw.gp)).Nodup from n1)
    refine List.pairwise_cons.mpr ⟨fun z hz e => ?_,ih k2 n2⟩
    cases z with
    | g c d =>
     have e:a=c:=e
     exact k1 (List.mem_map.mpr ⟨(c,d),List.mem_filterMap.mpr ⟨_,hz,rfl⟩,e.symm⟩)
    | r h b=>exact e
   | r h b =>
    rw [List.filterMap_cons_none (by rfl)] at n1
    rw [List.filterMap_cons_some (b:=(h,b)) (by rfl)] at n2
    obtain ⟨k1,k2⟩:=List.pairwise_cons.mp n2
    refine List.pairwise_cons.mpr ⟨fun z hz e => ?_,ih n1 k2⟩
    cases z with
    | g c d=>exact e
    | r c d=>exact k1 (c,d) (List.mem_filterMap.mpr ⟨_,hz,rfl⟩) e
 ng:=by rw [h1];exact x.gl
 nr:=by rw [h2];exact x.rl
 nM:=x.nM
 ws:=fun y hy w hw=>x.ws w (by
  rw [← h1,← h2,← Qfe]
  exact List.mem_flatMap.mpr ⟨y,hy,hw⟩)
 hd:=fun p hp=>by
  rw [h2] at hp
  rw [h1]
  exact x.hd p hp
theorem QiV (gs:List Gp) (rs:List Rp):(QjY gs rs).filterMap Rw.gp=gs∧(QjY gs rs).filterMap Rw.rp=rs:=by
 have a1:∀ gs:List Gp,(gs.map gRow).filterMap Rw.gp=gs:=fun gs=>by
  induction gs with
  | nil=>rfl
  | cons p gs ih=>rw [List.map_cons,List.filterMap_cons_some (b:=p) (by rfl),ih]
 have a2:∀ gs:List Gp,(gs.map gRow).filterMap Rw.rp=[]:=fun gs=>by
  induction gs with
  | nil=>rfl
  | cons p gs ih=>rw [List.map_cons,List.filterMap_cons_none (by rfl),ih]
 have a3:∀ rs:List Rp,(rs.map rRow).filterMap Rw.rp=rs:=fun gs=>by
  induction gs with
  | nil=>rfl
  | cons p gs ih=>rw [List.map_cons,List.filterMap_cons_some (b:=p) (by rfl),ih]
 have a4:∀ rs:List Rp,(rs.map rRow).filterMap Rw.gp=[]:=fun gs=>by
  induction gs with
  | nil=>rfl
  | cons p gs ih=>rw [List.map_cons,List.filterMap_cons_none (by rfl),ih]
 unfold QjY
 rw [List.filterMap_append,List.filterMap_append,a1,a2,a3,a4]
 simp
theorem ev_sIns {ms:List Nat} {i:Nat} {mk m:MEx} {γ:PEnv} {xs:List PV} (h:γ[i]?=some (.ow xs)):sIns ms i mk m γ=(mk γ).bind fun j=>(m γ).bind fun r=>insK ms i γ xs r j:=by
 unfold sIns
 rw [h]
theorem insK_n {ms:List Nat} {i:Nat} {γ:PEnv} {xs:List PV} {r:PV} {j:Nat} (h:j≤xs.length) (h2:xs.length≤1000) (h3:(flat r || !ms.contains i)=true):insK ms i γ xs r (pN j)=some (.nx ((Zt (flat r) ms γ).set i (.ow (xs.take j++r :: xs.drop j)))):=by
 show (if 0≤(j:Int)∧(j:Int)≤xs.length∧xs.length≤1000∧(flat r || !ms.contains i)=true then some (Out.nx ((Zt (flat r) ms γ).set i (.ow (xs.take (j:Int).toNat++r :: xs.drop (j:Int).toNat)))) else none)=_
 rw [if_pos ⟨by omega,by omega,h2,h3⟩,Int.toNat_natCast]
theorem Qhh (G:List Str) (w:Str):G.any (·==w)=decide (w∈G):=by
 rw [Bool.eq_iff_iff,List.any_eq_true,decide_eq_true_iff]
 constructor
 ·rintro ⟨x,hx,e⟩
  rw [← eq_of_beq e];exact hx
 ·intro h
  exact ⟨w,h,by simp⟩
def Qeb:List Str:=["guesss","gues","uess","unles","nless","ifs","fi","i","f","unlessif","guessif","ifguess","guesses","guessunless","iff","unlessguess"]
def wdB (s:Str):Bool:=decide (1≤s.length)&&decide (s.length≤12)&&s.cps.toList.all fun c=>decide (97≤c)&&decide (c≤122)
theorem near_wd:Qeb.all wdB=true:=by decide +kernel
theorem wdB_ok {s:Str} (h:wdB s=true):1≤s.length∧s.length≤12∧Low s:=by
 unfold wdB at h
 rw [Bool.and_eq_true,Bool.and_eq_true,List.all_eq_true] at h
 refine ⟨of_decide_eq_true h.1.1,of_decide_eq_true h.1.2,fun c hc => ?_⟩
 have:=h.2 c hc
 rw [Bool.and_eq_true] at this
 exact ⟨of_decide_eq_true this.1,of_decide_eq_true this.2⟩
theorem near_get {i:Nat} (h:i < 16):∃ s,(Qeb.map PV.str)[i]?=some (.str s)∧s∈Qeb:=by
 have h2:i < Qeb.length:=h
 refine ⟨Qeb[i],by rw [List.getElem?_map,List.getElem?_eq_getElem h2];rfl,List.getElem_mem h2⟩
theorem near_two:([PV.str "guesss",.str "gues",.str "uess",.str "unles",.str "nless",.str "ifs",.str "fi",.str "i",.str "f",.str "unlessif",.str "guessif",.str "ifguess"]++[PV.str "guesses",.str "guessunless",.str "iff",.str "unlessguess"])=Qeb.map PV.str:=rfl
local macro_rules | `(tactic| walk_at "ev")=>`(tactic| try simp (disch:=walk_at "eb") only [pLen_sn,mtK_s,EVc,EVl,List.length_range])
theorem e_near (k:Nat):∃ s:Str,QV [pN k]=some (.str s)∧1≤s.length∧s.length≤12∧Low s:=by
 have hm:k % 16 < 16:=Nat.mod_lt _ (by decide)
 obtain ⟨s,e,hs⟩:=near_get hm
 have hw:=wdB_ok (List.all_eq_true.mp near_wd s hs)
 refine ⟨s,?_,hw⟩
 have hl:(Qeb.map PV.str).length=16:=rfl
 have a1:∀ x,(ZB [] 1 (mLim (Qc (mC (.str "guesss")) (Qc (mC (.str "gues")) (Qc (mC (.str "uess")) (Qc (mC (.str "unles")) (Qc (mC (.str "nless")) (Qc (mC (.str "ifs")) (Qc (mC (.str "fi")) (Qc (mC (.str "i")) (Qc (mC (.str "f")) (Qc (mC (.str "unlessif")) (Qc (mC (.str "guessif")) (Qc (mC (.str "ifguess")) aNil)))))))))))))) [.fz x,.un]=some (.nx [.fz x,.ow [PV.str "guesss",.str "gues",.str "uess",.str "unles",.str "nless",.str "ifs",.str "fi",.str "i",.str "f",.str "unlessif",.str "guessif",.str "ifguess"]]):=by
  intro x
  walk_at "ev"
 have a2:∀ x,(ZB [1] 1 (bin2 pCat (mVar 1) (mLst (mLim (Qc (mC (.str "guesses")) (Qc (mC (.str "guessunless")) (Qc (mC (.str "iff")) (Qc (mC (.str "unlessguess")) aNil)))))))) [.fz x,.ow [PV.str "guesss",.str "gues",.str "uess",.str "unles",.str "nless",.str "ifs",.str "fi",.str "i",.str "f",.str "unlessif",.str "guessif",.str "ifguess"]]=some (.nx [.fz x,.ow (Qeb.map PV.str)]):=by
  intro x
  rw [← near_two]
  walk_at "ev"
 unfold QV Qaf
 rw [runV_1,ev_startG1]
 simp only [List.map_cons,List.map_nil,List.length_cons,List.length_nil,List.replicate_succ,List.replicate_zero,List.cons_append,List.nil_append]
 rw [ev_sSeq,a1,Option.bind_some,seqK_nx,ev_sSeq,a2,Option.bind_some,seqK_nx]
 generalize Qeb.map PV.str=N at *
 walk_at "ev"
 rw [e]
 walk_at "ev"
theorem rev_idx:Builtin.Str.strSliceIndices none none (-1) 12=[11,10,9,8,7,6,5,4,3,2,1,0]:=by decide +kernel
theorem Qiy {x:Str} (h:x.length=12):(revS x).length=12:=by
 have hx:x.cps.size=12:=h
 unfold revS
 rw [h,rev_idx]
 show (List.filterMap (fun i=>x.cps[i]?) [11,10,9,8,7,6,5,4,3,2,1,0]).toArray.size=12
 have g:∀ i,i < 12→∃ c,x.cps[i]?=some c:=fun i hi=>⟨x.cps[i],Array.getElem?_eq_getElem (by omega)⟩
 have all:∀ L:List Nat,(∀ i∈L,i < 12)→(L.filterMap fun i=>x.cps[i]?).length=L.length:=by
  intro L
  induction L with
  | nil=>intro _;rfl
  | cons a l ih =>
   intro hL
   obtain ⟨c,hc⟩:=g a (hL a (List.mem_cons_self ..))
   rw [List.filterMap_cons,hc]
   simp [ih fun i hi=>hL i (List.mem_cons_of_mem _ hi)]
 rw [List.size_toArray,all _ (by decide)]
 rfl
theorem revS_low {x:Str} (h:Low x):Low (revS x):=fun c hc=>by
 unfold revS at hc
 rw [List.toList_toArray,List.mem_filterMap] at hc
 obtain ⟨i,_,e⟩:=hc
 exact h c (by
  have:=Array.mem_of_getElem? e
  exact Array.mem_toList_iff.mpr this)
theorem pRvS_s {x:Str} (h:x.length=12):pRvS (.str x)=some (.str (revS x)):=if_pos ⟨Xf (by omega),Xf (by rw [Qiy h];omega)⟩
theorem Qhc {x:Str} (h:Low x) {a b:Nat} (hab:a≤b) (hb:b≤x.length) (l u:Option Int) (e:Builtin.Str.strSliceIndices l u 1 x.length=Builtin.Str.strSliceIndices (some (a:Int)) (some (b:Int)) 1 x.length) :
  Low (Txt.slice x l u)∧(Txt.slice x l u).length=b - a:=by
 have hs:=slice_ab x hab hb l u e
 constructor
 ·intro c hc
  rw [hs] at hc
  exact h c (List.mem_of_mem_drop (List.mem_of_mem_take hc))
 ·have hx:x.cps.toList.length=x.length:=by simp [Str.length]
  have:(Txt.slice x l u).length=(Txt.slice x l u).cps.toList.length:=by simp [Str.length]
  rw [this,hs,List.length_take,List.length_drop]
  omega
theorem Qfl (c:Int) {n:Nat} (hn:n≤1000):∃ ds:List Nat,QK [.int c,pN n]=some (.lst (encN ds))∧ds.length=n:=by
 unfold QK QcF
 walk_at "ev"
 generalize ((c % ((2147483629:Nat):Int)).toNat + 1) * 1103515245 % 2147483647=n0
 obtain ⟨γ',e,number,ds,s4,rfl,h1⟩:=QcO (g:=gSet 4) (b:=XZ) (fun j γ=>∃ (number:Nat) (ds:List Nat) (s4:Slot),γ=[.fz (.int c),.fz (pN n),.fz (pN number),.ow (encN ds),s4]∧ds.length=j)
  n [.fz (.int c),.fz (pN n),.fz (pN n0),.ow (encN []),.un] ⟨n0,[],.un,rfl,rfl⟩ (by
   rintro j γ hj ⟨number,ds,s4,rfl,h1⟩
   refine ⟨_,_,rfl,?_,number * 48271 % 2147483647,ds++[number * 48271 % 2147483647 / 13],.fz (pN j),rfl,by simp [h1]⟩
   unfold XZ
   walk_at "ev"
   rw [XT (by rw [encN_len];omega) rfl]
   walk_at "ev"
   simp [encN])
 rw [show ([]:List PV)=encN [] from rfl,e]
 walk_at "ev"
 exact ⟨ds,rfl,h1⟩
theorem ZR {ds:List Nat} {n:Nat} (h:ds.length=n) {i:Nat} (hi:i < n):(encN ds)[i]?=some (pN (ds.getD i 0)):=by
 rw [encN_get,List.getElem?_eq_getElem (by omega),List.getD_eq_getElem?_getD,List.getElem?_eq_getElem (by omega)]
 rfl
def One (s:Str):Prop:=s.length=1∧Low s
theorem one1 {i:Nat} (h:i < 26):One ⟨#[97 + i]⟩:=⟨rfl,low1 h⟩
theorem join_one {L:List Str} (h:∀ s∈L,One s):(Txt.join "" L).length=L.length∧Low (Txt.join "" L):=by
 have e0:("":Str).length=0:=by decide +kernel
 constructor
 ·rw [ZM,e0,Nat.mul_zero,Nat.add_zero]
  clear e0
  induction L with
  | nil=>rfl
  | cons s L ih =>
   rw [List.map_cons,List.sum_cons,List.length_cons,(h s (by simp)).1,ih fun x hx=>h x (List.mem_cons_of_mem _ hx)]
   omega
 ·intro c hc
  rcases QcX "" L hc with z | ⟨w,hw,z⟩
  ·rw [show ("":Str).cps.toList=[] by decide +kernel] at z
   cases z
  ·exact (h w hw).2 c z
theorem QlE {x:Str} (h:Low x):∀ s∈signs x,One s:=by
 intro s hs
 obtain ⟨c,hc,rfl⟩:=List.mem_map.mp hs
 exact ⟨rfl,fun d hd=>by
  have:d=c:=by simpa using hd
  rw [this];exact h c hc⟩
theorem Qky {L:List Str} (h:∀ s∈L,One s) {w:Str} (hw:One w) (i:Nat):∀ s∈L.set i w,One s:=by
 intro s hs
 rcases List.mem_or_eq_of_mem_set hs with z | z
 ·exact h s z
 ·rw [z];exact hw
theorem pSigns_s {x:Str} (h:x.length≤1000):Qhm [.str x]=some ((signs x).map .str):=if_pos (lt_lim5 h)
theorem six_get {i:Nat} (h:i < 6):∃ v:Nat,(encN [1,3,5,7,9,11])[i]?=some (pN v):=by
 rw [encN_get,List.getElem?_eq_getElem (by simpa using h)]
 exact ⟨_,rfl⟩
theorem Qdy (L:List Str) (i:Nat) (w:Str):(L.map PV.str).set i (.str w)=(L.set i w).map .str:=by rw [List.map_set]
theorem e_like {ds:List Nat} (hd:ds.length=40) {k:Nat} (hk:k≤1000):∃ s:Str,QW [.lst (encN ds),pN k]=some (.str s)∧1≤s.length∧s.length≤12∧Low s:=by
 have g0:=ZR hd (i:=0) (by decide)
 have g1:=ZR hd (i:=1) (by decide)
 have g2:=ZR hd (i:=2) (by decide)
 have g3:=ZR hd (i:=3) (by decide)
 have g4:=ZR hd (i:=4) (by decide)
 have g5:=ZR hd (i:=5) (by decide)
 have g6:=ZR hd (i:=6) (by decide)
 generalize ds.getD 0 0=d0 at *
 generalize ds.getD 1 0=d1 at *
 generalize ds.getD 2 0=d2 at *
 generalize ds.getD 3 0=d3 at *
 generalize ds.getD 4 0=d4 at *
 generalize ds.getD 5 0=d5 at *
 generalize ds.getD 6 0=d6 at *
 have hm:d1 % 11 < 11:=Nat.mod_lt _ (by decide)
 generalize hD1:d1 % 11=m1 at *
 obtain ⟨x,ex,xl,xlow⟩:=Qhb d0 (size:=2 + m1) (by omega)
 have hS:=QlE xlow
 have hSl:(signs x).length=2 + m1:=by unfold signs;rw [List.length_map];simpa [Str.length] using xl
 obtain ⟨v,hv⟩:=six_get (i:=d5 % 6) (Nat.mod_lt _ (by decide))
 have es:=pSigns_s (x:=x) (by omega)
 generalize signs x=L at *
 generalize hE:encN ds=E at *
 unfold QW Qag
 walk_at "ev"
 rw [g0]
 walk_at "ev"
 rw [g1]
 walk_at "ev"
 rw [hD1,ex]
 walk_at "ev"
 rw [es]
 walk_at "ev"
 rw [g2]
 walk_at "ev"
 rw [g3]
 walk_at "ev"
 have ho:d2 % L.length < L.length:=Nat.mod_lt _ (by omega)
 generalize d2 % L.length=one at *
 have ht:(one + 1 + d3 % (L.length - 1)) % L.length < L.length:=Nat.mod_lt _ (by omega)
 generalize (one + 1 + d3 % (L.length - 1)) % L.length=two at *
 rw [g4]
 walk_at "ev"
 rw [g5]
 walk_at "ev"
 rw [show [pN 1,pN 3,pN 5,pN 7,pN 9,pN 11]=encN [1,3,5,7,9,11] from rfl,hv]
 walk_at "ev"
 have h26:(d4 + k * v) % 26 < 26:=Nat.mod_lt _ (by decide)
 rw [Qfd h26]
 walk_at "ev"
 rw [sixK_n (by rw [List.length_map];exact ho) rfl]
 walk_at "ev"
 rw [g6]
 walk_at "ev"
 have h27:(d6 + k / 26) % 26 < 26:=Nat.mod_lt _ (by decide)
 rw [Qfd h27]
 walk_at "ev"
 rw [Qdy,sixK_n (by rw [List.length_map,List.length_set];exact ht) rfl]
 walk_at "ev"
 rw [Qdy]
 have hS2:=Qky (Qky hS (one1 h26) one) (one1 h27) two
 have hl2:((L.set one ⟨#[97 + (d4 + k * v) % 26]⟩).set two ⟨#[97 + (d6 + k / 26) % 26]⟩).length=2 + m1:=by rw [List.length_set,List.length_set];exact hSl
 generalize (L.set one ⟨#[97 + (d4 + k * v) % 26]⟩).set two ⟨#[97 + (d6 + k / 26) % 26]⟩=L2 at *
 have hj:=join_one hS2
 have e0:("":Str).length=0:=by decide +kernel
 rw [QkM (by
  have:=QbU L2 1 fun s hs=>by rw [(hS2 s hs).1];exact Nat.le_refl 1
  rw [e0]
  omega)]
 walk_at "ev"
 exact ⟨_,rfl,by omega,by omega,hj.2⟩
def QjN (s:Str):Str:=if no3.any (·==s)=true then s ++ "a" else s
theorem Qix {s:Str}:no3.any (·==s)=true↔s∈no3:=by
 rw [Qhh,decide_eq_true_iff]
theorem no3_len {s:Str} (h:s∈no3):s.length≤6:=(show ∀ s∈no3,s.length≤6 by decide +kernel) s h
theorem no3_a:∀ s∈no3,(s ++ "a")∉no3:=by decide +kernel
theorem low_a:Low ("a":Str):=fun c hc=>by
 rw [show ("a":Str).cps.toList=[97] by decide +kernel] at hc
 simp at hc
 omega
theorem len_a:("a":Str).length=1:=rfl
theorem safe_wd {s:Str} (h1:1≤s.length) (h2:s.length≤12) (h3:Low s):Wd (QjN s):=by
 unfold QjN
 split
 ·rename_i h
  have hm:=Qix.mp h
  have:=no3_len hm
  exact ⟨by rw [QbV];omega,by rw [QbV,len_a];omega,QkS h3 low_a,no3_a s hm⟩
 ·rename_i h
  exact ⟨h1,h2,h3,fun z=>h (Qix.mpr z)⟩
theorem wd_ok {names:List Str} (h:∀ s∈names,Wd s):∀ s∈names,PyData.strOk s=true:=fun s hs=>ZT (h s hs).low
theorem e_part {ds:List Nat} (hd:ds.length=40) {k:Nat} (hk:k≤1000):∃ s:Str,QT [.lst (encN ds),pN k]=some (.str s)∧1≤s.length∧s.length≤12∧Low s:=by
 have g0:=ZR hd (i:=0) (by decide)
 have g1:=ZR hd (i:=1) (by decide)
 generalize ds.getD 0 0=d0 at *
 generalize ds.getD 1 0=d1 at *
 generalize encN ds=E at *
 obtain ⟨x,ex,xl,xlow⟩:=Qhb d0 (size:=12) (by omega)
 have hm:(k * 7 + d1) % 30 < 30:=Nat.mod_lt _ (by decide)
 unfold QT Qad
 walk_at "ev"
 rw [g0]
 walk_at "ev"
 rw [ex]
 walk_at "ev"
 rw [g1]
 walk_at "ev"
 generalize (k * 7 + d1) % 30=m at *
 by_cases c1:m < 12
 ·rw [decide_eq_true c1]
  walk_at "ev"
  have z:=Qhc xlow (a:=0) (b:=1 + m) (by omega) (by omega) none (some ((1 + m:Nat):Int)) (idx_lo _ _)
  exact ⟨_,rfl,by omega,by omega,z.1⟩
 ·rw [decide_eq_false c1]
  walk_at "ev"
  by_cases c2:m < 23
  ·rw [decide_eq_true c2]
   walk_at "ev"
   have z:=Qhc xlow (a:=m - 11) (b:=x.length) (by omega) (by omega) (some ((m - 11:Nat):Int)) none (idx_hi _ _)
   exact ⟨_,rfl,by omega,by omega,z.1⟩
  ·rw [decide_eq_false c2]
   walk_at "ev"
   rw [pRvS_s xl]
   walk_at "ev"
   have rl:=Qiy xl
   rw [pCutS_s (by omega)]
   walk_at "ev"
   have z:=Qhc (revS_low xlow) (a:=0) (b:=m - 20) (by omega) (by omega) none (some ((m - 20:Nat):Int)) (idx_lo _ _)
   exact ⟨_,rfl,by omega,by omega,z.1⟩
theorem e_family (c:Int) {size:Nat} (hs:size≤30):∃ names:List Str,QR [.int c,pN size]=some (.lst (names.map .str))∧names.Nodup∧(∀ s∈names,Wd s)∧names.length≤size:=by
 obtain ⟨ds,ed,hd⟩:=Qfl c (n:=40) (by omega)
 have g38:=ZR hd (i:=38) (by decide)
 have g39:=ZR hd (i:=39) (by decide)
 have el:=fun k hk=>e_like hd (k:=k) hk
 have ep:=fun k hk=>e_part hd (k:=k) hk
 have hg:∀ i,i < 40→∃ d,(encN ds)[i]?=some (pN d):=fun i hi=>⟨_,ZR hd hi⟩
 have la:=len_a
 unfold QR QaH
 walk_at "ev"
 rw [ed]
 walk_at "ev"
 generalize encN ds=E at *
 generalize ds.getD 38 0=d38 at *
 generalize ds.getD 39 0=d39 at *
 obtain ⟨γ',e,names,s4,s5,rfl,h1,h2,h3⟩:=QcO (g:=gSet 4) (b:=Yo) (fun j γ=>∃ (names:List Str) (s4 s5:Slot),γ=[.fz (.int c),.fz (pN size),.fz (.lst E),.ow (names.map .str),s4,s5]∧names.Nodup∧(∀ s∈names,Wd s)∧names.length≤j)
  size [.fz (.int c),.fz (pN size),.fz (.lst E),.ow (([]:List Str).map .str),.un,.un] ⟨[],.un,.un,rfl,.nil,(fun s h=>nomatch h),Nat.le_refl _⟩ (by
   rintro j γ hj ⟨names,s4,s5,rfl,h1,h2,h3⟩
   obtain ⟨dj,ej⟩:=hg j (by omega)
   obtain ⟨dk,ek⟩:=hg (j + 1) (by omega)
   have hm:dk / 5 % 12 < 12:=Nat.mod_lt _ (by decide)
   obtain ⟨x,ex,xl,xlow⟩:=Qhb dj (size:=1 + dk / 5 % 12) (by omega)
   obtain ⟨y,ey,yl1,yl2,ylow⟩:=el j (by omega)
   obtain ⟨y3,ey3,y3a,y3b,y3low⟩:=ep j (by omega)
   obtain ⟨y4,ey4,y4a,y4b,y4low⟩:=e_near (j + d39)
   have fin:∀ (z:Str),1≤z.length→z.length≤12→Low z→∃ γ2,seqK (sSeq (sIf (truB (bin2 pIn (mVar 5) (mTup (Qc (mC (.str "guess")) (Qc (mC (.str "unless")) (Qc (mC (.str "if")) aNil)))))) (sSet [5] 5 (bin2 pAdd (mVar 5) (mC (.str "a")))) sNx) (sIf (truB (bin2 QaA (mVar 5) (mVar 3))) (sApp [5] 3 (mVar 5)) sNx)) (.nx [.fz (.int c),.fz (pN size),.fz (.lst E),.ow (names.map .str),.fz (pN j),.fz (.str z)])=some (.nx γ2) ∧
     ∃ (names:List Str) (s4 s5:Slot),γ2=[.fz (.int c),.fz (pN size),.fz (.lst E),.ow (names.map .str),s4,s5]∧names.Nodup∧(∀ s∈names,Wd s)∧names.length≤j + 1:=by
    intro z z1 z2 z3
    have hw:=safe_wd z1 z2 z3
    have mid:∃ q,(sIf (truB (bin2 pIn (mVar 5) (mTup (Qc (mC (.str "guess")) (Qc (mC (.str "unless")) (Qc (mC (.str "if")) aNil)))))) (sSet [5] 5 (bin2 pAdd (mVar 5) (mC (.str "a")))) sNx) [.fz (.int c),.fz (pN size),.fz (.lst E),.ow (names.map .str),.fz (pN j),.fz (.str z)]=some (.nx [.fz (.int c),.fz (pN size),.fz (.lst E),.ow (names.map .str),.fz (pN j),.fz (.str (QjN z))])∧q=():=by
     refine ⟨(),?_,rfl⟩
     unfold QjN
     walk_at "ev"
     rw [pIn_3 z3]
     walk_at "ev"
     cases no3.any (·==z) with
     | true=>walk_at "ev"
     | false=>walk_at "ev";simp
    obtain ⟨_,mid,_⟩:=mid
    rw [seqK_nx,ev_sSeq,mid]
    walk_at "ev"
    generalize QjN z=u at *
    rw [Qge (ZT hw.low) (wd_ok h2),Qhh]
    by_cases c2:u∈names
    ·rw [decide_eq_true c2]
     walk_at "ev"
     exact ⟨_,rfl,names,_,_,rfl,h1,h2,by omega⟩
    ·rw [decide_eq_false c2]
     walk_at "ev"
     rw [XT (by rw [List.length_map];omega) rfl]
     walk_at "ev"
     refine ⟨_,rfl,names++[u],_,_,by rw [List.map_append];rfl,?_,?_,by simp;omega⟩
     ·rw [List.nodup_append]
      refine ⟨h1,by simp,fun a ha b hb e => ?_⟩
      rw [List.mem_singleton] at hb
      rw [e,hb] at ha
      exact c2 ha
     ·intro s hs
      rcases List.mem_append.mp hs with h | h
      ·exact h2 s h
      ·rw [List.mem_singleton.mp h];exact hw
   have step:∃ γ2,Yo [.fz (.int c),.fz (pN size),.fz (.lst E),.ow (names.map .str),.fz (pN j),s5]=some (.nx γ2)∧∃ (names:List Str) (s4 s5:Slot),γ2=[.fz (.int c),.fz (pN size),.fz (.lst E),.ow (names.map .str),s4,s5]∧names.Nodup∧(∀ s∈names,Wd s)∧names.length≤j + 1:=by
    unfold Yo
    walk_at "ev"
    rw [ej]
    walk_at "ev"
    rw [ek]
    walk_at "ev"
    rw [ex]
    walk_at "ev"
    rw [g38]
    walk_at "ev"
    cases c1:d38 % 4==1 with
    | true =>
     have c1':d38 % 4=1:=by simpa using c1
     rw [ifK_t,ev_sSet]
     walk_at "ev"
     rw [ey]
     walk_at "ev"
     rw [g38]
     walk_at "ev"
     rw [c1',show ((1:Nat)==2)=false from rfl]
     walk_at "ev"
     rw [g38]
     walk_at "ev"
     rw [c1',show ((1:Nat)==3)=false from rfl]
     walk_at "ev"
     exact fin y yl1 yl2 ylow
    | false =>
     rw [ifK_f]
     walk_at "ev"
     rw [g38]
     walk_at "ev"
     cases c2:d38 % 4==2 with
     | true =>
      have c2':d38 % 4=2:=by simpa using c2
      rw [ifK_t,ev_sSet]
      walk_at "ev"
      rw [ey3]
      walk_at "ev"
      rw [g38]
      walk_at "ev"
      rw [c2',show ((2:Nat)==3)=false from rfl]
      walk_at "ev"
      exact fin y3 y3a y3b y3low
     | false =>
      rw [ifK_f]
      walk_at "ev"
      rw [g38]
      walk_at "ev"
      cases c3:d38 % 4==3 with
      | false =>
       walk_at "ev"
       exact fin x (by omega) (by omega) xlow
      | true =>
       walk_at "ev"
       by_cases c4:j < 16
       ·rw [decide_eq_true c4]
        walk_at "ev"
        rw [g39]
        walk_at "ev"
        rw [ey4]
        walk_at "ev"
        exact fin y4 y4a y4b y4low
       ·rw [decide_eq_false c4]
        walk_at "ev"
        exact fin x (by omega) (by omega) xlow
   obtain ⟨γ2,e1,e2⟩:=step
   exact ⟨_,γ2,rfl,e1,e2⟩)
 rw [show ([]:List PV)=([]:List Str).map .str from rfl,e]
 walk_at "ev"
 exact ⟨names,rfl,h1,h2,h3⟩
theorem QfN (ns:List Int) (k:Nat):Ql [.lst (ns.map .int),pN k]=some (.int (ns.getD k 0)):=by
 unfold Ql Qbe
 walk_at "ev"
 by_cases h:k < ns.length
 ·rw [decide_eq_true h]
  walk_at "ev"
  simp [h]
  rfl
 ·rw [decide_eq_false h]
  walk_at "ev"
  simp [h]
  rfl
theorem pow_ex:∃ z:Nat,pPow (pN 10) (pN 60)=some (pN z)∧0 < z:=by
 refine ⟨10 ^ 60,?_,by decide⟩
 show (if cPow ((10:Nat):Int) ((60:Nat):Int)=true then some (PV.int (((10:Nat):Int) ^ (((60:Nat):Int)).toNat)) else none)=_
 rw [if_pos (show cPow ((10:Nat):Int) ((60:Nat):Int)=true from QfO ⟨by decide,by decide,by decide⟩)]
 rfl
theorem peq_lst {a b:List Str}:peq (.lst (a.map .str)) (.lst (b.map .str))=decide (a=b):=by
 show peqL (a.map PV.str) (b.map .str)=_
 by_cases c:a=b
 ·rw [c,Xv,decide_eq_true rfl]
 ·rw [decide_eq_false c]
  cases h:peqL (a.map PV.str) (b.map .str) with
  | false=>rfl
  | true=>exact absurd (Qdu h) c
theorem QkQ {a:List Str} (h:∀ s∈a,PyData.strOk s=true):okv (.lst (a.map .str))=true:=by
 have:=Qfn h
 simp [okv,dep,okS,this.1,this.2]
def QfP (p q:Rp):Bool:=decide (p.1=q.1)&&decide (QM p.2=QM q.2)
theorem e_alike {p q:Rp} (hp:(rRow p).Ok) (hq:(rRow q).Ok):ZP [(rRow p).v,(rRow q).v]=some (.bl (QfP p q)):=by
 obtain ⟨h,a⟩:=p
 obtain ⟨k,b⟩:=q
 obtain ⟨p1,p2,p3,p4⟩:=hp
 obtain ⟨q1,q2,q3,q4⟩:=hq
 have p4:a.length≤6:=p4
 have q4:b.length≤6:=q4
 have oa:∀ s∈QM a,PyData.strOk s=true:=fun s hs=>ZT (p2 s ((Qw a).mem_iff.mp hs)).low
 have ob:∀ s∈QM b,PyData.strOk s=true:=fun s hs=>ZT (q2 s ((Qw b).mem_iff.mp hs)).low
 have e1:(h==k)=decide (h=k):=by
  by_cases c:h=k <;> simp [c]
 unfold ZP QcG rRow Rw.v QfP
 walk_at "ev"
 rw [Yv (ZT p1.low) (ZT q1.low),e1]
 walk_at "ev"
 cases decide (h=k) with
 | false=>walk_at "ev"
 | true =>
  walk_at "ev"
  rw [Qfc (by omega)]
  walk_at "ev"
  rw [Qfc (by omega)]
  walk_at "ev"
  rw [Qkf (QkQ oa) (QkQ ob),peq_lst]
  walk_at "ev"
theorem Qki {names:List Str} {i:Nat} (h:i < names.length):(names.map PV.str)[i]?=some (.str (names.getD i "")):=by
 rw [List.getElem?_map,List.getElem?_eq_getElem h]
 simp [List.getD,h]
theorem QfG {names:List Str} {i:Nat} (h:i < names.length):names.getD i ""∈names:=by
 have:names.getD i ""=names[i]:=by simp [List.getD,h]
 rw [this]
 exact List.getElem_mem h
theorem nm_drop {names:List Str} {g i:Nat} (h:g + i < names.length):names.getD (g + i) ""∈names.drop g:=by
 have:names.getD (g + i) ""=(names.drop g)[i]'(by rw [List.length_drop];omega):=by simp [List.getD,h]
 rw [this]
 exact List.getElem_mem _
theorem e_body {ds:List Nat} (hd:ds.length=8) {names:List Str} (hne:0 < names.length) (hl:names.length≤30) (hw:∀ s∈names,Wd s) {n:Nat} (hn:n≤6) (S G R C c:Slot) (s5 s9 s10:Slot) :
  ∃ (body:List Str) (s5' s9':Slot),forL (gSet 5) ZU (encN (List.range n)) [S,.fz (.lst (names.map .str)),G,R,C,s5,c,.fz (.lst (encN ds)),.ow [],s9,s10]=some (.nx [S,.fz (.lst (names.map .str)),G,R,C,s5',c,.fz (.lst (encN ds)),.ow (body.map .str),s9',s10])∧body.Nodup∧(∀ w∈body,w∈names)∧body.length≤n:=by
 have hg:∀ i,i < 8→∃ d,(encN ds)[i]?=some (pN d):=fun i hi=>⟨_,ZR hd hi⟩
 generalize encN ds=E at *
 obtain ⟨γ',e,body,s5',s9',rfl,h1,h2,h3⟩:=QcO (g:=gSet 5) (b:=ZU) (fun j γ=>∃ (body:List Str) (s5 s9:Slot),γ=[S,.fz (.lst (names.map .str)),G,R,C,s5,c,.fz (.lst E),.ow (body.map .str),s9,s10]∧body.Nodup∧(∀ w∈body,w∈names)∧body.length≤j)
  n [S,.fz (.lst (names.map .str)),G,R,C,s5,c,.fz (.lst E),.ow (([]:List Str).map .str),s9,s10] ⟨[],s5,s9,rfl,.nil,(fun s h=>nomatch h),Nat.le_refl _⟩ (by
   rintro j γ hj ⟨body,s5,s9,rfl,h1,h2,h3⟩
   obtain ⟨dj,ej⟩:=hg (1 + j) (by omega)
   have hm:dj % names.length < names.length:=Nat.mod_lt _ hne
   have eg:=Qki hm
   have em:=QfG hm
   have ok:=ZT (hw _ em).low
   have okb:∀ s∈body,PyData.strOk s=true:=fun s hs=>ZT (hw s (h2 s hs)).low
   have step:∃ γ2,ZU [S,.fz (.lst (names.map .str)),G,R,C,.fz (pN j),c,.fz (.lst E),.ow (body.map .str),s9,s10]=some (.nx γ2)∧∃ (body:List Str) (s5 s9:Slot),γ2=[S,.fz (.lst (names.map .str)),G,R,C,s5,c,.fz (.lst E),.ow (body.map .str),s9,s10]∧body.Nodup∧(∀ w∈body,w∈names)∧body.length≤j + 1:=by
    unfold ZU
    walk_at "ev"
    rw [ej]
    walk_at "ev"
    rw [eg]
    walk_at "ev"
    generalize names.getD (dj % names.length) ""=u at *
    rw [Qge ok okb,Qhh]
    by_cases c2:u∈body
    ·rw [decide_eq_true c2]
     walk_at "ev"
     exact ⟨_,rfl,body,_,_,rfl,h1,h2,by omega⟩
    ·rw [decide_eq_false c2]
     walk_at "ev"
     rw [XT (by rw [List.length_map];omega) rfl]
     walk_at "ev"
     refine ⟨_,rfl,body++[u],_,_,by rw [List.map_append];rfl,?_,?_,by simp;omega⟩
     ·rw [List.nodup_append]
      refine ⟨h1,by simp,fun a ha b hb e => ?_⟩
      rw [List.mem_singleton] at hb
      rw [e,hb] at ha
      exact c2 ha
     ·intro s hs
      rcases List.mem_append.mp hs with h | h
      ·exact h2 s h
      ·rw [List.mem_singleton.mp h];exact em
   obtain ⟨γ2,e1,e2⟩:=step
   exact ⟨_,γ2,rfl,e1,e2⟩)
 exact ⟨body,s5',s9',e,h1,h2,h3⟩
structure RL (names:List Str) (g:Nat) (rs:List Rp):Prop where
 pw:rs.Pairwise QcV
 ok:∀ p∈rs,(rRow p).Ok
 hd:∀ p∈rs,p.1∈names.drop g
 ws:∀ p∈rs,∀ w∈p.2,w∈names
theorem e_cells (ns:List Int) (hn:ns.length≤63) (A B:Slot):∃ (L:List Int) (s5:Slot),L.length≤80 ∧
  sIf (truB (bin2 pEq (bin2 pMod (bin2 pDiv (Qj Ql (Qc (mVar 0) (Qc (mN 2) aNil))) (mN 9)) (mN 4)) (mN 1))) (Qcx (iRg1 (bin2 pMod (bin2 pDiv (Qj Ql (Qc (mVar 0) (Qc (mN 2) aNil))) (mN 36)) (mN 41))) (gSet 5) YE) sNx
   [.fz (.lst (ns.map .int)),A,B,.ow [],.ow (((ns.take 43).drop 3).map .int),.un,.un,.un,.un,.un,.un]=some (.nx [.fz (.lst (ns.map .int)),A,B,.ow [],.ow (L.map .int),s5,.un,.un,.un,.un,.un]):=by
 have ec:=QfN ns 2
 obtain ⟨z,ez,hz⟩:=pow_ex
 have hl0:((ns.take 43).drop 3).length≤40:=by rw [List.length_drop,List.length_take];omega
 generalize (ns.take 43).drop 3=L0 at *
 generalize ns.getD 2 0=c at *
 generalize ns.map PV.int=S at *
 walk_at "ev"
 rw [ec]
 walk_at "ev"
 cases hc:(c / ((9:Nat):Int) % ((4:Nat):Int)).toNat==1 with
 | false =>
  walk_at "ev"
  exact ⟨L0,.un,by omega,rfl⟩
 | true =>
  walk_at "ev"
  rw [ec]
  walk_at "ev"
  have hm:(c / ((36:Nat):Int) % ((41:Nat):Int)).toNat≤40:=by omega
  generalize (c / ((36:Nat):Int) % ((41:Nat):Int)).toNat=m at *
  obtain ⟨γ',e,L,s5,rfl,h1⟩:=QcO (g:=gSet 5) (b:=YE) (fun j γ=>∃ (L:List Int) (s5:Slot),γ=[.fz (.lst S),A,B,.ow [],.ow (L.map .int),s5,.un,.un,.un,.un,.un]∧L.length≤40 + j)
   m [.fz (.lst S),A,B,.ow [],.ow (L0.map .int),.un,.un,.un,.un,.un,.un] ⟨L0,.un,rfl,by omega⟩ (by
    rintro j γ hj ⟨L,s5,rfl,h1⟩
    refine ⟨_,_,rfl,?_,L++[(((c % (z:Int)).toNat + 7919 * j * j:Nat):Int)],.fz (pN j),rfl,by simp;omega⟩
    unfold YE
    walk_at "ev"
    rw [ec]
    walk_at "ev"
    rw [ez]
    walk_at "ev"
    rw [show L.map PV.int++[pN ((c % (z:Int)).toNat + 7919 * j * j)]=(L++[(((c % (z:Int)).toNat + 7919 * j * j:Nat):Int)]).map PV.int by rw [List.map_append];rfl]
    walk_at "ev")
  rw [e]
  exact ⟨L,s5,by omega,rfl⟩
theorem runO_3 {N:Nat} {m:MSt} {a0 a1 a2:PV}:runO N 3 m [a0,a1,a2]=(m (YX N [a0,a1,a2])).bind outO:=rfl
theorem e_rule1 {names:List Str} {g:Nat} (hg:g < names.length) (hl:names.length≤30) (hw:∀ s∈names,Wd s) (c:Int) {rs:List Rp} (hr:RL names g rs) (hrl:rs.length≤40) (S C s5 s7 s8 s9 s10:Slot) :
  ∃ (rs':List Rp) (s5' s6' s7' s8' s9' s10':Slot),RL names g rs'∧rs'.length≤rs.length + 1 ∧
   YD [S,.fz (.lst (names.map .str)),.fz (pN g),.ow (rs.map fun p=>(rRow p).v),C,s5,.fz (.int c),s7,s8,s9,s10]=some (.nx [S,.fz (.lst (names.map .str)),.fz (pN g),.ow (rs'.map fun p=>(rRow p).v),C,s5',s6',s7',s8',s9',s10']):=by
 obtain ⟨ds,ed,hd⟩:=Qfl c (n:=8) (by omega)
 have g0:=ZR hd (i:=0) (by decide)
 have g7:=ZR hd (i:=7) (by decide)
 have hm:ds.getD 0 0 % 7 < 7:=Nat.mod_lt _ (by decide)
 obtain ⟨body,t5,t9,eb,b1,b2,b3⟩:=e_body hd (names:=names) (by omega) hl hw (n:=ds.getD 0 0 % 7) (by omega) S (.fz (pN g)) (.ow (rs.map fun p=>(rRow p).v)) C (.fz (.int c)) s5 s9 s10
 generalize ds.getD 0 0=d0 at *
 generalize ds.getD 7 0=d7 at *
 generalize hE:encN ds=E at *
 have hm7:d7 % (names.length - g) < names.length - g:=Nat.mod_lt _ (by omega)
 have eh:=Qki (names:=names) (i:=g + d7 % (names.length - g)) (by omega)
 have mh:=nm_drop (names:=names) (g:=g) (i:=d7 % (names.length - g)) (by omega)
 generalize names.getD (g + d7 % (names.length - g)) ""=h at *
 have hok:(rRow (h,body)).Ok:=⟨hw h (List.mem_of_mem_drop mh),fun s hs=>hw s (b2 s hs),b1,by show body.length≤6;omega⟩
 have hbl:(body.map PV.str).length=body.length:=List.length_map _
 unfold YD
 walk_at "ev"
 rw [ed]
 walk_at "ev"
 rw [g0]
 walk_at "ev"
 rw [eb]
 walk_at "ev"
 rw [g7]
 walk_at "ev"
 rw [eh]
 walk_at "ev"
 rw [show PV.tup [PV.str "rule",PV.str h,PV.tup (body.map PV.str)]=(rRow (h,body)).v from rfl]
 rw [Qax (fun p=>(rRow p).v) (fun p=>QfP p (h,body)) (fun p=>(rRow p).v) _ fun p hp=>⟨_,rfl,by
  walk_at "ev"
  rw [e_alike (hr.ok p hp) hok]
  walk_at "ev",fun _=>by walk_at "ev"⟩]
 walk_at "ev"
 cases hf:rs.filter fun p=>QfP p (h,body) with
 | cons q r =>
  rw [show ((q :: r).length==0)=false from rfl]
  walk_at "ev"
  exact ⟨rs,_,_,_,_,_,_,hr,by omega,rfl⟩
 | nil =>
  rw [show (([]:List Rp).length==0)=true from rfl]
  walk_at "ev"
  rw [XT (by rw [List.length_map];omega) rfl]
  walk_at "ev"
  refine ⟨rs++[(h,body)],_,_,_,_,_,_,⟨?_,?_,?_,?_⟩,by simp,by rw [List.map_append];rfl⟩
  ·rw [List.pairwise_append]
   refine ⟨hr.pw,by simp,fun a ha b hb e => ?_⟩
   rw [List.mem_singleton] at hb
   subst hb
   have:=(List.filter_eq_nil_iff.mp hf) a ha
   unfold QfP at this
   simp at this
   exact this e.1 e.2
  ·intro p hp
   rcases List.mem_append.mp hp with z | z
   ·exact hr.ok p z
   ·rw [List.mem_singleton.mp z];exact hok
  ·intro p hp
   rcases List.mem_append.mp hp with z | z
   ·exact hr.hd p z
   ·rw [List.mem_singleton.mp z];exact mh
  ·intro p hp
   rcases List.mem_append.mp hp with z | z
   ·exact hr.ws p z
   ·rw [List.mem_singleton.mp z];exact b2
theorem e_rules {names:List Str} {g:Nat} (hg:g < names.length) (hl:names.length≤30) (hw:∀ s∈names,Wd s) (ns:List Int) (hn:ns.length≤63) :
  ∃ rs:List Rp,QY [.lst (ns.map .int),.lst (names.map .str),pN g]=some (rs.map fun p=>(rRow p).v)∧RL names g rs∧rs.length≤40:=by
 obtain ⟨L,s5,hL,eL⟩:=e_cells ns hn (.fz (.lst (names.map .str))) (.fz (pN g))
 unfold QY Qbd
 rw [runO_3,ev_startG1]
 simp only [List.map_cons,List.map_nil,List.length_cons,List.length_nil,List.replicate_succ,List.replicate_zero,List.cons_append,List.nil_append]
 have a1:ZB [] 3 (mLim aNil) [.fz (.lst (ns.map .int)),.fz (.lst (names.map .str)),.fz (pN g),.un,.un,.un,.un,.un,.un,.un,.un]=some (.nx [.fz (.lst (ns.map .int)),.fz (.lst (names.map .str)),.fz (pN g),.ow [],.un,.un,.un,.un,.un,.un,.un]):=by
  walk_at "ev"
 have a2:ZB [0] 4 (sl3 pCut (mVar 0) (mSo (mN 3)) (mSo (mN 43))) [.fz (.lst (ns.map .int)),.fz (.lst (names.map .str)),.fz (pN g),.ow [],.un,.un,.un,.un,.un,.un,.un]=some (.nx [.fz (.lst (ns.map .int)),.fz (.lst (names.map .str)),.fz (pN g),.ow [],.ow (((ns.take 43).drop 3).map .int),.un,.un,.un,.un,.un,.un]):=by
  walk_at "ev"
  rw [cutP_nn]
  walk_at "ev"
 rw [ev_sSeq,a1,Option.bind_some,seqK_nx,ev_sSeq,a2,Option.bind_some,seqK_nx,ev_sSeq,eL,Option.bind_some,seqK_nx]
 walk_at "ev"
 rw [Qlo]
 generalize PV.lst (ns.map .int)=S
 generalize PV.lst (L.map .int)=CL
 have hL40:(L.take 40).length≤40:=by rw [List.length_take];omega
 obtain ⟨γ',e,rs,s5',s6',s7',s8',s9',s10',rfl,h1,h2⟩:=Zy (g:=gSet 6) (b:=YD) PV.int
   (fun pre γ=>∃ (rs:List Rp) (s5 s6 s7 s8 s9 s10:Slot),γ=[.fz S,.fz (.lst (names.map .str)),.fz (pN g),.ow (rs.map fun p=>(rRow p).v),.fz CL,s5,s6,s7,s8,s9,s10]∧RL names g rs∧rs.length≤pre.length)
   (L.take 40) (L.take 40) [] [.fz S,.fz (.lst (names.map .str)),.fz (pN g),.ow [],.fz CL,s5,.un,.un,.un,.un,.un] rfl ⟨[],s5,.un,.un,.un,.un,.un,rfl,⟨.nil,(fun _ h=>nomatch h),(fun _ h=>nomatch h),(fun _ h=>nomatch h)⟩,Nat.le_refl _⟩ (by
    rintro pre x post γ hpre ⟨rs,s5,s6,s7,s8,s9,s10,rfl,h1,h2⟩
    have hpl:=congrArg List.length hpre
    rw [List.length_append,List.length_cons] at hpl
    obtain ⟨rs',t5,t6,t7,t8,t9,t10,k1,k2,k3⟩:=e_rule1 hg hl hw x h1 (by omega) (.fz S) (.fz CL) s5 s7 s8 s9 s10
    exact ⟨_,_,rfl,k3,rs',t5,t6,t7,t8,t9,t10,rfl,k1,by simp;omega⟩)
 rw [e]
 walk_at "ev"
 exact ⟨rs,rfl,h1,by omega⟩
theorem Qjk {names:List Str} {g:Nat} (h:g≤names.length):(List.range g).map (fun k=>names.getD k "")=names.take g:=by
 apply List.ext_getElem
 ·simp;omega
 ·intro i h1 h2
  simp at h1
  have:i < names.length:=by omega
  simp [List.getD,this]
def hds (names:List Str) (ds:List Nat) (g:Nat):List Gp:=(List.range g).map fun k=>(names.getD k "",names.getD (ds.getD k 0 % names.length) "")
theorem GN_hds {names:List Str} {ds:List Nat} {g:Nat} (h:g≤names.length):GN (hds names ds g)=names.take g:=by
 rw [← Qjk h]
 unfold GN hds
 rw [List.map_map]
 rfl
theorem Qla (names:List Str) (ds:List Nat) (g:Nat):(hds names ds g).length=g:=by unfold hds;simp
theorem gb_hds {names:List Str} {ds:List Nat} {g:Nat} {rs:List Rp} (hn:names.Nodup) (hw:∀ s∈names,Wd s) (hl:names.length≤30) (hg:g≤names.length) (h8:g≤8) (hr:RL names g rs) (h40:rs.length≤40):GB (hds names ds g) rs names where
 gok:=fun p hp=>by
  obtain ⟨k,hk,rfl⟩:=List.mem_map.mp hp
  rw [List.mem_range] at hk
  exact ⟨hw _ (QfG (by omega)),hw _ (QfG (Nat.mod_lt _ (by omega)))⟩
 gnd:=by
  rw [GN_hds hg]
  exact hn.sublist (List.take_sublist g names)
 gl:=by rw [Qla];exact h8
 rok:=hr.ok
 rpw:=hr.pw
 rl:=h40
 nM:=hl
 ws:=fun w hw'=>by
  rcases XB.mp hw' with ⟨p,hp,h2⟩ | ⟨p,hp,h2⟩
  ·obtain ⟨k,hk,rfl⟩:=List.mem_map.mp hp
   rw [List.mem_range] at hk
   rcases h2 with e | e
   ·rw [e];exact QfG (by omega)
   ·rw [e];exact QfG (Nat.mod_lt _ (by omega))
  ·rcases h2 with e | e
   ·rw [e];exact List.mem_of_mem_drop (hr.hd p hp)
   ·exact hr.ws p hp w e
 hd:=fun p hp z=>by
  rw [GN_hds hg] at z
  have:=hr.hd p hp
  rw [← List.take_append_drop g names] at hn
  exact (List.nodup_append.mp hn).2.2 _ z _ this rfl
theorem hds_succ (names:List Str) (ds:List Nat) (g:Nat):hds names ds (g + 1)=hds names ds g++[(names.getD g "",names.getD (ds.getD g 0 % names.length) "")]:=by
 unfold hds
 rw [List.range_succ,List.map_append]
 rfl
def Qkc:MSt:=(sIf (truB (bin2 pEq (bin2 pMod (bin2 pDiv (Qj Ql (Qc (mVar 0) (Qc (mN 0) aNil))) (mN 31)) (mN 3)) (mN 1))) (sSet [] 1 (mN 30)) sNx)
theorem t_size (ns:List Int) {m:Nat} (hm:m≤30) (s2:List Slot):∃ m',m'≤30∧Qkc (.fz (.lst (ns.map .int)) :: .fz (pN m) :: s2)=some (.nx (.fz (.lst (ns.map .int)) :: .fz (pN m') :: s2)):=by
 have ec:=QfN ns 0
 unfold Qkc
 walk_at "ev"
 rw [ec]
 walk_at "ev"
 cases (ns.getD 0 0 / ((31:Nat):Int) % ((3:Nat):Int)).toNat==1 with
 | true =>
  walk_at "ev"
  exact ⟨30,by omega,rfl⟩
 | false =>
  walk_at "ev"
  exact ⟨m,hm,rfl⟩
def QgV:MSt:=(sIf (truB (bin2 pLt (mVar 3) (Qj pLen (Qc (mVar 2) aNil)))) (ZB [0,2,3] 4 (Qj QY (Qc (mVar 0) (Qc (mVar 2) (Qc (mVar 3) aNil))))) sNx)
theorem t_rules {names:List Str} {g:Nat} (hl:names.length≤30) (hw:∀ s∈names,Wd s) (ns:List Int) (hn:ns.length≤63) (s1:Slot) (sr:List Slot):∃ rs,RL names g rs∧rs.length≤40 ∧
  QgV (.fz (.lst (ns.map .int)) :: s1 :: .fz (.lst (names.map .str)) :: .fz (pN g) :: .ow [] :: sr)=some (.nx (.fz (.lst (ns.map .int)) :: s1 :: .fz (.lst (names.map .str)) :: .fz (pN g) :: .ow ((rs.map rRow).map Rw.v) :: sr)):=by
 have hNl:(names.map PV.str).length=names.length:=List.length_map _
 unfold QgV
 walk_at "ev"
 by_cases c:g < names.length
 ·obtain ⟨rs,e,h1,h2⟩:=e_rules c hl hw ns hn
  rw [decide_eq_true c]
  walk_at "ev"
  rw [e]
  walk_at "ev"
  exact ⟨rs,h1,h2,by rw [List.map_map];cases ((rs.map fun p=>(rRow p).v).all flat) <;> rfl⟩
 ·rw [decide_eq_false c]
  walk_at "ev"
  exact ⟨[],⟨.nil,(fun _ h=>nomatch h),(fun _ h=>nomatch h),(fun _ h=>nomatch h)⟩,by simp,rfl⟩
theorem e_ins {names:List Str} {ds:List Nat} (hd:ds.length=16) {rs:List Rp} (lr:rs.length≤40) (hl:names.length≤30) {g:Nat} (hg:g≤names.length) (h8:g≤8) (s0 s1 s3:Slot) :
  ∃ (R:List Rw) (s6 s7:Slot),forL (gSet 6) Xc ((List.range g).map pN) [s0,s1,.fz (.lst (names.map .str)),s3,.ow ((rs.map rRow).map Rw.v),.fz (.lst (encN ds)),.un,.un]=some (.nx [s0,s1,.fz (.lst (names.map .str)),s3,.ow (R.map Rw.v),.fz (.lst (encN ds)),s6,s7])∧R.filterMap Rw.rp=rs∧(R.filterMap Rw.gp).Perm (hds names ds g):=by
 have hD:∀ i,i < 16→(encN ds)[i]?=some (pN (ds.getD i 0)):=fun i hi=>ZR hd hi
 have hG:∀ j,j < names.length→(names.map PV.str)[j]?=some (.str (names.getD j "")):=fun j hj=>Qki hj
 have hNl:(names.map PV.str).length=names.length:=List.length_map _
 generalize encN ds=C at *
 generalize names.map PV.str=B at *
 obtain ⟨γ',e,R,s6,s7,rfl,h1,h2⟩:=QcO (g:=gSet 6) (b:=Xc) (fun j γ=>∃ (R:List Rw) (s6 s7:Slot),γ=[s0,s1,.fz (.lst B),s3,.ow (R.map Rw.v),.fz (.lst C),s6,s7]∧R.filterMap Rw.rp=rs∧(R.filterMap Rw.gp).Perm (hds names ds j))
  g [s0,s1,.fz (.lst B),s3,.ow ((rs.map rRow).map Rw.v),.fz (.lst C),.un,.un] ⟨rs.map rRow,.un,.un,rfl,by
   have:=(QiV [] rs).2
   unfold QjY at this
   simpa using this,by
   have:=(QiV [] rs).1
   unfold QjY at this
   simp only [List.map_nil,List.nil_append] at this
   rw [this]
   exact .refl _⟩ (by
   rintro j γ hj ⟨R,s6,s7,rfl,h1,h2⟩
   have hlen:=QeO R
   have hl2:=h2.length_eq
   rw [h1] at hlen
   rw [Qla] at hl2
   have hRl:R.length≤48:=by omega
   have hdj:=hD j (by omega)
   have hdk:=hD (8 + j) (by omega)
   have hgj:=hG j (by omega)
   have hpos:0 < names.length:=by omega
   have hgb:=hG (ds.getD j 0 % names.length) (Nat.mod_lt _ hpos)
   rw [hds_succ]
   generalize names.getD (ds.getD j 0 % names.length) ""=bane at *
   generalize names.getD j ""=nmj at *
   generalize ds.getD j 0=dj at *
   generalize ds.getD (8 + j) 0=d at *
   have hm:d % (R.length + 1) < R.length + 1:=Nat.mod_lt _ (by omega)
   generalize hq:d % (R.length + 1)=q at *
   refine ⟨_,_,rfl,?_,R.take q++gRow (nmj,bane) :: R.drop q,.fz (pN j),.fz (.str bane),rfl,?_,?_⟩
   ·unfold Xc
    walk_at "ev"
    rw [hdj]
    walk_at "ev"
    rw [hNl]
    walk_at "ev"
    rw [hgb]
    walk_at "ev"
    rw [ev_sIns (xs:=R.map Rw.v) rfl]
    walk_at "ev"
    rw [hdk]
    walk_at "ev"
    rw [hq,hgj]
    walk_at "ev"
    rw [insK_n (by rw [List.length_map];omega) (by rw [List.length_map];omega) rfl]
    walk_at "ev"
    rw [List.map_append,List.map_cons,List.map_take,List.map_drop]
    rfl
   ·have e:=List.take_append_drop q R
    rw [← e,List.filterMap_append] at h1
    rw [List.filterMap_append,List.filterMap_cons_none (by rfl),h1]
   ·have e:=List.take_append_drop q R
    rw [← e,List.filterMap_append] at h2
    rw [List.filterMap_append,List.filterMap_cons_some (b:=(nmj,bane)) (by rfl)]
    refine List.perm_middle.trans ?_
    refine (List.Perm.cons _ h2).trans ?_
    exact (List.perm_append_singleton _ _).symm)
 exact ⟨R,s6,s7,e,h1,h2⟩
def s_h1:MSt:=(sSet [0] 1 (bin2 pMod (Qj Ql (Qc (mVar 0) (Qc (mN 0) aNil))) (mN 31)))
def s_h3:MSt:=(sSet [0,1] 2 (Qj QR (Qc (Qj Ql (Qc (mVar 0) (Qc (mN 1) aNil))) (Qc (mVar 1) aNil))))
def s_h4:MSt:=(sSet [0,2] 3 (Qj pMin (Qc (bin2 pMod (Qj Ql (Qc (mVar 0) (Qc (mN 2) aNil))) (mN 9)) (Qc (Qj pLen (Qc (mVar 2) aNil)) aNil))))
def s_h7:MSt:=(sSet [0] 5 (Qj QK (Qc (bin2 pDiv (Qj Ql (Qc (mVar 0) (Qc (mN 1) aNil))) (mN 7)) (Qc (mN 16) aNil))))
theorem rows_cut:QdL=sSeq s_h1 (sSeq Qkc (sSeq s_h3 (sSeq s_h4 (sSeq (ZB [] 4 (mLim aNil)) (sSeq QgV (sSeq s_h7 (sSeq (Qcx (iRg1 (mVar 3)) (gSet 6) Xc) (QbS 4)))))))):=rfl
theorem e_lrows (ns:List Int) (hn:ns.length≤63):∃ (R:List Rw) (M:List Str),Yn [.lst (ns.map .int)]=some (.lst (R.map Rw.v))∧GB (R.filterMap Rw.gp) (R.filterMap Rw.rp) M:=by
 have c0:=QfN ns 0
 have c1:=QfN ns 1
 have c2:=QfN ns 2
 have a1:s_h1 [.fz (.lst (ns.map .int)),.un,.un,.un,.un,.un,.un,.un]=some (.nx [.fz (.lst (ns.map .int)),.fz (pN (ns.getD 0 0 % ((31:Nat):Int)).toNat),.un,.un,.un,.un,.un,.un]):=by
  unfold s_h1
  walk_at "ev"
  rw [c0]
  walk_at "ev"
 obtain ⟨m,hm,a2⟩:=t_size ns (m:=(ns.getD 0 0 % ((31:Nat):Int)).toNat) (by omega) [.un,.un,.un,.un,.un,.un]
 obtain ⟨names,ef,f1,f2,f3⟩:=e_family (ns.getD 1 0) hm
 have hl:names.length≤30:=by omega
 have a3:s_h3 [.fz (.lst (ns.map .int)),.fz (pN m),.un,.un,.un,.un,.un,.un]=some (.nx [.fz (.lst (ns.map .int)),.fz (pN m),.fz (.lst (names.map .str)),.un,.un,.un,.un,.un]):=by
  unfold s_h3
  walk_at "ev"
  rw [c1]
  walk_at "ev"
  rw [ef]
  walk_at "ev"
 have hNl:(names.map PV.str).length=names.length:=List.length_map _
 have a4:s_h4 [.fz (.lst (ns.map .int)),.fz (pN m),.fz (.lst (names.map .str)),.un,.un,.un,.un,.un]=some (.nx [.fz (.lst (ns.map .int)),.fz (pN m),.fz (.lst (names.map .str)),.fz (pN (min (ns.getD 2 0 % ((9:Nat):Int)).toNat names.length)),.un,.un,.un,.un]):=by
  unfold s_h4
  walk_at "ev"
  rw [c2]
  walk_at "ev"
 have hg:min (ns.getD 2 0 % ((9:Nat):Int)).toNat names.length≤names.length:=Nat.min_le_right _ _
 have h8:min (ns.getD 2 0 % ((9:Nat):Int)).toNat names.length≤8:=by omega
 generalize min (ns.getD 2 0 % ((9:Nat):Int)).toNat names.length=g at *
 have a5:ZB [] 4 (mLim aNil) [.fz (.lst (ns.map .int)),.fz (pN m),.fz (.lst (names.map .str)),.fz (pN g),.un,.un,.un,.un]=some (.nx [.fz (.lst (ns.map .int)),.fz (pN m),.fz (.lst (names.map .str)),.fz (pN g),.ow [],.un,.un,.un]):=by
  walk_at "ev"
 obtain ⟨rs,r1,r2,a6⟩:=t_rules (g:=g) hl f2 ns hn (.fz (pN m)) [.un,.un,.un]
 obtain ⟨ds,ed,hd⟩:=Qfl (ns.getD 1 0 / ((7:Nat):Int)) (n:=16) (by omega)
 have a7:s_h7 [.fz (.lst (ns.map .int)),.fz (pN m),.fz (.lst (names.map .str)),.fz (pN g),.ow ((rs.map rRow).map Rw.v),.un,.un,.un]=some (.nx [.fz (.lst (ns.map .int)),.fz (pN m),.fz (.lst (names.map .str)),.fz (pN g),.ow ((rs.map rRow).map Rw.v),.fz (.lst (encN ds)),.un,.un]):=by
  unfold s_h7
  walk_at "ev"
  rw [c1]
  walk_at "ev"
  rw [ed]
  walk_at "ev"
 obtain ⟨R,s6,s7,a8,q1,q2⟩:=e_ins hd (rs:=rs) r2 hl hg h8 (.fz (.lst (ns.map .int))) (.fz (pN m)) (.fz (pN g))
 refine ⟨R,names,?_,?_⟩
 ·unfold Yn
  rw [rows_cut,runV_1,ev_startG1]
  simp only [List.map_cons,List.map_nil,List.length_cons,List.length_nil,List.replicate_succ,List.replicate_zero,List.cons_append,List.nil_append]
  rw [ev_sSeq,a1,Option.bind_some,seqK_nx,ev_sSeq,a2,Option.bind_some,seqK_nx,ev_sSeq,a3,Option.bind_some,seqK_nx,ev_sSeq,a4,Option.bind_some,seqK_nx,ev_sSeq,a5,Option.bind_some,seqK_nx,ev_sSeq,a6,Option.bind_some,seqK_nx,ev_sSeq,a7,Option.bind_some,seqK_nx]
  generalize PV.lst (ns.map .int)=S at *
  generalize (rs.map rRow).map Rw.v=RS at *
  generalize names.map PV.str=B at *
  walk_at "ev"
  rw [show encN (List.range g)=(List.range g).map pN from rfl,a8]
  walk_at "ev"
 ·rw [q1]
  exact (gb_hds f1 f2 hl hg h8 r1 r2).go q2.symm (Sim.refl rs)
def gD (ks:List Str) (f:Str→Bool ⊕ Int):List (Str×(Bool ⊕ Int)):=ks.map fun k=>(k,f k)
theorem gD_len (ks:List Str) (f:Str→Bool ⊕ Int):(gD ks f).length=ks.length:=List.length_map _
theorem gD_any (ks:List Str) (f:Str→Bool ⊕ Int) (k:Str):((gD ks f).any fun p=>decide (p.1=k))=decide (k∈ks):=by
 unfold gD
 rw [List.any_map,Bool.eq_iff_iff,List.any_eq_true,decide_eq_true_iff]
 constructor
 ·rintro ⟨x,hx,e⟩
  have e:x=k:=of_decide_eq_true e
  rw [← e];exact hx
 ·intro h
  exact ⟨k,h,decide_eq_true rfl⟩
theorem QcS {ks:List Str} {f:Str→Bool ⊕ Int} {k:Str} (h:k∉ks) {v:Bool ⊕ Int} (hv:v=f k):putD (gD ks f) k v=gD (ks++[k]) f:=by
 unfold putD
 rw [gD_any,if_neg (by simpa using h),hv]
 unfold gD
 rw [List.map_append]
 rfl
theorem QiA {ks:List Str} {f:Str→Bool ⊕ Int} {k:Str} (h:k∈ks) {v:Bool ⊕ Int} (hv:v=f k):putD (gD ks f) k v=gD ks f:=by
 unfold putD
 rw [gD_any,if_pos (by simpa using h),hv]
 unfold gD
 rw [List.map_map]
 apply List.map_congr_left
 intro a _
 show (if a=k then (a,f k) else (a,f a))=(a,f a)
 split
 ·rename_i e;rw [e]
 ·rfl
theorem QgS {f:Str→Bool ⊕ Int} {k:Str}:∀ {ks:List Str},k∈ks→valD (gD ks f) k=some (f k)
 | a :: ks,h=>by
  unfold valD gD
  rw [List.map_cons,List.find?_cons]
  by_cases c:a=k
  ·rw [show decide ((a,f a).1=k)=true from decide_eq_true c,c];rfl
  ·rw [show decide ((a,f a).1=k)=false from decide_eq_false c]
   exact QgS (f:=f) (k:=k) (ks:=ks) (by
    rcases List.mem_cons.mp h with e | e
    ·exact absurd e.symm c
    ·exact e)
theorem valD_out {f:Str→Bool ⊕ Int} {k:Str} {ks:List Str} (h:k∉ks):valD (gD ks f) k=none:=by
 unfold valD
 rw [List.find?_eq_none.mpr,Option.map_none]
 intro p hp z
 obtain ⟨a,ha,rfl⟩:=List.mem_map.mp hp
 have z:a=k:=of_decide_eq_true z
 exact h (by rw [← z];exact ha)
theorem Qlw (ks:List Str) (f:Str→Bool ⊕ Int) (k:Str):(valD (gD ks f) k).isSome=decide (k∈ks):=by
 by_cases c:k∈ks
 ·rw [QgS c,decide_eq_true c];rfl
 ·rw [valD_out c,decide_eq_false c];rfl
theorem val_od (kvs:List (Str×(Bool ⊕ Int))):(Slot.od kvs).val=some (.dcw kvs):=rfl
theorem ev_sDput (i:Nat) (mk mv:MEx) (γ:PEnv):QhH i mk mv γ=(mv γ).bind fun v=>(mk γ).bind fun k=>QjW i γ k v γ[i]?:=rfl
theorem ev_sDnew (i:Nat) (γ:PEnv):QjO i γ=some (.nx (γ.set i (.od []))):=rfl
theorem dputK_b {i:Nat} {γ:PEnv} {ks:List Str} {f:Str→Bool ⊕ Int} {s:Str} {b:Bool} (h:ks.length≤1000):QjW i γ (.str s) (.bl b) (some (.od (gD ks f)))=some (.nx (γ.set i (.od (putD (gD ks f) s (.inl b))))):=if_pos (by rw [gD_len];exact h)
theorem dputK_n {i:Nat} {γ:PEnv} {ks:List Str} {f:Str→Bool ⊕ Int} {s:Str} {n:Nat} (h:ks.length≤1000):QjW i γ (.str s) (pN n) (some (.od (gD ks f)))=some (.nx (γ.set i (.od (putD (gD ks f) s (.inr (n:Int)))))):=if_pos (by rw [gD_len];exact h)
theorem pNotInD_w (k:Str) (ks:List Str) (f:Str→Bool ⊕ Int):QgX (.str k) (.dcw (gD ks f))=some (.bl (!decide (k∈ks))):=by
 show some (PV.bl (!(valD (gD ks f) k).isSome))=_
 rw [Qlw]
theorem QeM {k:Str} {ks:List Str} (f:Str→Nat) (h:k∈ks):QgA (.dct (gD ks fun w => .inr (f w:Int))) (.str k)=some (pN (f k)):=by
 show (valD (gD ks fun w => .inr (f w:Int)) k).map dvP=_
 rw [QgS h];rfl
theorem pLenD_d (kvs:List (Str×(Bool ⊕ Int))):QhM [.dct kvs]=some (pN kvs.length):=rfl
theorem pLenD_w (kvs:List (Str×(Bool ⊕ Int))):QhM [.dcw kvs]=some (pN kvs.length):=rfl
def idK:PV→Option (List PV)
 | .dct kvs=>some (kvs.map fun p => .str p.1)
 | _=>none
theorem ev_iDct (m:MEx) (γ:PEnv):iDct m γ=(m γ).bind idK:=by
 unfold iDct
 cases m γ with
 | none=>rfl
 | some p=>cases p <;> rfl
theorem idK_d (ks:List Str) (f:Str→Bool ⊕ Int):idK (.dct (gD ks f))=some (ks.map .str):=by
 show some ((gD ks f).map fun p=>PV.str p.1)=_
 unfold gD
 rw [List.map_map]
 rfl
def sxK (i:Nat) (s1:MSt) (γ:PEnv):Option Slot→Option Out
 | some (.od kvs)=>s1 (γ.set i (.fz (.dct kvs)))
 | _=>s1 γ
theorem ev_sEx (i:Nat) (s1:MSt) (γ:PEnv):sEx i s1 γ=sxK i s1 γ γ[i]?:=by
 unfold sEx sxK
 rfl
theorem sxK_od (i:Nat) (s1:MSt) (γ:PEnv) (kvs:List (Str×(Bool ⊕ Int))):sxK i s1 γ (some (.od kvs))=s1 (γ.set i (.fz (.dct kvs))):=rfl
theorem sxK_fz (i:Nat) (s1:MSt) (γ:PEnv) (p:PV):sxK i s1 γ (some (.fz p))=s1 γ:=rfl
def TT:Str→Bool ⊕ Int:=fun _ => .inl true
def cnt (F:List Str) (w:Str):Nat:=(F.filter fun o=>decide (o.cps.toList < w.cps.toList)).length
def num (F O:List Str) (w:Str):Nat:=if w∈F then cnt F w else F.length + cnt O w
theorem Qja {F G:List Str} (h:F.Perm G) (w:Str):cnt F w=cnt G w:=(h.filter _).length_eq
theorem lt_irr (l:List Nat):¬ l < l:=List.lt_irrefl l
theorem str_eq {a b:Str} (h:a.cps.toList=b.cps.toList):a=b:=by
 cases a;cases b
 congr
 exact Array.ext' h
theorem Qhe:∀ {L:List Str} {w:Str},L.Pairwise (fun a b=>sLe a b=true)→L.Nodup→w∈L→cnt L w=L.idxOf w
 | x :: t,w,hs,hn,hw=>by
  have hs':=List.pairwise_cons.mp hs
  have hn':=List.nodup_cons.mp hn
  by_cases c:x=w
  ·subst c
   rw [List.idxOf_cons_self]
   unfold cnt
   rw [List.filter_eq_nil_iff.mpr]
   ·rfl
   ·intro y hy z
    have z:=of_decide_eq_true z
    rcases List.mem_cons.mp hy with e | e
    ·rw [e] at z;exact lt_irr _ z
    ·have:=hs'.1 y e
     unfold sLe at this
     rw [decide_eq_true z] at this
     cases this
  ·have hw':w∈t:=by
    rcases List.mem_cons.mp hw with e | e
    ·exact absurd e.symm c
    ·exact e
   have hlt:x.cps.toList < w.cps.toList:=Classical.byContradiction fun z=>by
    have h1:=hs'.1 w hw'
    unfold sLe at h1
    have h2:¬ w.cps.toList < x.cps.toList:=by simpa using h1
    exact c (str_eq (lt_tri _ _ z h2))
   have ih:=Qhe hs'.2 hn'.2 hw'
   unfold cnt at ih ⊢
   rw [List.filter_cons_of_pos (by simpa using hlt),List.length_cons,ih,List.idxOf_cons,show (x==w)=false from beq_eq_false_iff_ne.mpr c]
   rfl
theorem num_idx {F O A B:List Str} (hF:F.Perm A) (hO:O.Perm B) (hA:A.Nodup) (hB:B.Nodup) (hd:∀ w∈B,w∉A) {w:Str} (hw:w∈F++O):num F O w=(QM A++QM B).idxOf w:=by
 unfold num
 rw [List.idxOf_append]
 have m1:w∈F↔w∈QM A:=by rw [hF.mem_iff,(Qw A).mem_iff]
 by_cases c:w∈F
 ·rw [if_pos c,if_pos (m1.mp c),Qja (hF.trans (Qw A).symm)]
  exact Qhe (Qau A) ((Qw A).nodup_iff.mpr hA) (m1.mp c)
 ·rw [if_neg c,if_neg fun z=>c (m1.mpr z),Qja (hO.trans (Qw B).symm),hF.length_eq,Qdq]
  have hw2:w∈O:=by
   rcases List.mem_append.mp hw with e | e
   ·exact absurd e c
   ·exact e
  rw [Qhe (Qau B) ((Qw B).nodup_iff.mpr hB) ((Qw B).mem_iff.mpr (hO.mem_iff.mp hw2))]
  omega
theorem Qhv {R:List Rw} {M F:List Str} (h1:F.Nodup) (h2:∀ w∈F,w∈M) (hM:M.length≤30):F.length≤30:=Nat.le_trans (QeI h1 h2) hM
local macro_rules | `(tactic| walk_at "ev")=>`(tactic| try simp (disch:=walk_at "eb") only [pLen_sn,mtK_s,val_od,ev_sDput,ev_sDnew,dputK_b,dputK_n,pNotInD_w,pLenD_d,pLenD_w,ev_iDct,idK_d,gD_len,EVc,EVl,List.length_range])
theorem e_first {R:List Rw} {M:List Str} (G:Gd R M) (s2 s4 s5 s6:Slot):∃ (F:List Str) (s3:Slot),F.Nodup∧(∀ w,w∈F↔w∈GN (R.filterMap Rw.gp)) ∧
  forL (gSet 3) QN (R.map Rw.v) [.fz (.lst (R.map Rw.v)),.od (gD [] TT),s2,.un,s4,s5,s6]=some (.nx [.fz (.lst (R.map Rw.v)),.od (gD F TT),s2,s3,s4,s5,s6]):=by
 have hM:=G.nM
 have hW:∀ a b,Rw.g a b∈R→a∈M:=fun a b h=>G.ws _ h a (List.mem_cons_self ..)
 generalize hRV:PV.lst (R.map Rw.v)=RV
 obtain ⟨γ',e,F,s3,rfl,h1,h2,h3⟩:=Zy (g:=gSet 3) (b:=QN) Rw.v
   (fun pre γ=>∃ (F:List Str) (s3:Slot),γ=[.fz RV,.od (gD F TT),s2,s3,s4,s5,s6]∧F.Nodup∧(∀ w∈F,w∈M)∧∀ w,w∈F↔w∈GN (pre.filterMap Rw.gp))
   R R [] [.fz RV,.od (gD [] TT),s2,.un,s4,s5,s6] rfl ⟨[],.un,rfl,.nil,(fun _ h=>nomatch h),fun w=>Iff.rfl⟩ (by
    rintro pre x post γ hp ⟨F,s3,rfl,h1,h2,h3⟩
    have hx:x∈R:=by rw [← hp];simp
    have hl:=Qhv (R:=R) h1 h2 hM
    cases x with
    | r a b =>
     refine ⟨_,_,rfl,?_,F,.fz (Rw.r a b).v,rfl,h1,h2,?_⟩
     ·unfold QN Rw.v
      walk_at "ev"
      rw [Yv XC ZV,QhI]
      walk_at "ev"
     ·rw [List.filterMap_append,List.filterMap_cons_none (by rfl)]
      simpa using h3
    | g a b =>
     have mg:∀ w,w∈GN ((pre++[Rw.g a b]).filterMap Rw.gp)↔w∈GN (pre.filterMap Rw.gp)∨w=a:=by
      intro w
      rw [List.filterMap_append,List.filterMap_cons_some (b:=(a,b)) (by rfl)]
      unfold GN
      rw [List.map_append,List.mem_append]
      simp
     by_cases c:a∈F
     ·refine ⟨_,_,rfl,?_,F,.fz (Rw.g a b).v,rfl,h1,h2,?_⟩
      ·unfold QN Rw.v
       walk_at "ev"
       rw [Yv ZV ZV,show (("guess":Str) == "guess")=true by simp]
       walk_at "ev"
       rw [QiA (f:=TT) (v := .inl true) c rfl]
      ·intro w
       rw [mg,← h3]
       exact ⟨.inl,fun h=>h.elim id fun e=>by rw [e];exact c⟩
     ·refine ⟨_,_,rfl,?_,F++[a],.fz (Rw.g a b).v,rfl,?_,?_,?_⟩
      ·unfold QN Rw.v
       walk_at "ev"
       rw [Yv ZV ZV,show (("guess":Str) == "guess")=true by simp]
       walk_at "ev"
       rw [QcS (f:=TT) (v := .inl true) c rfl]
      ·rw [List.nodup_append]
       refine ⟨h1,by simp,fun y hy z hz e => ?_⟩
       rw [List.mem_singleton] at hz
       rw [e,hz] at hy
       exact c hy
      ·intro w hw
       rcases List.mem_append.mp hw with h | h
       ·exact h2 w h
       ·rw [List.mem_singleton.mp h];exact hW a b hx
      ·intro w
       rw [mg,List.mem_append,List.mem_singleton,h3])
 exact ⟨F,s3,h1,h3,e⟩
theorem e_inner {F M:List Str} (hM:M.length≤30) {ws:List Str} (hw:∀ w∈ws,w∈M) {O:List Str} (o1:O.Nodup) (o2:∀ w∈O,w∈M) (s0 s3 s4 s5 s6:Slot) :
  ∃ (O':List Str) (s5':Slot),O'.Nodup∧(∀ w∈O',w∈M)∧(∀ w,w∈O'↔w∈O∨(w∈ws∧w∉F)) ∧
   forL (gSet 5) Zd (ws.map .str) [s0,.od (gD F TT),.od (gD O TT),s3,s4,s5,s6]=some (.nx [s0,.od (gD F TT),.od (gD O' TT),s3,s4,s5',s6]):=by
 obtain ⟨γ',e,O',s5',rfl,h1,h2,h3⟩:=Zy (g:=gSet 5) (b:=Zd) PV.str
   (fun pre γ=>∃ (O':List Str) (s5':Slot),γ=[s0,.od (gD F TT),.od (gD O' TT),s3,s4,s5',s6]∧O'.Nodup∧(∀ w∈O',w∈M)∧∀ w,w∈O'↔w∈O∨(w∈pre∧w∉F))
   ws ws [] [s0,.od (gD F TT),.od (gD O TT),s3,s4,s5,s6] rfl ⟨O,s5,rfl,o1,o2,fun w=>by simp⟩ (by
    rintro pre x post γ hp ⟨O',s5',rfl,h1,h2,h3⟩
    have hx:x∈M:=hw x (by rw [← hp];simp)
    have hl:=Qhv (R:=[]) h1 h2 hM
    by_cases c:x∈F
    ·refine ⟨_,_,rfl,?_,O',.fz (.str x),rfl,h1,h2,?_⟩
     ·unfold Zd
      walk_at "ev"
      rw [decide_eq_true c]
      walk_at "ev"
     ·intro w
      rw [h3,List.mem_append,List.mem_singleton]
      exact ⟨fun h=>h.imp id fun z=>⟨.inl z.1,z.2⟩,fun h=>h.imp id fun z=>⟨z.1.elim id fun e=>absurd (by rw [e];exact c) z.2,z.2⟩⟩
    ·by_cases c2:x∈O'
     ·refine ⟨_,_,rfl,?_,O',.fz (.str x),rfl,h1,h2,?_⟩
      ·unfold Zd
       walk_at "ev"
       rw [decide_eq_false c]
       walk_at "ev"
       rw [QiA (f:=TT) (v := .inl true) c2 rfl]
      ·intro w
       rw [List.mem_append,List.mem_singleton]
       constructor
       ·intro h
        exact ((h3 w).mp h).imp id fun z=>⟨.inl z.1,z.2⟩
       ·rintro (h | ⟨h | h,z⟩)
        ·exact (h3 w).mpr (.inl h)
        ·exact (h3 w).mpr (.inr ⟨h,z⟩)
        ·rw [h];exact c2
     ·refine ⟨_,_,rfl,?_,O'++[x],.fz (.str x),rfl,?_,?_,?_⟩
      ·unfold Zd
       walk_at "ev"
       rw [decide_eq_false c]
       walk_at "ev"
       rw [QcS (f:=TT) (v := .inl true) c2 rfl]
      ·rw [List.nodup_append]
       refine ⟨h1,by simp,fun y hy z hz e => ?_⟩
       rw [List.mem_singleton] at hz
       rw [e,hz] at hy
       exact c2 hy
      ·intro w hw
       rcases List.mem_append.mp hw with h | h
       ·exact h2 w h
       ·rw [List.mem_singleton.mp h];exact hx
      ·intro w
       rw [List.mem_append,List.mem_singleton,h3,List.mem_append,List.mem_singleton]
       constructor
       ·rintro ((h | ⟨h,z⟩) | h)
        ·exact .inl h
        ·exact .inr ⟨.inl h,z⟩
        ·exact .inr ⟨.inr h,by rw [h];exact c⟩
       ·rintro (h | ⟨h | h,z⟩)
        ·exact .inl (.inl h)
        ·exact .inl (.inr ⟨h,z⟩)
        ·exact .inr h)
 exact ⟨O',s5',h1,h2,h3,e⟩
theorem e_other {R:List Rw} {M:List Str} (G:Gd R M) {F:List Str} (s3 s4 s5 s6:Slot):∃ (O:List Str) (s3' s4' s5':Slot),O.Nodup∧(∀ w∈O,w∈M)∧(∀ w,w∈O↔w∈R.flatMap Rw.ws∧w∉F) ∧
  forL (gSet 3) Zc (R.map Rw.v) [.fz (.lst (R.map Rw.v)),.od (gD F TT),.od (gD [] TT),s3,s4,s5,s6]=some (.nx [.fz (.lst (R.map Rw.v)),.od (gD F TT),.od (gD O TT),s3',s4',s5',s6]):=by
 have hM:=G.nM
 have hW:=G.ws
 have hok:=G.ok
 generalize hRV:PV.lst (R.map Rw.v)=RV
 obtain ⟨γ',e,O,s3',s4',s5',rfl,h1,h2,h3⟩:=Zy (g:=gSet 3) (b:=Zc) Rw.v
   (fun pre γ=>∃ (O:List Str) (s3 s4 s5:Slot),γ=[.fz RV,.od (gD F TT),.od (gD O TT),s3,s4,s5,s6]∧O.Nodup∧(∀ w∈O,w∈M)∧∀ w,w∈O↔w∈pre.flatMap Rw.ws∧w∉F)
   R R [] [.fz RV,.od (gD F TT),.od (gD [] TT),s3,s4,s5,s6] rfl ⟨[],s3,s4,s5,rfl,.nil,(fun _ h=>nomatch h),fun w=>by simp⟩ (by
    rintro pre x post γ hp ⟨O,s3,s4,s5,rfl,h1,h2,h3⟩
    have hx:x∈R:=by rw [← hp];simp
    obtain ⟨O',s5',k1,k2,k3,ke⟩:=e_inner (F:=F) hM (hW x hx) h1 h2 (.fz RV) (.fz x.v) (.fz (.lst (x.ws.map .str))) s5 s6
    have mm:∀ w,w∈O'↔w∈(pre++[x]).flatMap Rw.ws∧w∉F:=by
     intro w
     rw [k3,h3,List.flatMap_append,List.mem_append]
     simp only [List.flatMap_cons,List.flatMap_nil,List.append_nil]
     constructor
     ·rintro (⟨h,z⟩ | ⟨h,z⟩)
      ·exact ⟨.inl h,z⟩
      ·exact ⟨.inr h,z⟩
     ·rintro ⟨h | h,z⟩
      ·exact .inl ⟨h,z⟩
      ·exact .inr ⟨h,z⟩
    have hx6:=QmB (hok x hx)
    refine ⟨_,_,rfl,?_,O',.fz x.v,.fz (.lst (x.ws.map .str)),s5',rfl,k1,k2,mm⟩
    cases x with
    | g a b =>
     rw [show (Rw.g a b).ws.map PV.str=[PV.str a,.str b] from rfl,show (Rw.g a b).v = .tup [.str "guess",.str a,.str b] from rfl] at ke ⊢
     unfold Zc
     walk_at "ev"
     rw [Yv ZV XC,QmD]
     walk_at "ev"
     rw [ke]
    | r a b =>
     have hb:b.length≤6:=(hok _ hx).2.2.2
     rw [show (Rw.r a b).ws.map PV.str = .str a :: b.map PV.str from rfl,show (Rw.r a b).v = .tup [.str "rule",.str a,.tup (b.map .str)] from rfl] at ke ⊢
     unfold Zc
     walk_at "ev"
     rw [Yv XC XC,show (("rule":Str) == "rule")=true by simp]
     walk_at "ev"
     rw [ke])
 exact ⟨O,s3',s4',s5',h1,h2,h3,e⟩
theorem e_cnt {ks:List Str} (hl:ks.length≤1000) (w:Str):QbT (gSet 0) (truB (bin2 pLtS (mVar 0) (mVar 1))) (mVar 0) [.un,.fz (.str w)] (ks.map .str)=some ((ks.filter fun o=>decide (o.cps.toList < w.cps.toList)).map .str) :=
 Qax PV.str (fun o=>decide (o.cps.toList < w.cps.toList)) PV.str ks fun x _=>⟨_,rfl,rfl,fun _=>rfl⟩
def nf (F O:List Str):Str→Bool ⊕ Int:=fun w => .inr (num F O w:Int)
theorem cnt_le (F:List Str) (w:Str):cnt F w≤F.length:=List.length_filter_le _ _
theorem e_n1 {F O:List Str} (hl:F.length≤30) (hn:F.Nodup) (s0 s2 s3 s4 s5:Slot):∃ s5',forL (gSet 5) Zz (F.map .str) [s0,.fz (.dct (gD F TT)),s2,s3,s4,s5,.od (gD [] (nf F O))]=some (.nx [s0,.fz (.dct (gD F TT)),s2,s3,s4,s5',.od (gD F (nf F O))]):=by
 obtain ⟨γ',e,s5',rfl⟩:=Zy (g:=gSet 5) (b:=Zz) PV.str
   (fun pre γ=>∃ s5,γ=[s0,.fz (.dct (gD F TT)),s2,s3,s4,s5,.od (gD pre (nf F O))])
   F F [] [s0,.fz (.dct (gD F TT)),s2,s3,s4,s5,.od (gD [] (nf F O))] rfl ⟨s5,rfl⟩ (by
    rintro pre x post γ hp ⟨s5,rfl⟩
    have hx:x∈F:=by rw [← hp];simp
    have hpl:=congrArg List.length hp
    rw [List.length_append,List.length_cons] at hpl
    have hnx:x∉pre:=fun z=>by
     rw [← hp] at hn
     exact (List.nodup_append.mp hn).2.2 x z x (List.mem_cons_self ..) rfl
    have hc:=cnt_le F x
    refine ⟨_,_,rfl,?_,.fz (.str x),rfl⟩
    unfold Zz
    walk_at "ev"
    rw [e_cnt (by omega)]
    walk_at "ev"
    rw [show (F.filter fun o=>decide (o.cps.toList < x.cps.toList)).length=cnt F x from rfl,QcS (f:=nf F O) (v := .inr (cnt F x:Int)) hnx (by unfold nf num;rw [if_pos hx])])
 exact ⟨s5',e⟩
theorem e_n2 {F O:List Str} (hl:F.length≤30) (ho:O.length≤30) (hn:(F++O).Nodup) (s0 s3 s4 s5:Slot):∃ s5',forL (gSet 5) Yd (O.map .str) [s0,.fz (.dct (gD F TT)),.fz (.dct (gD O TT)),s3,s4,s5,.od (gD F (nf F O))]=some (.nx [s0,.fz (.dct (gD F TT)),.fz (.dct (gD O TT)),s3,s4,s5',.od (gD (F++O) (nf F O))]):=by
 obtain ⟨γ',e,s5',rfl⟩:=Zy (g:=gSet 5) (b:=Yd) PV.str
   (fun pre γ=>∃ s5,γ=[s0,.fz (.dct (gD F TT)),.fz (.dct (gD O TT)),s3,s4,s5,.od (gD (F++pre) (nf F O))])
   O O [] [s0,.fz (.dct (gD F TT)),.fz (.dct (gD O TT)),s3,s4,s5,.od (gD F (nf F O))] rfl ⟨s5,by rw [List.append_nil]⟩ (by
    rintro pre x post γ hp ⟨s5,rfl⟩
    have hpl:=congrArg List.length hp
    rw [List.length_append,List.length_cons] at hpl
    have hnx:x∉F++pre:=fun z=>by
     rw [← hp,← List.append_assoc] at hn
     exact (List.nodup_append.mp hn).2.2 x z x (List.mem_cons_self ..) rfl
    have hxF:x∉F:=fun z=>hnx (List.mem_append.mpr (.inl z))
    have hc:=cnt_le O x
    refine ⟨_,_,rfl,?_,.fz (.str x),rfl⟩
    unfold Yd
    walk_at "ev"
    rw [e_cnt (by omega)]
    walk_at "ev"
    rw [show (O.filter fun o=>decide (o.cps.toList < x.cps.toList)).length=cnt O x from rfl,QcS (f:=nf F O) (v := .inr ((F.length + cnt O x:Nat):Int)) hnx (by unfold nf num;rw [if_neg hxF]),List.append_assoc])
 exact ⟨s5',e⟩
structure NO (gs:List Gp) (rs:List Rp) (F O:List Str):Prop where
 pf:F.Perm (GN gs)
 po:O.Perm ((once (wds gs rs)).filter fun j=>decide (j∉GN gs))
 nd:(F++O).Nodup
 fl:F.length≤30
 ol:O.length≤30
theorem NO.idx {gs:List Gp} {rs:List Rp} {F O:List Str} (h:NO gs rs F O) {w:Str} (hw:w∈F++O):num F O w=(nm gs rs).idxOf w:=by
 have hd:=List.nodup_append.mp h.nd
 exact num_idx h.pf h.po (h.pf.nodup_iff.mp hd.1) (h.po.nodup_iff.mp hd.2.1) (fun w hw=>by simpa using (List.mem_filter.mp hw).2) hw
theorem NO.perm {gs:List Gp} {rs:List Rp} {F O:List Str} (h:NO gs rs F O):(F++O).Perm (nm gs rs):=(h.pf.trans (Qw _).symm).append (h.po.trans (Qw _).symm)
theorem NO.nf_eq {gs:List Gp} {rs:List Rp} {F O:List Str} (h:NO gs rs F O):gD (F++O) (nf F O)=gD (F++O) fun w => .inr ((nm gs rs).idxOf w:Int):=by
 unfold gD
 apply List.map_congr_left
 intro w hw
 unfold nf
 rw [h.idx hw]
local macro_rules | `(tactic| walk_at "ev")=>`(tactic| try simp (disch:=walk_at "eb") only [pLen_sn,mtK_s,val_od,ev_sDput,ev_sDnew,dputK_b,dputK_n,pNotInD_w,pLenD_d,pLenD_w,ev_iDct,idK_d,gD_len,ev_sEx,sxK_od,sxK_fz,EVc,EVl,List.length_range])
theorem Qgn {R:List Rw} {M:List Str} (G:Gd R M):∃ ks:List Str,ks.Perm (nm (R.filterMap Rw.gp) (R.filterMap Rw.rp))∧ks.length≤60∧ks.Nodup ∧
  QU [.lst (R.map Rw.v)]=some (.dct (gD ks fun w => .inr ((nm (R.filterMap Rw.gp) (R.filterMap Rw.rp)).idxOf w:Int))):=by
 have hRl:=G.len
 obtain ⟨F,t3,f1,f2,fe⟩:=e_first G (.od (gD [] TT)) .un .un .un
 obtain ⟨O,u3,u4,u5,o1,o2,o3,oe⟩:=e_other G (F:=F) t3 .un .un .un
 have fM:∀ w∈F,w∈M:=fun w hw=>by
  obtain ⟨p,hp,e⟩:=List.mem_map.mp ((f2 w).mp hw)
  obtain ⟨x,hx,e2⟩:=List.mem_filterMap.mp hp
  cases x with
  | r a b=>cases e2
  | g a b =>
   cases e2
   exact G.ws _ hx w (by rw [← e];exact List.mem_cons_self ..)
 have hF:=Qhv (R:=R) f1 fM G.nM
 have hO:=Qhv (R:=R) o1 o2 G.nM
 have gn:=G.gnd
 have no:NO (R.filterMap Rw.gp) (R.filterMap Rw.rp) F O:={
  pf:=QaL f1 gn f2
  po:=QaL o1 ((Qaw _).sublist List.filter_sublist) fun w=>by
   rw [o3,Qfe,List.mem_filter,Qch,f2]
   simp
  nd:=List.nodup_append.mpr ⟨f1,o1,fun a ha b hb e=>((o3 b).mp hb).2 (by rw [← e];exact ha)⟩
  fl:=hF
  ol:=hO }
 obtain ⟨v5,e1⟩:=e_n1 (O:=O) hF f1 (.fz (.lst (R.map Rw.v))) (.od (gD O TT)) u3 u4 u5
 obtain ⟨w5,e2⟩:=e_n2 hF hO no.nd (.fz (.lst (R.map Rw.v))) u3 u4 v5
 refine ⟨F++O,no.perm,by rw [List.length_append];omega,no.nd,?_⟩
 generalize hRV:R.map Rw.v=RV at *
 have fe':forL (gSet 3) QN RV [.fz (.lst RV),.od [],.od [],.un,.un,.un,.un]=some (.nx [.fz (.lst RV),.od (gD F TT),.od [],t3,.un,.un,.un]):=fe
 have oe':forL (gSet 3) Zc RV [.fz (.lst RV),.od (gD F TT),.od [],t3,.un,.un,.un]=some (.nx [.fz (.lst RV),.od (gD F TT),.od (gD O TT),u3,u4,u5,.un]):=oe
 have e1':forL (gSet 5) Zz (F.map .str) [.fz (.lst RV),.fz (.dct (gD F TT)),.od (gD O TT),u3,u4,u5,.od []]=some (.nx [.fz (.lst RV),.fz (.dct (gD F TT)),.od (gD O TT),u3,u4,v5,.od (gD F (nf F O))]):=e1
 clear fe oe e1
 rw [← no.nf_eq]
 unfold QU Qae
 walk_at "ev"
 rw [fe']
 walk_at "ev"
 rw [oe']
 walk_at "ev"
 rw [e1']
 walk_at "ev"
 rw [e2]
 walk_at "ev"
theorem QkZ {N:List Str} {w:Str} (h:w∈N):N[N.idxOf w]?=some w:=by
 have hl:=List.idxOf_lt_length_iff.mpr h
 rw [List.getElem?_eq_getElem hl,List.getElem_idxOf hl]
theorem pRep_e {n:Nat} (h:n≤1000):pRep (.lst [.str ""]) (pN n)=some ((List.replicate n ("":Str)).map .str):=by
 show (if -1000≤(n:Int)∧(n:Int)≤1000∧[PV.str ""].length≤1000 then some (List.replicate (n:Int).toNat [PV.str ""]).flatten else none)=_
 rw [if_pos ⟨by omega,by omega,by simp⟩,Int.toNat_natCast,List.map_replicate]
 congr 1
 clear h
 induction n with
 | zero=>rfl
 | succ n ih=>rw [List.replicate_succ,List.replicate_succ,List.flatten_cons,ih];rfl
abbrev dN (ks N:List Str):PV := .dct (gD ks fun w => .inr ((N.idxOf w:Nat):Int))
local macro_rules | `(tactic| walk_at "ev")=>`(tactic| try simp (disch:=walk_at "eb") only [pLen_sn,mtK_s,val_od,pLenD_d,pLenD_w,ev_iDct,idK_d,gD_len,ev_sEx,sxK_od,sxK_fz,EVc,EVl,List.length_range])
theorem e_due1 {ks N:List Str} (hp:ks.Perm N) (hk:ks.Nodup) (s0 s4 s5 s6 s7:Slot):∃ s3,forL (gSet 3) Xn (ks.map .str) [s0,.fz (dN ks N),.ow ((List.replicate ks.length ("":Str)).map .str),.un,s4,s5,s6,s7]=some (.nx [s0,.fz (dN ks N),.ow (N.map .str),s3,s4,s5,s6,s7]):=by
 have hN:=hp.nodup_iff.mp hk
 have hlen:=hp.length_eq
 obtain ⟨γ',e,L,s3,rfl,h1,h2⟩:=Zy (g:=gSet 3) (b:=Xn) PV.str
   (fun pre γ=>∃ (L:List Str) (s3:Slot),γ=[s0,.fz (dN ks N),.ow (L.map .str),s3,s4,s5,s6,s7]∧L.length=N.length∧∀ w∈pre,L[N.idxOf w]?=some w)
   ks ks [] [s0,.fz (dN ks N),.ow ((List.replicate ks.length ("":Str)).map .str),.un,s4,s5,s6,s7] rfl ⟨_,.un,rfl,by rw [List.length_replicate];exact hlen,(fun _ h=>nomatch h)⟩ (by
    rintro pre x post γ hpre ⟨L,s3,rfl,h1,h2⟩
    have hx:x∈ks:=by rw [← hpre];simp
    have hxN:=hp.mem_iff.mp hx
    have hi:=List.idxOf_lt_length_iff.mpr hxN
    have hLl:(L.map PV.str).length=N.length:=by rw [List.length_map];exact h1
    refine ⟨_,_,rfl,?_,L.set (N.idxOf x) x,.fz (.str x),rfl,by rw [List.length_set];exact h1,?_⟩
    ·have ed:=QeM (k:=x) (ks:=ks) (fun w=>N.idxOf w) hx
     unfold Xn
     walk_at "ev"
     rw [ed]
     walk_at "ev"
     rw [sixK_n (by omega) rfl,← Qdy]
     walk_at "ev"
    ·intro w hw
     rw [List.getElem?_set]
     rcases List.mem_append.mp hw with h | h
     ·split
      ·rename_i c
       have hwN:w∈N:=hp.mem_iff.mp (by rw [← hpre];exact List.mem_append.mpr (.inl h))
       have e1:=QkZ hwN
       rw [← c,QkZ hxN] at e1
       rw [if_pos (by omega)]
       exact e1
      ·exact h2 w h
     ·rw [List.mem_singleton.mp h,if_pos rfl,if_pos (by omega)])
 have hL:L=N:=by
  apply List.ext_getElem?
  intro i
  by_cases c:i < N.length
  ·have hw:N[i]∈ks:=hp.mem_iff.mpr (List.getElem_mem c)
   have:=h2 _ hw
   rw [hN.idxOf_getElem i c] at this
   rw [this,List.getElem?_eq_getElem c]
  ·rw [List.getElem?_eq_none (by omega),List.getElem?_eq_none (by omega)]
 exact ⟨s3,by rw [e,hL]⟩
def sel (f:Str→Nat) (gs:List Gp) (n:Str):List Nat:=(gs.filter fun p=>p.1==n).map fun p=>f p.2
theorem QkA (f:Str→Nat) (gs:List Gp) (n:Str):(sel f gs n).length≤gs.length:=by
 unfold sel
 rw [List.length_map]
 exact List.length_filter_le _ _
theorem sel_no {f:Str→Nat} {pg:List Gp} {a b n:Str} (c:(a==n)=false):sel f (pg++[(a,b)]) n=sel f pg n:=by
 unfold sel
 rw [List.filter_append,List.filter_cons_of_neg (by simp only [c];simp),List.filter_nil,List.append_nil]
theorem sel_yes {f:Str→Nat} {pg:List Gp} {a b n:Str} (c:(a==n)=true):sel f (pg++[(a,b)]) n=sel f pg n++[f b]:=by
 unfold sel
 rw [List.filter_append,List.filter_cons_of_pos (by simp only [c]),List.filter_nil,List.map_append]
 rfl
theorem encN_app (xs:List Nat) (x:Nat):encN xs++[pN x]=encN (xs++[x]):=by unfold encN;rw [List.map_append];rfl
theorem e_due2 {ks N:List Str} {R:List Rw} (ok:∀ x∈R,x.Ok) (hG:∀ p∈R.filterMap Rw.gp,p.2∈ks) (hl:R.length≤100) {n:Str} (hn:PyData.strOk n=true) {xs:List Nat} (hxs:xs.length≤1000) (s0 s2 s3 s6 s7:Slot) :
  ∃ s6',forL (gSet 6) Yb (R.map Rw.v) [s0,.fz (dN ks N),s2,s3,.ow (encN xs),.fz (.str n),s6,s7]=some (.nx [s0,.fz (dN ks N),s2,s3,.ow (encN (xs++sel N.idxOf (R.filterMap Rw.gp) n)),.fz (.str n),s6',s7]):=by
 obtain ⟨γ',e,s6',rfl⟩:=Zy (g:=gSet 6) (b:=Yb) Rw.v
   (fun pre γ=>∃ s6,γ=[s0,.fz (dN ks N),s2,s3,.ow (encN (xs++sel N.idxOf (pre.filterMap Rw.gp) n)),.fz (.str n),s6,s7])
   R R [] [s0,.fz (dN ks N),s2,s3,.ow (encN xs),.fz (.str n),s6,s7] rfl ⟨s6,by unfold sel;simp⟩ (by
    rintro pre x post γ hp ⟨s6,rfl⟩
    have hx:x∈R:=by rw [← hp];simp
    have hpl:=congrArg List.length hp
    rw [List.length_append,List.length_cons] at hpl
    have hok:=ok x hx
    cases x with
    | r a b =>
     rw [show (pre++[Rw.r a b]).filterMap Rw.gp=pre.filterMap Rw.gp by rw [List.filterMap_append,List.filterMap_cons_none (by rfl)];simp]
     refine ⟨_,_,rfl,?_,.fz (Rw.r a b).v,rfl⟩
     unfold Yb Rw.v
     walk_at "ev"
     rw [Yv XC ZV,QhI]
     walk_at "ev"
    | g a b =>
     have ha:=ZT hok.1.low
     have hb:b∈ks:=hG (a,b) (List.mem_filterMap.mpr ⟨_,hx,rfl⟩)
     have ed:=QeM (k:=b) (ks:=ks) (fun w=>N.idxOf w) hb
     have e1:(pre++[Rw.g a b]).filterMap Rw.gp=pre.filterMap Rw.gp++[(a,b)]:=by
      rw [List.filterMap_append,List.filterMap_cons_some (b:=(a,b)) (by rfl)];rfl
     have hsl:(sel N.idxOf (pre.filterMap Rw.gp) n).length≤100:=Nat.le_trans (QkA _ _ _) (Nat.le_trans (List.length_filterMap_le _ _) (by omega))
     rw [e1]
     generalize pre.filterMap Rw.gp=pg at *
     cases c:a==n with
     | false =>
      rw [sel_no c]
      refine ⟨_,_,rfl,?_,.fz (Rw.g a b).v,rfl⟩
      unfold Yb Rw.v
      walk_at "ev"
      rw [Yv ZV ZV,show (("guess":Str) == "guess")=true by simp]
      walk_at "ev"
      rw [Yv ha hn,c]
      walk_at "ev"
     | true =>
      rw [sel_yes c]
      refine ⟨_,_,rfl,?_,.fz (Rw.g a b).v,rfl⟩
      unfold Yb Rw.v
      walk_at "ev"
      rw [Yv ZV ZV,show (("guess":Str) == "guess")=true by simp]
      walk_at "ev"
      rw [Yv ha hn,c]
      walk_at "ev"
      rw [ed]
      walk_at "ev"
      rw [XT (by rw [encN_len,List.length_append];omega) rfl,encN_app,List.append_assoc]
      walk_at "ev")
 exact ⟨s6',e⟩
theorem GN_srt {gs:List Gp}:QM (GN gs)=GN (srtG gs):=by
 refine (QbC ((XJ gs).map _) ?_).symm
 have h:=Qiq (gs.map tr)
 rw [Qkv] at h
 rw [List.pairwise_map] at h ⊢
 exact h
theorem Qkz:∀ {gs:List Gp} {p:Gp},(GN gs).Nodup→p∈gs→(gs.filter fun q=>q.1==p.1)=[p]
 | q :: gs,p,hn,hp=>by
  have hn':=List.nodup_cons.mp (show (q.1 :: GN gs).Nodup from hn)
  have none_:∀ {r:Gp},r.1∉GN gs→(gs.filter fun q=>q.1==r.1)=[]:=fun {r} h=>by
   rw [List.filter_eq_nil_iff]
   intro x hx z
   exact h (by rw [← eq_of_beq z];exact List.mem_map.mpr ⟨x,hx,rfl⟩)
  by_cases c:q.1=p.1
  ·have hq:p=q:=by
    rcases List.mem_cons.mp hp with e | e
    ·exact e
    ·exact absurd (by rw [c];exact List.mem_map.mpr ⟨p,e,rfl⟩) hn'.1
   rw [hq,List.filter_cons_of_pos (by simp),none_ hn'.1]
  ·rw [List.filter_cons_of_neg (by simpa using c)]
   rcases List.mem_cons.mp hp with e | e
   ·exact absurd (by rw [e]) c
   ·exact Qkz hn'.2 e
theorem sel_all (f:Str→Nat) {gs:List Gp} (rs:List Rp) (hn:(GN gs).Nodup):(nm gs rs).flatMap (sel f gs)=(srtG gs).map fun p=>f p.2:=by
 unfold nm
 rw [List.flatMap_append,GN_srt]
 have e2:(QM ((once (wds gs rs)).filter fun j=>decide (j∉GN gs))).flatMap (sel f gs)=[]:=by
  rw [List.flatMap_eq_nil_iff]
  intro w hw
  rw [(Qw _).mem_iff,List.mem_filter] at hw
  have hw2:w∉GN gs:=by simpa using hw.2
  unfold sel
  rw [List.filter_eq_nil_iff.mpr,List.map_nil]
  intro x hx z
  exact hw2 (by rw [← eq_of_beq z];exact List.mem_map.mpr ⟨x,hx,rfl⟩)
 rw [e2,List.append_nil]
 have e1:∀ L:List Gp,(∀ p∈L,p∈gs)→(GN L).flatMap (sel f gs)=L.map fun p=>f p.2:=by
  intro L
  induction L with
  | nil=>intro _;rfl
  | cons q L ih =>
   intro hL
   have:=ih fun p hp=>hL p (List.mem_cons_of_mem _ hp)
   rw [show GN (q :: L)=q.1 :: GN L from rfl,List.flatMap_cons,this,List.map_cons]
   unfold sel
   rw [Qkz hn (hL q (List.mem_cons_self ..))]
   rfl
 exact e1 _ fun p hp=>(XJ gs).mem_iff.mp hp
theorem fl_len (f:Str→Nat) {gs:List Gp} (h8:gs.length≤8):∀ L:List Str,(L.flatMap (sel f gs)).length≤L.length * 8
 | []=>Nat.le_refl _
 | x :: L=>by
  have:=fl_len f h8 L
  have:=QkA f gs x
  rw [List.flatMap_cons,List.length_append,List.length_cons]
  omega
theorem e_due3 {ks N:List Str} {R:List Rw} (ok:∀ x∈R,x.Ok) (hG:∀ p∈R.filterMap Rw.gp,p.2∈ks) (h8:(R.filterMap Rw.gp).length≤8) (hl:R.length≤100) (hN:∀ s∈N,PyData.strOk s=true) (hNl:N.length≤60) (s2 s3 s5 s6 s7:Slot) :
  ∃ s5' s6',forL (gSet 5) YC (N.map .str) [.fz (.lst (R.map Rw.v)),.fz (dN ks N),s2,s3,.ow (encN []),s5,s6,s7]=some (.nx [.fz (.lst (R.map Rw.v)),.fz (dN ks N),s2,s3,.ow (encN (N.flatMap (sel N.idxOf (R.filterMap Rw.gp)))),s5',s6',s7]):=by
 obtain ⟨γ',e,s5',s6',rfl⟩:=Zy (g:=gSet 5) (b:=YC) PV.str
   (fun pre γ=>∃ s5 s6,γ=[.fz (.lst (R.map Rw.v)),.fz (dN ks N),s2,s3,.ow (encN (pre.flatMap (sel N.idxOf (R.filterMap Rw.gp)))),s5,s6,s7])
   N N [] [.fz (.lst (R.map Rw.v)),.fz (dN ks N),s2,s3,.ow (encN []),s5,s6,s7] rfl ⟨s5,s6,rfl⟩ (by
    rintro pre x post γ hp ⟨s5,s6,rfl⟩
    have hx:x∈N:=by rw [← hp];simp
    have hpl:=congrArg List.length hp
    rw [List.length_append,List.length_cons] at hpl
    have hfl:=fl_len N.idxOf h8 pre
    obtain ⟨t6,ke⟩:=e_due2 (ks:=ks) (N:=N) ok hG hl (hN x hx) (xs:=pre.flatMap (sel N.idxOf (R.filterMap Rw.gp))) (by omega) (.fz (.lst (R.map Rw.v))) s2 s3 s6 s7
    refine ⟨_,_,rfl,?_,.fz (.str x),t6,by rw [List.flatMap_append,List.flatMap_cons,List.flatMap_nil,List.append_nil]⟩
    unfold YC
    walk_at "ev"
    rw [ke])
 exact ⟨s5',s6',e⟩
theorem e_due4 {ks N G:List Str} (hN:N.Pairwise (ordN G)) (hp:ks.Perm N) {R:List Rw} (ok:∀ x∈R,x.Ok) (hR:∀ p∈R.filterMap Rw.rp,p.1∈N∧∀ w∈p.2,w∈N) (hl:R.length≤100) (s0 s2 s3 s4 s5 s6:Slot) :
  ∃ s6',forL (gSet 6) YB (R.map Rw.v) [s0,.fz (dN ks N),s2,s3,s4,s5,s6,.ow []]=some (.nx [s0,.fz (dN ks N),s2,s3,s4,s5,s6',.ow ((R.filterMap Rw.rp).map fun p=>rV N.idxOf (p.1,ordB G p.2))]):=by
 obtain ⟨γ',e,s6',rfl⟩:=Zy (g:=gSet 6) (b:=YB) Rw.v
   (fun pre γ=>∃ s6,γ=[s0,.fz (dN ks N),s2,s3,s4,s5,s6,.ow ((pre.filterMap Rw.rp).map fun p=>rV N.idxOf (p.1,ordB G p.2))])
   R R [] [s0,.fz (dN ks N),s2,s3,s4,s5,s6,.ow []] rfl ⟨s6,rfl⟩ (by
    rintro pre x post γ hpre ⟨s6,rfl⟩
    have hx:x∈R:=by rw [← hpre];simp
    have hpl:=congrArg List.length hpre
    rw [List.length_append,List.length_cons] at hpl
    have hok:=ok x hx
    cases x with
    | g a b =>
     rw [show (pre++[Rw.g a b]).filterMap Rw.rp=pre.filterMap Rw.rp by rw [List.filterMap_append,List.filterMap_cons_none (by rfl)];simp]
     refine ⟨_,_,rfl,?_,.fz (Rw.g a b).v,rfl⟩
     unfold YB Rw.v
     walk_at "ev"
     rw [Yv ZV XC,QmD]
     walk_at "ev"
    | r a b =>
     have hm:=hR (a,b) (List.mem_filterMap.mpr ⟨_,hx,rfl⟩)
     have hb6:b.length≤6:=hok.2.2.2
     have e2:=QiO hN hm.2
     have ed:=QeM (k:=a) (ks:=ks) (fun w=>N.idxOf w) (hp.mem_iff.mpr hm.1)
     have edb:∀ w∈b,QgA (dN ks N) (.str w)=some (pN (N.idxOf w)):=fun w hw=>QeM (fun w=>N.idxOf w) (hp.mem_iff.mpr (hm.2 w hw))
     have hpf:(pre.filterMap Rw.rp).length≤100:=Nat.le_trans (List.length_filterMap_le _ _) (by omega)
     rw [show (pre++[Rw.r a b]).filterMap Rw.rp=pre.filterMap Rw.rp++[(a,b)] by rw [List.filterMap_append,List.filterMap_cons_some (b:=(a,b)) (by rfl)];rfl]
     refine ⟨_,_,rfl,?_,.fz (Rw.r a b).v,rfl⟩
     rw [List.map_append]
     generalize hpp:(pre.filterMap Rw.rp).map (fun p=>rV N.idxOf (p.1,ordB G p.2))=PP
     have hPl:PP.length≤100:=by rw [← hpp,List.length_map];exact hpf
     unfold YB Rw.v
     walk_at "ev"
     rw [Yv XC XC,show (("rule":Str) == "rule")=true by simp]
     walk_at "ev"
     rw [ed]
     walk_at "ev"
     rw [YA PV.str (fun w=>PV.int ((N.idxOf w:Nat):Int)) _ fun w hw=>⟨_,rfl,by
      walk_at "ev"
      rw [edb w hw]
      rfl⟩]
     rw [show (b.map fun w=>PV.int ((N.idxOf w:Nat):Int))=(b.map fun w=>((N.idxOf w:Nat):Int)).map PV.int by rw [List.map_map];rfl]
     walk_at "ev"
     rw [QkL (by rw [List.length_map];omega),e2]
     walk_at "ev"
     rw [XT (by omega) rfl]
     walk_at "ev"
     rfl)
 exact ⟨s6',e⟩
theorem flat_dct (kvs:List (Str×(Bool ⊕ Int))):flat (.dct kvs)=false:=rfl
theorem nm_ok {gs:List Gp} {rs:List Rp} {M:List Str} (x:GB gs rs M):∀ s∈nm gs rs,PyData.strOk s=true:=fun s hs=>by
 unfold nm at hs
 rw [List.mem_append,(Qw _).mem_iff,(Qw _).mem_iff,List.mem_filter,Qch] at hs
 rcases hs with h | ⟨h,_⟩
 ·obtain ⟨p,hp,rfl⟩:=List.mem_map.mp h
  exact ZT (x.gok p hp).1.low
 ·rcases XB.mp h with ⟨p,h1,h2⟩ | ⟨p,h1,h2⟩
  ·rcases h2 with e | e
   ·rw [e];exact ZT (x.gok p h1).1.low
   ·rw [e];exact ZT (x.gok p h1).2.low
  ·rcases h2 with e | e
   ·rw [e];exact ZT (x.rok p h1).1.low
   ·exact ZT ((x.rok p h1).2.1 s e).low
local macro_rules | `(tactic| walk_at "ev")=>`(tactic| try simp (disch:=walk_at "eb") only [pLen_sn,mtK_s,val_od,pLenD_d,pLenD_w,ev_iDct,idK_d,gD_len,ev_sEx,sxK_od,sxK_fz,flat_dct,EVc,EVl,List.length_range])
theorem e_due {R:List Rw} {M:List Str} (x:GB (R.filterMap Rw.gp) (R.filterMap Rw.rp) M):ZO [.lst (R.map Rw.v)]=some (QdZ (R.filterMap Rw.gp) (R.filterMap Rw.rp)):=by
 have G:=x.rows (R:=R) rfl rfl
 have hl:=G.len
 obtain ⟨ks,kp,kl,kn,ke⟩:=Qgn G
 have hNok:=nm_ok x
 have hord:=nm_ord (R.filterMap Rw.gp) (R.filterMap Rw.rp)
 have hG:∀ p∈R.filterMap Rw.gp,p.2∈ks:=fun p hp=>kp.mem_iff.mpr (wds_g hp).2
 have hR:∀ p∈R.filterMap Rw.rp,p.1∈nm (R.filterMap Rw.gp) (R.filterMap Rw.rp)∧∀ w∈p.2,w∈nm (R.filterMap Rw.gp) (R.filterMap Rw.rp):=fun p hp=>wds_r hp
 have hsel:=sel_all (nm (R.filterMap Rw.gp) (R.filterMap Rw.rp)).idxOf (R.filterMap Rw.rp) x.gnd
 unfold QdZ bkV ordR
 rw [List.map_map]
 have hgl:=x.gl
 generalize nm (R.filterMap Rw.gp) (R.filterMap Rw.rp)=N at *
 have hNl:=kp.length_eq
 have hNm:(N.map PV.str).length=N.length:=List.length_map _
 obtain ⟨t3,e1⟩:=e_due1 kp kn (.fz (.lst (R.map Rw.v))) .un .un .un .un
 obtain ⟨t5,t6,e2⟩:=e_due3 (ks:=ks) G.ok hG hgl (by omega) hNok (by omega) (.fz (.lst (N.map .str))) t3 .un .un .un
 rw [hsel] at e2
 obtain ⟨u6,e3⟩:=e_due4 hord kp G.ok hR (by omega) (.fz (.lst (R.map Rw.v))) (.fz (.lst (N.map .str))) t3 (.ow (encN ((srtG (R.filterMap Rw.gp)).map fun p=>N.idxOf p.2))) t5 t6
 have hsl:(srtG (R.filterMap Rw.gp)).length≤8:=by rw [(XJ _).length_eq];exact hgl
 have hrl:((R.filterMap Rw.rp).map fun p=>rV N.idxOf (p.1,ordB (GN (R.filterMap Rw.gp)) p.2)).length≤40:=by rw [List.length_map];exact x.rl
 have e2':forL (gSet 5) YC (N.map .str) [.fz (.lst (R.map Rw.v)),.fz (dN ks N),.fz (.lst (N.map .str)),t3,.ow [],.un,.un,.un]=some (.nx [.fz (.lst (R.map Rw.v)),.fz (dN ks N),.fz (.lst (N.map .str)),t3,.ow (encN ((srtG (R.filterMap Rw.gp)).map fun p=>N.idxOf p.2)),t5,t6,.un]):=e2
 clear e2
 have hrep:=pRep_e (n:=ks.length) (by omega)
 have hge:(List.map ((rV fun a=>List.idxOf a N) ∘ fun p=>(p.1,ordB (GN (R.filterMap Rw.gp)) p.2)) (R.filterMap Rw.rp))=((R.filterMap Rw.rp).map fun p=>rV N.idxOf (p.1,ordB (GN (R.filterMap Rw.gp)) p.2)):=rfl
 rw [hge]
 generalize ((R.filterMap Rw.rp).map fun p=>rV N.idxOf (p.1,ordB (GN (R.filterMap Rw.gp)) p.2))=RV at *
 generalize hSG:(srtG (R.filterMap Rw.gp)).map (fun p=>N.idxOf p.2)=SG at *
 generalize R.map Rw.v=LV at *
 unfold ZO QcE
 walk_at "ev"
 rw [ke]
 walk_at "ev"
 rw [hrep]
 walk_at "ev"
 rw [e1]
 walk_at "ev"
 rw [e2']
 walk_at "ev"
 rw [e3]
 walk_at "ev"
def Qbo (r:List PV→Option PV):List PV→Option PV:=runV 3 2 (Zb r)
theorem same_1:Yj=Qbo Xb:=rfl
theorem same_2:Yi=Qbo Yj:=rfl
theorem same_3:Yh=Qbo Yi:=rfl
theorem Qhl:Yg=Qbo Yh:=rfl
theorem same_5:Yf=Qbo Yg:=rfl
theorem same_6:ZI=Qbo Yf:=rfl
theorem isStr_pn (n:Nat):Qia (pN n)=false:=rfl
theorem isStr_tp (xs:List PV):Qia (.tup xs)=false:=rfl
theorem isInt_tp (xs:List PV):isInt (.tup xs)=false:=rfl
local macro_rules | `(tactic| walk_at "ev")=>`(tactic| try simp (disch:=walk_at "eb") only [pLen_sn,mtK_s,isStr_pn,isStr_tp,isInt_tp,EVc,EVl,List.length_range])
theorem same_s (r:List PV→Option PV) {s:Str} (h:PyData.strOk s=true):Qbo r [.str s,.str s]=some (.bl true):=by
 unfold Qbo Zb
 walk_at "ev"
 rw [Yv h h,show (s==s)=true by simp]
 walk_at "ev"
theorem Qkb (r:List PV→Option PV) (n:Nat):Qbo r [pN n,pN n]=some (.bl true):=by
 unfold Qbo Zb
 walk_at "ev"
 rw [show (n==n)=true by simp]
 walk_at "ev"
theorem QcL {r:List PV→Option PV} {xs:List PV} (hl:xs.length≤1000) (h:∀ x∈xs,r [x,x]=some (.bl true)):Qbo r [.tup xs,.tup xs]=some (.bl true):=by
 obtain ⟨γ',e,s2,rfl⟩:=QcO (g:=gSet 2) (b:=Qaz r) (fun j γ=>∃ s2,γ=[.fz (.tup xs),.fz (.tup xs),s2]) xs.length [.fz (.tup xs),.fz (.tup xs),.un] ⟨.un,rfl⟩ (by
  rintro j γ hj ⟨s2,rfl⟩
  have e1:=List.getElem?_eq_getElem hj
  have e2:=h _ (List.getElem_mem hj)
  refine ⟨_,_,rfl,?_,.fz (pN j),rfl⟩
  unfold Qaz
  walk_at "ev"
  rw [e1]
  walk_at "ev"
  rw [e2]
  walk_at "ev")
 unfold Qbo Zb
 walk_at "ev"
 rw [show (xs.length==xs.length)=true by simp]
 walk_at "ev"
 rw [e]
 walk_at "ev"
theorem QfZ {r:List PV→Option PV} {xs:List Nat}:∀ x∈encN xs,Qbo r [x,x]=some (.bl true):=fun x hx=>by
 obtain ⟨n,_,rfl⟩:=List.mem_map.mp hx
 exact Qkb r n
theorem QlG {gs:List Gp} {rs:List Rp} {M:List Str} (x:GB gs rs M) (hl:(nm gs rs).length≤1000):ZI [QdZ gs rs,QdZ gs rs]=some (.bl true):=by
 have hN:=nm_ok x
 have h8:(srtG gs).length≤8:=by rw [(XJ gs).length_eq];exact x.gl
 unfold QdZ
 rw [same_6]
 refine QcL (by simp) fun y hy => ?_
 rcases List.mem_cons.mp hy with rfl | hy
 ·rw [same_5]
  refine QcL (by rw [List.length_map];exact hl) fun y hy => ?_
  obtain ⟨s,hs,rfl⟩:=List.mem_map.mp hy
  rw [Qhl]
  exact same_s _ (hN s hs)
 ·rw [List.mem_singleton.mp hy,same_5]
  unfold bkV
  refine QcL (by simp) fun y hy => ?_
  rcases List.mem_cons.mp hy with rfl | hy
  ·rw [Qhl]
   exact Qkb _ _
  ·rcases List.mem_cons.mp hy with rfl | hy
   ·rw [Qhl]
    refine QcL (by rw [encN_len,List.length_map];omega) fun y hy => ?_
    rw [same_3]
    exact QfZ y hy
   ·rw [List.mem_singleton.mp hy,Qhl]
    refine QcL (by rw [List.length_map];unfold ordR;rw [List.length_map];have:=x.rl;omega) fun y hy => ?_
    obtain ⟨p,hp,rfl⟩:=List.mem_map.mp hy
    obtain ⟨q,hq,rfl⟩:=List.mem_map.mp hp
    have h6:q.2.length≤6:=(x.rok q hq).2.2.2
    unfold rV
    rw [same_3]
    refine QcL (by simp) fun y hy => ?_
    rcases List.mem_cons.mp hy with rfl | hy
    ·rw [same_2]
     exact Qkb _ _
    ·rw [List.mem_singleton.mp hy,same_2]
     refine QcL (by rw [encN_len,List.length_map,(Qdx _ _).length_eq];omega) fun y hy => ?_
     rw [same_1]
     exact QfZ y hy
theorem true03 (ns:List Int) (hn:ns.length≤63):Xa [.lst (ns.map .int)]=some (.bl true):=by
 obtain ⟨R,M,e1,x⟩:=e_lrows ns hn
 have G:=x.rows (R:=R) rfl rfl
 have hRl:=G.len
 have ok:=G.ok
 have e2:=e_due x
 have e3:=e_book G
 obtain ⟨ks,kp,kl,_⟩:=Qgn G
 have e4:=QlG x (by rw [← kp.length_eq];omega)
 have hj:=Qis ok (by omega)
 have e30:nl.length=1:=by decide +kernel
 have e5:=QbU (R.map Rw.line) 110 fun s hs=>by
  obtain ⟨x,hx,rfl⟩:=List.mem_map.mp hs
  exact (Qff (ok x hx)).2
 rw [List.length_map] at e5
 have hlen:((R.map Rw.line).map Str.length).sum + (R.map Rw.line).length * nl.length≤100000:=by
  rw [e30,List.length_map];omega
 have e7:=QkM (x:=nl) (ys:=R.map Rw.line) hlen
 have hRm:(R.map Rw.v).length=R.length:=List.length_map _
 generalize QdZ (R.filterMap Rw.gp) (R.filterMap Rw.rp)=T at *
 unfold Xa Qgp
 walk_at "ev"
 rw [e1]
 walk_at "ev"
 rw [YA Rw.v (fun x=>PV.str x.line) _ fun x hx=>⟨_,rfl,by
  walk_at "ev"
  rw [e_line (ok x hx)]⟩]
 rw [show (R.map fun x=>PV.str x.line)=(R.map Rw.line).map PV.str by rw [List.map_map];rfl]
 walk_at "ev"
 rw [show (Str.ofString "\n")=nl from rfl,e7]
 walk_at "ev"
 rw [e3,e2]
 walk_at "ev"
 rw [e4]
 walk_at "ev"
end DH
namespace HD
open PySem PySem.W PySem.Calls PyProof.Rows L2
abbrev fo (x q:Str) (st:Stmt) (dV doc pm:Value) (c:Addr):Obj:=⟨.type "function",none,.func (fnOf x q (Qp st) (Qm st) (Qe st) dV .none doc pm none (.ref c) .none),#[]⟩
abbrev co (x q:Str) (t:Nat) (l n:Int) (a b:Addr) (u v:Value) (c:Addr) (z:Nat):Obj:=⟨.type "code",none,.fields #[.str x t,.str q (t + 1),.str "/claim/cut.py" (t + 2),.int l 0,.int n 0,.int 0 0,.int 0 0,.int 3 0,.ref a,.bool true,.int 181 0,.ref b,.none,u,v,.ref c,.int z 0,.int l 0,.str "/claim/cut.py" (z + 1)],#[]⟩
abbrev en (P:Params) (x:Str) (t:Nat) (v:Value):DictEntry:=⟨PyData.keyHash P x,.str x t,v⟩
def run (thr ok:Thread→Bool) (st:SharedT→Thread→Option (SharedT×Thread)):Nat→SharedT→Thread→Option SharedT
 | 0,_,_=>none
 | n + 1,s,t=>match thr t with
  | true=>some s
  | false=>match ok t with
   | false=>none
   | true=>match st s t with
    | some x=>run thr ok st n x.1 x.2
    | none=>none
theorem run_top {tb:String→Option Builtin} {p:Program} {w:World} {m:Nat} {an:Option Value}:∀ (n:Nat) (s r:SharedT) (t:Thread),
  run through (stepOk m an) (stepT (denote tb) p w) n s t=some r→topRun tb p w m an n s.abs t=some r.abs:=by
 intro n
 induction n with
 | zero=>intro s r t h;cases h
 | succ n ih =>
  intro s r t h
  simp only [run] at h
  simp only [topRun]
  split at h
  ·next e=>cases h;rw [e]
  ·next e =>
   rw [e]
   split at h
   ·cases h
   ·next e2 =>
    rw [e2]
    split at h
    ·next x e3=>rw [stepT_spec (s':=x.1) (t':=x.2) e3];exact ih _ _ _ h
    ·cases h
def tree (l:List Obj):BT:=(l.foldl (fun x o=>(x.1.ins x.2 o,x.2 + 1)) (BT.nil,0)).1
def st0 (w:World) (os:OsState):SharedT:=⟨tree (boot_heap w.params).objs.toList,11,(boot_heap w.params).life,Array.mk [],boot_drawn,boot_toks,os⟩
theorem st0_abs (w:World) (os:OsState):(st0 w os).abs=⟨boot_heap w.params,Array.mk [],boot_drawn,boot_toks,os⟩:=by
 have h:∀ P:Params,absHeap (tree (boot_heap P).objs.toList) 11 (boot_heap P).life=boot_heap P:=fun P=>by kernel_rfl
 show Shared.mk (absHeap (tree (boot_heap w.params).objs.toList) 11 (boot_heap w.params).life) _ _ _ _=_
 rw [h]
 rfl
def only (p:Program) (st:Stmt):Program:={ p with main:={ p.main with body:=[st] } }
def defPos (s:Stmt):Pos:=match s with
 | .FunctionDef _ _ _ _ _ _ _ _ _ c=>c
 | _=>⟨0,0,0,0⟩
def others (p:Program):List Str:=(p.main.scope.names.map (·.1)).filter fun n => !(n==("law":Str))
def sees (p:Program) (P:Params) (h:Heap) (s:Shared):Bool :=
 staticsOk (importedModules p.main.body) (boot_heap P) h&&namesBound p h&&gensDone s&&laidKept (boot_heap P) h
def end_ (p q:Program) (as:List Addr) (w:World) (os:OsState) (N:Nat) :=
 (run through (Fast.tw6613529449190102663 11 (some (.ref 6))) (Fast.tw10156331382660048174 (Fast.tw11892475500146522536 Fast.tw14364793385576792824) p w) N (st0 w os) (topStub p)).map fun s =>
  (sees p w.params s.abs.heap s.abs,Fast.tw4187177175401517315 q (others p) (importedModules p.main.body) (fun _=>true) true s.abs,as.map s.abs.heap.get?)
theorem left {p q:Program} {K:Params→Frag} {as:List Addr} {N:Nat} (e:opening p=plainProg p.main.scope.names) (f:∀ s,fenceModules? p s=some s) (hN:Nat.ble 600 N=true)
  (one:∀ (w:World) (os:OsState),end_ p q as w os N=some (true,openGood q (others p),(K w.params).map fun x=>some x.2)) :
  LeftO p q (others p) (fun _=>true) (fun s=>as.map s.heap.get?) (fun w=>(K w.params).map fun x=>some x.2) N:=by
 intro w
 have o:=boot_open (p:=p) (N:=N) e hN f w
 match hf:fencedOpening treeTable p w N with
 | none=>rw [hf] at o;cases o
 | some ⟨h,gs,d,k,os⟩ =>
  rw [hf] at o
  have o2:=Option.some.inj o
  have c1:h=boot_heap w.params:=congrArg Prod.fst o2
  have c2:gs=Array.mk []:=congrArg (fun x=>x.2.1) o2
  have c3:d=boot_drawn:=congrArg (fun x=>x.2.2.1) o2
  have c4:k=boot_toks:=congrArg (fun x=>x.2.2.2) o2
  have r:=one w os
  unfold end_ at r
  rw [← Fast.te6613529449190102663,← Fast.te10156331382660048174,← Fast.te11892475500146522536,← Fast.te14364793385576792824,← Fast.te4187177175401517315] at r
  match hr:run through (stepOk 11 (some (.ref 6))) (stepT (denote treeTable) p w) N (st0 w os) (topStub p) with
  | none=>rw [hr] at r;cases r
  | some s =>
   rw [hr] at r
   have r2:=Option.some.inj r
   have l1:=congrArg Prod.fst r2
   have l2:=congrArg (fun x=>x.2.1) r2
   have l3:=congrArg (fun x=>x.2.2) r2
   have t:=run_top N _ _ _ hr
   rw [st0_abs] at t
   subst c1 c2 c3 c4
   have z:(boot_heap w.params).isNs mainGlobals=true∧(boot_heap w.params).objs.size=11∧(boot_heap w.params).nsMap mainGlobals "__annotations__"=some (.ref 6):=⟨by kernel_rfl,by kernel_rfl,by kernel_rfl⟩
   have u:topFrom treeTable p w N ⟨boot_heap w.params,Array.mk [],boot_drawn,boot_toks,os⟩=some s.abs:=by
    simp only [topFrom,z.1,z.2.1,z.2.2,t]
    have l1':(staticsOk (importedModules p.main.body) (boot_heap w.params) s.abs.heap&&namesBound p s.abs.heap&&gensDone s.abs&&laidKept (boot_heap w.params) s.abs.heap)=true:=l1
    simp only [Option.bind_some,l1']
    rfl
   have v:openEnds treeTable p w N=some s.abs:=by
    unfold openEnds
    rw [hf]
    exact u
   rw [v]
   exact congrArg some (Prod.ext l2 l3)
theorem opens {l:OpenLaw} {K:Params→Frag} {as:List Addr} {st:Stmt} {N:Nat} (ws:Fast.tw9446332074065402090 l=true) (e:opening l.prog=plainProg l.prog.main.scope.names) (f:∀ s,fenceModules? l.prog s=some s) (hN:Nat.ble 600 N=true)
  (one:∀ (w:World) (os:OsState),end_ l.prog (only l.prog st) as w os N=some (true,openGood (only l.prog st) (others l.prog),(K w.params).map fun x=>some x.2)) (ha:∀ P,as=(K P).map (·.1))
  (hd:defOf (only l.prog st) l.name=some (⟨l.name,Qp st,Qm st,Qe st,defPos st⟩,[])) (hp:l.prog.theDef l.name=some (Qp st,Qm st,Qe st)) (hk:kwWritten? (Qp st).kwonlyargs (Qp st).kw_defaults=some [])
  (ok:(chainsOk (only l.prog st)&&opensWell l.prog&&(frees l.row.toRowW&&l.row.within.isEmpty))=true) (hb:l.prog.bare) (hw:l.row.toRowW.promised)
  (go:WalkO (only l.prog st) (others l.prog) (fun _ _=>True) (InK K) l.row.toRowW ⟨l.name,Qp st,Qm st,Qe st,defPos st⟩ [] fun f vs=>PySem.call f vs):l.Holds:=by
 rw [← Fast.te9446332074065402090] at ws
 exact holds_law ws fun k=>holds_open (r:=l.row) (left e f hN one) (InK.of ha) InK.keeps (fun _ _=>trivial) (fun _ _ _ _ _=>trivial) hd hp hk (fun s _=>recFacts_of (R:=[]) rfl) (Bool.or_true _) k ok hb hw go
end HD
namespace K03
local macro_rules | `(tactic| walk_at "s")=>`(tactic| exact ⟨rfl,rfl,rfl,by decide +kernel,rfl,by decide +kernel,by decide +kernel⟩)
open PySem PySem.Spec PyProof.Rows L2 L2.PM DH
section
variable {P:Program} {w:World} {K:PySem.W.Frag} {mg:Str→Option Value} {base:Heap} {f:Addr} {fd:FuncData}
theorem law_true (ns:List Int) (hn:ns.length≤63):Xa [.lst (ns.map .int)]=some (.bl true):=true03 ns hn
def top (i:Nat):Stmt:=PySem.Challenge.pw_doubthall_k03_a_book_numbered.main.body.getD i (.Pass ⟨0,0,0,0⟩)
structure Txt (K:PySem.W.Frag) (mg:Str→Option Value):Prop where
 b_all:mg "all"=none
 b_bool:mg "bool"=none
 b_enumerate:mg "enumerate"=none
 b_int:mg "int"=none
 b_isinstance:mg "isinstance"=none
 b_len:mg "len"=none
 b_list:mg "list"=none
 b_min:mg "min"=none
 b_range:mg "range"=none
 b_set:mg "set"=none
 b_sorted:mg "sorted"=none
 b_str:mg "str"=none
 b_tuple:mg "tuple"=none
 g_MOST_GUESSES:∃ t,mg "MOST_GUESSES"=some (.int 8 t)
 g_MOST_IN_BODY:∃ t,mg "MOST_IN_BODY"=some (.int 6 t)
 g_MOST_LETTERS:∃ t,mg "MOST_LETTERS"=some (.int 12 t)
 g_MOST_RULES:∃ t,mg "MOST_RULES"=some (.int 40 t)
 g_MOST_WORDS:∃ t,mg "MOST_WORDS"=some (.int 30 t)
 g_NO_WORDS:∃ a,mg "NO_WORDS"=some (.ref a)∧GT K a ["guess","unless","if"]
abbrev Ys:Stmt:=top 31
def QcJ:List Str:=["cell","count","number","drawn","k"]
theorem Qfw (T:Txt K mg)  (F:Fun K "_law_draws" "_law_draws" Ys f fd):FnOk P w K mg base CX0 1 f fd ["cell","count"] (spM K 2 QK):=by
 have nd:QcJ.Nodup:=by decide +kernel
 refine fnM (N:=QcJ) (k:=0) F (by walk_at "s") rfl fun cdv A outer s H E hr=>?_
 exact (Qh (QJ (i:=2) nd rfl (Or.inl rfl) (Qu Za (Qu QcN (Qu Zv (Qu Za (Qa 0 (pv 0)) Qg) Qg) Qg) Qg))
   (Qh (Zi (i:=3) nd rfl (Or.inl rfl) (Yk Qf))
   (Qh (QaT PassesOwn.never rfl (YQ (by rfl) T.b_range (Qb (Qa 1 (pv 1)) Qf)) (QA (Qy (i:=4) nd rfl (Or.inl rfl))) (Qh (QJ (i:=2) nd rfl (Or.inl rfl) (Qu Za (Qu QcN (Qa 2 (pv 2)) Qg) Qg))
   (Qk (Qcg (i:=3) (pv 3) (Qu Qbj (Qa 2 (pv 2)) Qg) (Xl (Qbq PySem.F.plainAttrs_list PySem.F.slot_list_append PySem.F.type_list_append Yz (pv 3) (Xh (Qu Qbj (Qa 2 (pv 2)) Qg))))))))
   (Qk (QaS 3 (pv 3))))))
abbrev Yr:Stmt:=top 33
def QcI:List Str:=["number","size","letters","name","k"]
theorem Qfv (T:Txt K mg)  (F:Fun K "_law_fresh" "_law_fresh" Yr f fd):FnOk P w K mg base CX0 1 f fd ["number","size"] (spM K 2 QP):=by
 have nd:QcI.Nodup:=by decide +kernel
 refine fnM (N:=QcI) (k:=0) F (by walk_at "s") rfl fun cdv A outer s H E hr=>?_
 exact (Qh (QJ (i:=2) nd rfl (Or.inl rfl) QS)
   (Qh (QJ (i:=3) nd rfl (Or.inl rfl) QS)
   (Qh (QaT PassesOwn.never rfl (YQ (by rfl) T.b_range (Qb (Qa 1 (pv 1)) Qf)) (QA (Qy (i:=4) nd rfl (Or.inl rfl))) (Qh (QJ (i:=0) nd rfl (Or.inl rfl) (Qu Za (Qu Zv (Qu QcN (Qa 0 (pv 0)) Qg) Qg) Qg))
   (Qk (QJ (i:=3) nd rfl (Or.inl rfl) (Qu Zv (Qa 3 (pv 3)) (Qo Qn (Qa 2 (pv 2)) (Qu Za (Qu Qbj (Qa 0 (pv 0)) Qg) Qg) (fun _ _=>rfl)))))))
   (Qk (QaS 3 (pv 3))))))
abbrev Zn:Stmt:=top 34
def Qaj:List Str:=["drawn","k","letters","signs","one","two"]
theorem Qcv (T:Txt K mg) (c__law_fresh:Cal P w K mg base 1 "_law_fresh" 2 QP) (F:Fun K "_law_like_name" "_law_like_name" Zn f fd):FnOk P w K mg base CX0 2 f fd ["drawn","k"] (spM K 2 QW):=by
 have nd:Qaj.Nodup:=by decide +kernel
 refine fnM (N:=Qaj) (k:=1) F (by walk_at "s") rfl fun cdv A outer s H E hr=>?_
 exact (Qh (QJ (i:=2) nd rfl (Or.inl rfl) QS)
   (Qh (Zi (i:=3) nd rfl (Or.inl rfl) (Qgm (co_listS rfl) (by rfl) T.b_list (by kernel_rfl) (Qb (Qx c__law_fresh Xi (hr.mono (by decide)) (by rfl) (Qb (Qo Qn (Qa 0 (pv 0)) Qg (fun _ _=>rfl)) (Qb (Qu Zv Qg (Qu Za (Qo Qn (Qa 0 (pv 0)) Qg (fun _ _=>rfl)) Qg)) Qf))) Qf)))
   (Qh (QJ (i:=4) nd rfl (Or.inl rfl) (Qu Za (Qo Qn (Qa 0 (pv 0)) Qg (fun _ _=>rfl)) (Qv Zk (by rfl) T.b_len PySem.boot_len (Qb (Qa 3 (pv 3)) Qf))))
   (Qh (QJ (i:=5) nd rfl (Or.inl rfl) (Qu Za (Qu Zv (Qu Zv (Qa 4 (pv 4)) Qg) (Qu Za (Qo Qn (Qa 0 (pv 0)) Qg (fun _ _=>rfl)) (Qu Qho (Qv Zk (by rfl) T.b_len PySem.boot_len (Qb (Qa 3 (pv 3)) Qf)) Qg))) (Qv Zk (by rfl) T.b_len PySem.boot_len (Qb (Qa 3 (pv 3)) Qf))))
   (Qh (QeW (i:=3) (pv 3) (Qo Qn (Qa 2 (pv 2)) (Qu Za (Qu Zv (Qo Qn (Qa 0 (pv 0)) Qg (fun _ _=>rfl)) (Qu QcN (Qa 1 (pv 1)) (Qo Qn (EO.em (Yk (Yy (Yy (Yy (Yy (Yy (Yy Qf)))))))) (Qu Za (Qo Qn (Qa 0 (pv 0)) Qg (fun _ _=>rfl)) Qg) (fun _ _=>rfl)))) Qg) (fun _ _=>rfl)) (Qa 4 (pv 4)))
   (Qh (QeW (i:=3) (pv 3) (Qo Qn (Qa 2 (pv 2)) (Qu Za (Qu Zv (Qo Qn (Qa 0 (pv 0)) Qg (fun _ _=>rfl)) (Qu Qbj (Qa 1 (pv 1)) Qg)) Qg) (fun _ _=>rfl)) (Qa 5 (pv 5)))
   (Qk (QF (Qli QS (Qb (Qa 3 (pv 3)) Qf))))))))))
abbrev Zl:Stmt:=top 35
def Qah:List Str:=["drawn","k","base","at"]
theorem Qct (T:Txt K mg) (c__law_fresh:Cal P w K mg base 1 "_law_fresh" 2 QP) (F:Fun K "_law_part_name" "_law_part_name" Zl f fd):FnOk P w K mg base CX0 2 f fd ["drawn","k"] (spM K 2 QT):=by
 have nd:Qah.Nodup:=by decide +kernel
 refine fnM (N:=Qah) (k:=1) F (by walk_at "s") rfl fun cdv A outer s H E hr=>?_
 exact (Qh (QJ (i:=2) nd rfl (Or.inl rfl) (Qx c__law_fresh Xi (hr.mono (by decide)) (by rfl) (Qb (Qo Qn (Qa 0 (pv 0)) Qg (fun _ _=>rfl)) (Yy Qf))))
   (Qh (QJ (i:=3) nd rfl (Or.inl rfl) (Qu Za (Qu Zv (Qu QcN (Qa 1 (pv 1)) Qg) (Qo Qn (Qa 0 (pv 0)) Qg (fun _ _=>rfl))) Qg))
   (Qh (Zs (QB QhO (Qa 3 (pv 3)) Qg (QC _)) (Qk (QF (Qha (Qa 2 (pv 2)) QaV (XS (Qu Zv Qg (Qa 3 (pv 3))))))) QG)
   (Qh (Zs (QB QhO (Qa 3 (pv 3)) Qg (QC _)) (Qk (QF (Qha (Qa 2 (pv 2)) (XS (Qu Qho (Qa 3 (pv 3)) Qg)) QaV))) QG)
   (Qk (QF (Qha (em_revS (Qa 2 (pv 2)) (em_neg Qg) (fun _=>rfl)) QaV (XS (Qu Qho (Qa 3 (pv 3)) Qg)))))))))
abbrev Zm:Stmt:=top 36
def Qai:List Str:=["k","some"]
theorem Qcu (T:Txt K mg)  (F:Fun K "_law_near_name" "_law_near_name" Zm f fd):FnOk P w K mg base CX0 1 f fd ["k"] (spM K 1 QV):=by
 have nd:Qai.Nodup:=by decide +kernel
 refine fnM (N:=Qai) (k:=0) F (by walk_at "s") rfl fun cdv A outer s H E hr=>?_
 refine Qh ?_ ?_
 ·refine Zi (i:=1) ?_ ?_ ?_ ?_ (hs := ?_) (hf := ?_)
  ·exact nd
  ·rfl
  ·exact Or.inl rfl
  ·refine Yk ?_
   iterate 12 refine Xx ?_
   exact Qf
  ·rfl
  ·first | exact .inl rfl | exact .inr rfl | assumption
 refine Qh ?_ ?_
 ·exact (Zi (i:=1) nd rfl (Or.inl rfl) (Qid QfF (Qa 1 (pv 1)) (EO.em (Yk (Qlt [("guesses",_,_),("guessunless",_,_),("iff",_,_),("unlessguess",_,_)])))))
 exact Qk (QF (Qo Qn (Qa 1 (pv 1)) (Qu Za (Qa 0 (pv 0)) Qg) (fun _ _=>rfl)))
abbrev ZZ:Stmt:=top 37
def QbR:List Str:=["cell","size","drawn","names","k","name"]
theorem Qeo (T:Txt K mg) (c__law_draws:Cal P w K mg base 1 "_law_draws" 2 QK) (c__law_fresh:Cal P w K mg base 1 "_law_fresh" 2 QP) (c__law_like_name:Cal P w K mg base 2 "_law_like_name" 2 QW) (c__law_part_name:Cal P w K mg base 2 "_law_part_name" 2 QT) (c__law_near_name:Cal P w K mg base 1 "_law_near_name" 1 QV) (F:Fun K "_law_family" "_law_family" ZZ f fd):FnOk P w K mg base CX0 3 f fd ["cell","size"] (spM K 2 QR):=by
 have nd:QbR.Nodup:=by decide +kernel
 refine fnM (N:=QbR) (k:=2) F (by walk_at "s") rfl fun cdv A outer s H E hr=>?_
 exact (Qh (QJ (i:=2) nd rfl (Or.inl rfl) (Qx c__law_draws Xj (hr.mono (by decide)) (by rfl) (Qb (Qa 0 (pv 0)) (Yy Qf))))
   (Qh (Zi (i:=3) nd rfl (Or.inl rfl) (Yk Qf))
   (Qh (QaT PassesOwn.never rfl (YQ (by rfl) T.b_range (Qb (Qa 1 (pv 1)) Qf)) (QA (Qy (i:=4) nd rfl (Or.inl rfl))) (Qh (QJ (i:=5) nd rfl (Or.inl rfl) (Qx c__law_fresh Xi (hr.mono (by decide)) (by rfl) (Qb (Qo Qn (Qa 2 (pv 2)) (Qa 4 (pv 4)) (fun _ _=>rfl)) (Qb (Qu Zv Qg (Qu Za (Qu Qbj (Qo Qn (Qa 2 (pv 2)) (Qu Zv (Qa 4 (pv 4)) Qg) (fun _ _=>rfl)) Qg) Qg)) Qf))))
   (Qh (Zs (QB (YI hr.units) (Qu Za (Qo Qn (Qa 2 (pv 2)) Qg (fun _ _=>rfl)) Qg) Qg (QC _)) (Qk (QJ (i:=5) nd rfl (Or.inl rfl) (Qx c__law_like_name Qbb (hr.mono (by decide)) (by rfl) (Qb (Qa 2 (pv 2)) (Qb (Qa 4 (pv 4)) Qf))))) QG)
   (Qh (Zs (QB (YI hr.units) (Qu Za (Qo Qn (Qa 2 (pv 2)) Qg (fun _ _=>rfl)) Qg) Qg (QC _)) (Qk (QJ (i:=5) nd rfl (Or.inl rfl) (Qx c__law_part_name QaY (hr.mono (by decide)) (by rfl) (Qb (Qa 2 (pv 2)) (Qb (Qa 4 (pv 4)) Qf))))) QG)
   (Qh (Zs (WM.tm (QjZ (QB (YI hr.units) (Qu Za (Qo Qn (Qa 2 (pv 2)) Qg (fun _ _=>rfl)) Qg) Qg (QC _)) (QgR (QB QhO (Qa 4 (pv 4)) Qg (QC _))))) (Qk (QJ (i:=5) nd rfl (Or.inl rfl) (Qx c__law_near_name Qba (hr.mono (by decide)) (by rfl) (Qb (Qu Zv (Qa 4 (pv 4)) (Qo Qn (Qa 2 (pv 2)) Qg (fun _ _=>rfl))) Qf)))) QG)
   (Qh (Zs (QB (Qmz hr.units) (Qa 5 (pv 5)) (Xw (Xx (Xx (Xx Qf)))) (by with_unfolding_all rfl)) (Qk (QJ (i:=5) nd rfl (Or.inl rfl) (Qu Zv (Qa 5 (pv 5)) QS))) QG)
   (Qk (Zs (QB (QiE hr.units) (Qa 5 (pv 5)) (Qa 3 (pv 3)) (by with_unfolding_all rfl)) (Qk (Qcg (i:=3) (pv 3) (Qa 5 (pv 5)) (Xl (Qbq PySem.F.plainAttrs_list PySem.F.slot_list_append PySem.F.type_list_append Yz (pv 3) (Xh (Qa 5 (pv 5))))))) QG))))))))
   (Qk (QaS 3 (pv 3))))))
abbrev ZH:Stmt:=top 32
def Qbg:List Str:=["script","k"]
theorem QdX (T:Txt K mg)  (F:Fun K "_law_cell_at" "_law_cell_at" ZH f fd):FnOk P w K mg base CX0 1 f fd ["script","k"] (spM K 2 Ql):=by
 refine fnM (N:=Qbg) (k:=0) F (by walk_at "s") rfl fun cdv A outer s H E hr=>?_
 exact (Qh (Zs (QB QhO (Qa 1 (pv 1)) (Qv Zk (by rfl) T.b_len PySem.boot_len (Qb (Qa 0 (pv 0)) Qf)) (QC _)) (Qk (QF (Qo Qn (Qa 0 (pv 0)) (Qa 1 (pv 1)) (fun _ _=>rfl)))) QG)
   (Qk (QF Qg)))
abbrev Yt:Stmt:=top 38
def QcK:List Str:=["one","other"]
theorem Qfx (T:Txt K mg)  (F:Fun K "_law_alike" "_law_alike" Yt f fd):FnOk P w K mg base CX0 1 f fd ["one","other"] (spM K 2 ZP):=by
 refine fnM (N:=QcK) (k:=0) F (by walk_at "s") rfl fun cdv A outer s H E hr=>?_
 exact (Qk (QF (QfM (QfL (YI hr.units) (Qo Qn (Qa 0 (pv 0)) Qg (fun _ _=>rfl)) (Qo Qn (Qa 1 (pv 1)) Qg (fun _ _=>rfl)) (QC _)) (Qhw (QfL (YI hr.units) (EO.em (XA Qcn (by rfl) T.b_sorted (by kernel_rfl) (Qb (Qo Qn (Qa 0 (pv 0)) Qg (fun _ _=>rfl)) Qf))) (EO.em (XA Qcn (by rfl) T.b_sorted (by kernel_rfl) (Qb (Qo Qn (Qa 1 (pv 1)) Qg (fun _ _=>rfl)) Qf))) (QC _))))))
abbrev ZA:Stmt:=top 39
def XG:List Str:=["script","names","guesses","rules","cells","k","cell","drawn","body","word","new"]
theorem Qfu (T:Txt K mg) (c__law_draws:Cal P w K mg base 1 "_law_draws" 2 QK) (c__law_cell_at:Cal P w K mg base 1 "_law_cell_at" 2 Ql) (c__law_alike:Cal P w K mg base 1 "_law_alike" 2 ZP) (F:Fun K "_law_rules" "_law_rules" ZA f fd):FnOk P w K mg base CX0 2 f fd ["script","names","guesses"] (spO K 3 QY):=by
 have nd:XG.Nodup:=by decide +kernel
 refine fnO (N:=XG) (k:=1) F (by walk_at "s") rfl fun cdv A outer s H E hr=>?_
 exact (Qh (Zi (i:=3) nd rfl (Or.inl rfl) (Yk Qf))
   (Qh (Zi (i:=4) nd rfl (Or.inl rfl) (QfK (Qa 0 (pv 0)) (XS Qg) (XS Qg)))
   (Qh (Zs (QB (YI hr.units) (Qu Za (Qu Qbj (Qx c__law_cell_at QD (hr.mono (by decide)) (by rfl) (Qb (Qa 0 (pv 0)) (Yy Qf))) Qg) Qg) Qg (QC _)) (Qk (QaT PassesOwn.never rfl (YQ (by rfl) T.b_range (Qb (Qu Za (Qu Qbj (Qx c__law_cell_at QD (hr.mono (by decide)) (by rfl) (Qb (Qa 0 (pv 0)) (Yy Qf))) Qg) Qg) Qf)) (QA (Qy (i:=5) nd rfl (Or.inl rfl))) (Qk (Zi (i:=4) nd rfl (Or.inl rfl) (Qid QfF (Qa 4 (pv 4)) (EO.em (Yk (Qb (Qu Zv (Qu Za (Qx c__law_cell_at QD (hr.mono (by decide)) (by rfl) (Qb (Qa 0 (pv 0)) (Yy Qf))) (Qu om_pow Qg Qg)) (Qu QcN (Qu QcN Qg (Qa 5 (pv 5))) (Qa 5 (pv 5)))) Qf)))))))) QG)
   (Qh (XE PassesOwn.never rfl (Yx (EO.em (QfK (Qa 4 (pv 4)) QaV (XS Qg)))) (QA (Qy (i:=6) nd rfl (Or.inl rfl))) (Qh (QJ (i:=7) nd rfl (Or.inl rfl) (Qx c__law_draws Xj (hr.mono (by decide)) (by rfl) (Qb (Qa 6 (pv 6)) (Yy Qf))))
   (Qh (Zi (i:=8) nd rfl (Or.inl rfl) (Yk Qf))
   (Qh (QaT PassesOwn.never rfl (YQ (by rfl) T.b_range (Qb (Qu Za (Qo Qn (Qa 7 (pv 7)) Qg (fun _ _=>rfl)) Qg) Qf)) (QA (Qy (i:=5) nd rfl (Or.inl rfl))) (Qh (QJ (i:=9) nd rfl (Or.inl rfl) (Qo Qn (Qa 1 (pv 1)) (Qu Za (Qo Qn (Qa 7 (pv 7)) (Qu Zv Qg (Qa 5 (pv 5))) (fun _ _=>rfl)) (Qv Zk (by rfl) T.b_len PySem.boot_len (Qb (Qa 1 (pv 1)) Qf))) (fun _ _=>rfl)))
   (Qk (Zs (QB (QiE hr.units) (Qa 9 (pv 9)) (Qa 8 (pv 8)) (by with_unfolding_all rfl)) (Qk (Qcg (i:=8) (pv 8) (Qa 9 (pv 9)) (Xl (Qbq PySem.F.plainAttrs_list PySem.F.slot_list_append PySem.F.type_list_append Yz (pv 8) (Xh (Qa 9 (pv 9))))))) QG))))
   (Qh (QJ (i:=10) nd rfl (Or.inr rfl) (Xw (Qb QS (Qb (Qo Qn (Qa 1 (pv 1)) (Qu Zv (Qa 2 (pv 2)) (Qu Za (Qo Qn (Qa 7 (pv 7)) Qg (fun _ _=>rfl)) (Qu Qho (Qv Zk (by rfl) T.b_len PySem.boot_len (Qb (Qa 1 (pv 1)) Qf)) (Qa 2 (pv 2))))) (fun _ _=>rfl)) (Qb (ZE Ye (by rfl) T.b_tuple (by kernel_rfl) (Qb (Qa 8 (pv 8)) Qf)) Qf)))))
   (Qk (Zs (QB (YI hr.units) (Qv Zk (by rfl) T.b_len PySem.boot_len (Qb (EO.em (YG (X:=(cxOf CX0 P w K mg base XG "_law_rules" (Qe ZA) f cdv A outer s H E).nox) (N':=["rule","new"]) (nt:=1) (caps:=[10]) (ts:=[0]) (ns:=[0,1]) (ls:=[0]) rfl (Qas (N:=XG) (osc:=(Qe ZA)) rfl rfl (by decide +kernel)) (by decide) (QZ _) (Yx (Qa 3 (pv 3))) (fun _ _ _ _ _ _=>(QA (Qy (i:=0) (show (["rule","new"]:List Str).Nodup by decide +kernel) rfl (Or.inl rfl)))) (fun _ _ _ _ _ _=>(Qhu (Xg (Qx c__law_alike Qde (hr.mono (by decide)) (by rfl) (Qb (Qa 0 (pv 0)) (Qb (Qa 1 (pv 1)) Qf)))))) (fun _ _ _ _ _ _=>(Qa 0 (pv 0))))) Qf)) Qg (QC _)) (Qk (Qcg (i:=3) (pv 3) (Qa 10 (pv 10)) (Xl (Qbq PySem.F.plainAttrs_list PySem.F.slot_list_append PySem.F.type_list_append Yz (pv 3) (Xh (Qa 10 (pv 10))))))) QG)))))))
   (Qk (QaS 3 (pv 3)))))))
abbrev YU:Stmt:=top 40
def QdQ:List Str:=["script","size","names","guesses","rows","drawn","k","bane"]
theorem QgJ (T:Txt K mg) (c__law_draws:Cal P w K mg base 1 "_law_draws" 2 QK) (c__law_family:Cal P w K mg base 3 "_law_family" 2 QR) (c__law_cell_at:Cal P w K mg base 1 "_law_cell_at" 2 Ql) (c__law_rules:CalO P w K mg base 2 "_law_rules" 3 QY) (F:Fun K "_law_rows" "_law_rows" YU f fd):FnOk P w K mg base CX0 4 f fd ["script"] (spM K 1 Yn):=by
 have nd:QdQ.Nodup:=by decide +kernel
 refine fnM (N:=QdQ) (k:=3) F (by walk_at "s") rfl fun cdv A outer s H E hr=>?_
 exact (Qh (QJ (i:=1) nd rfl (Or.inl rfl) (Qu Za (Qx c__law_cell_at QD (hr.mono (by decide)) (by rfl) (Qb (Qa 0 (pv 0)) (Yy Qf))) Qg))
   (Qh (Zs (QB (YI hr.units) (Qu Za (Qu Qbj (Qx c__law_cell_at QD (hr.mono (by decide)) (by rfl) (Qb (Qa 0 (pv 0)) (Yy Qf))) Qg) Qg) Qg (QC _)) (Qk (QJ (i:=1) nd rfl (Or.inl rfl) Qg)) QG)
   (Qh (QJ (i:=2) nd rfl (Or.inl rfl) (Qx c__law_family QbB (hr.mono (by decide)) (by rfl) (Qb (Qx c__law_cell_at QD (hr.mono (by decide)) (by rfl) (Qb (Qa 0 (pv 0)) (Yy Qf))) (Qb (Qa 1 (pv 1)) Qf))))
   (Qh (QJ (i:=3) nd rfl (Or.inl rfl) (Qv (cm_min rfl) (by rfl) T.b_min (by kernel_rfl) (Qb (Qu Za (Qx c__law_cell_at QD (hr.mono (by decide)) (by rfl) (Qb (Qa 0 (pv 0)) (Yy Qf))) Qg) (Qb (Qv Zk (by rfl) T.b_len PySem.boot_len (Qb (Qa 2 (pv 2)) Qf)) Qf))))
   (Qh (Zi (i:=4) nd rfl (Or.inl rfl) (Yk Qf))
   (Qh (Zs (QB QhO (Qa 3 (pv 3)) (Qv Zk (by rfl) T.b_len PySem.boot_len (Qb (Qa 2 (pv 2)) Qf)) (QC _)) (Qk (Zi (i:=4) nd rfl (Or.inl rfl) (eo_cal c__law_rules Qcf (hr.mono (by decide)) (by rfl) (Qb (Qa 0 (pv 0)) (Qb (Qa 2 (pv 2)) (Qb (Qa 3 (pv 3)) Qf)))))) QG)
   (Qh (QJ (i:=5) nd rfl (Or.inl rfl) (Qx c__law_draws Xj (hr.mono (by decide)) (by rfl) (Qb (Qu Qbj (Qx c__law_cell_at QD (hr.mono (by decide)) (by rfl) (Qb (Qa 0 (pv 0)) (Yy Qf))) Qg) (Yy Qf))))
   (Qh (QaT PassesOwn.never rfl (YQ (by rfl) T.b_range (Qb (Qa 3 (pv 3)) Qf)) (QA (Qy (i:=6) nd rfl (Or.inl rfl))) (Qh (QJ (i:=7) nd rfl (Or.inl rfl) (Qo Qn (Qa 2 (pv 2)) (Qu Za (Qo Qn (Qa 5 (pv 5)) (Qa 6 (pv 6)) (fun _ _=>rfl)) (Qv Zk (by rfl) T.b_len PySem.boot_len (Qb (Qa 2 (pv 2)) Qf))) (fun _ _=>rfl)))
   (Qk (sm_ins2 (i:=4) (pv 4) (Xl (Qbq PySem.F.plainAttrs_list PySem.F.slot_list_insert PySem.F.type_list_insert QlT (pv 4) (ins_args (Qu Za (Qo Qn (Qa 5 (pv 5)) (Qu Zv Qg (Qa 6 (pv 6))) (fun _ _=>rfl)) (Qu Zv (Qv Zk (by rfl) T.b_len PySem.boot_len (Qb (Qa 4 (pv 4)) Qf)) Qg)) (Xw (Qb QS (Qb (Qo Qn (Qa 2 (pv 2)) (Qa 6 (pv 6)) (fun _ _=>rfl)) (Qb (Qa 7 (pv 7)) Qf)))))))))))
   (Qk (QaS 4 (pv 4)))))))))))
abbrev YT:Stmt:=top 44
def QdP:List Str:=["found","due","k"]
theorem Yu {k:Nat} {r:List PV→Option PV} (hl:∀ ps x,r ps=some x→ps.length=2) (T:Txt K mg) (c:Cal P w K mg base k "_law_same" 2 r) (F:Fun K "_law_same" "_law_same" YT f fd):FnOk P w K mg base CX0 (k + 1) f fd ["found","due"] (spM K 2 (runV 3 2 (Zb r))):=by
 have nd:QdP.Nodup:=by decide +kernel
 refine fnM (N:=QdP) (k:=k) F (by walk_at "s") rfl fun cdv A outer s H E hr=>?_
 exact (Qh (Zs (Xg (XN (x := "str") QkW (Qa 1 (pv 1)) (by rfl) T.b_isinstance (by rfl) T.b_str (by kernel_rfl))) (Qk (QF (QfM (XN (x := "str") QkW (Qa 0 (pv 0)) (by rfl) T.b_isinstance (by rfl) T.b_str (by kernel_rfl)) (Qhw (QfL (YI hr.units) (Qa 0 (pv 0)) (Qa 1 (pv 1)) (QC _)))))) QG)
   (Qh (Zs (Xg (XN (x := "int") QkX (Qa 1 (pv 1)) (by rfl) T.b_isinstance (by rfl) T.b_int (by kernel_rfl))) (Qk (QF (QfM (XN (x := "int") QkX (Qa 0 (pv 0)) (by rfl) T.b_isinstance (by rfl) T.b_int (by kernel_rfl)) (QfM (em_not (XN (x := "bool") isi_bl (Qa 0 (pv 0)) (by rfl) T.b_isinstance (by rfl) T.b_bool (by kernel_rfl))) (Qhw (QfL (YI hr.units) (Qa 0 (pv 0)) (Qa 1 (pv 1)) (QC _))))))) QG)
   (Qh (Zs (WM.tm (Qhx (Qhi (Xg (XN (x := "tuple") isi_tup (Qa 0 (pv 0)) (by rfl) T.b_isinstance (by rfl) T.b_tuple (by kernel_rfl)))) (QfA (QB (QjR hr.units) (Qv Zk (by rfl) T.b_len PySem.boot_len (Qb (Qa 0 (pv 0)) Qf)) (Qv Zk (by rfl) T.b_len PySem.boot_len (Qb (Qa 1 (pv 1)) Qf)) (QC _))))) (Qk (QF Qed)) QG)
   (Qh (QaT PassesOwn.never rfl (YQ (by rfl) T.b_range (Qb (Qv Zk (by rfl) T.b_len PySem.boot_len (Qb (Qa 1 (pv 1)) Qf)) Qf)) (QA (Qy (i:=2) nd rfl (Or.inl rfl))) (Qk (Zs (Qhi (Xg (Qx c hl (hr.mono (Nat.le_refl _)) (by rfl) (Qb (Qo Qn (Qa 0 (pv 0)) (Qa 2 (pv 2)) (fun _ _=>rfl)) (Qb (Qo Qn (Qa 1 (pv 1)) (Qa 2 (pv 2)) (fun _ _=>rfl)) Qf))))) (Qk (QF Qed)) QG)))
   (Qk (QF Qed))))))
abbrev YZ:Stmt:=top 14
def QbL:List Str:=["part"]
theorem Qjp (T:Txt K mg)  (F:Fun K "is_word" "is_word" YZ f fd):FnOk P w K mg base CX0 1 f fd ["part"] (spM K 1 ZK):=by
 refine fnM (N:=QbL) (k:=0) F (by walk_at "s") rfl fun cdv A outer s H E hr=>?_
 exact (Qh (Zs (WM.tm (Qhx (QB (Qmz hr.units) (Qa 0 (pv 0)) (em_gT (by rfl) T.g_NO_WORDS) (by with_unfolding_all rfl)) (QfA (Qhi (tm_chain om_le om_le Qg (Qv Zk (by rfl) T.b_len PySem.boot_len (Qb (Qa 0 (pv 0)) Qf)) (QjV (by rfl) T.g_MOST_LETTERS)))))) (Qk (QF Qed)) QG)
   (Qk (QF (Qv (cm_all rfl) (by rfl) T.b_all (by kernel_rfl) (Qb (EO.em (YG (X:=(cxOf CX0 P w K mg base QbL "is_word" (Qe YZ) f cdv A outer s H E).nox) (N':=["sign"]) (nt:=1) (caps:=[]) (ts:=[0]) (ns:=[]) (ls:=[0]) rfl (Qas (N:=QbL) (osc:=(Qe YZ)) rfl rfl (by decide +kernel)) (by decide) (QZ _) (im_str (Qa 0 (pv 0))) (fun _ _ _ _ _ _=>(QA (Qy (i:=0) (show (["sign"]:List Str).Nodup by decide +kernel) rfl (Or.inl rfl)))) (fun _ _ _ _ _ _=>Qab) (fun _ _ _ _ _ _=>(em_chain om_leS om_leS QS (Qa 0 (pv 0)) QS)))) Qf)))))
abbrev ZG:Stmt:=top 15
def Qbf:List Str:=["parts"]
theorem QdV (T:Txt K mg) (c_is_word:Cal P w K mg base 1 "is_word" 1 ZK) (F:Fun K "is_guess_row" "is_guess_row" ZG f fd):FnOk P w K mg base CX0 2 f fd ["parts"] (spM K 1 QI):=by
 refine fnM (N:=Qbf) (k:=1) F (by walk_at "s") rfl fun cdv A outer s H E hr=>?_
 exact (Qh (Zs (WM.tm (Qhx (QB (QjR hr.units) (Qv Zk (by rfl) T.b_len PySem.boot_len (Qb (Qa 0 (pv 0)) Qf)) Qg (QC _)) (Qhx (QB (QjR hr.units) (Qo Qn (Qa 0 (pv 0)) Qg (fun _ _=>rfl)) QS (QC _)) (QfA (QB (QjR hr.units) (Qo Qn (Qa 0 (pv 0)) Qg (fun _ _=>rfl)) QS (QC _)))))) (Qk (QF Qed)) QG)
   (Qk (QF (QfM (Qx c_is_word Xm (hr.mono (by decide)) (by rfl) (Qb (Qo Qn (Qa 0 (pv 0)) Qg (fun _ _=>rfl)) Qf)) (Qhw (Qx c_is_word Xm (hr.mono (by decide)) (by rfl) (Qb (Qo Qn (Qa 0 (pv 0)) Qg (fun _ _=>rfl)) Qf)))))))
abbrev Zo:Stmt:=top 16
def Xo:List Str:=["parts"]
theorem Qen (T:Txt K mg) (c_is_word:Cal P w K mg base 1 "is_word" 1 ZK) (F:Fun K "is_rule_row" "is_rule_row" Zo f fd):FnOk P w K mg base CX0 2 f fd ["parts"] (spM K 1 QO):=by
 refine fnM (N:=Xo) (k:=1) F (by walk_at "s") rfl fun cdv A outer s H E hr=>?_
 exact (Qh (Zs (QB (YI hr.units) (Qv Zk (by rfl) T.b_len PySem.boot_len (Qb (Qa 0 (pv 0)) Qf)) Qg (QC _)) (Qk (QF (Qx c_is_word Xm (hr.mono (by decide)) (by rfl) (Qb (Qo Qn (Qa 0 (pv 0)) Qg (fun _ _=>rfl)) Qf)))) QG)
   (Qh (Zs (WM.tm (Qhx (QB (YI hr.units) (Qv Zk (by rfl) T.b_len PySem.boot_len (Qb (Qa 0 (pv 0)) Qf)) Qg (QC _)) (QfA (QB (QjR hr.units) (Qo Qn (Qa 0 (pv 0)) Qg (fun _ _=>rfl)) QS (QC _))))) (Qk (QF Qed)) QG)
   (Qk (QF (Qv (cm_all rfl) (by rfl) T.b_all (by kernel_rfl) (Qb (EO.em (YG (X:=(cxOf CX0 P w K mg base Xo "is_rule_row" (Qe Zo) f cdv A outer s H E).nox) (N':=["part"]) (nt:=1) (caps:=[]) (ts:=[0]) (ns:=[]) (ls:=[0]) rfl (Qas (N:=Xo) (osc:=(Qe Zo)) rfl rfl (by decide +kernel)) (by decide) (QZ _) (Yx (EO.em (Qid QfF (EO.em (QfK (Qa 0 (pv 0)) QaV (XS Qg))) (EO.em (QfK (Qa 0 (pv 0)) (XS Qg) QaV))))) (fun _ _ _ _ _ _=>(QA (Qy (i:=0) (show (["part"]:List Str).Nodup by decide +kernel) rfl (Or.inl rfl)))) (fun _ _ _ _ _ _=>Qab) (fun _ _ _ _ _ _=>(Qx c_is_word Xm (hr.mono (by decide)) (by rfl) (Qb (Qa 0 (pv 0)) Qf))))) Qf))))))
abbrev Xr:Stmt:=top 17
def QeG:List Str:=["line","row","parts","body"]
theorem QhQ (T:Txt K mg) (c_is_guess_row:Cal P w K mg base 2 "is_guess_row" 1 QI) (c_is_rule_row:Cal P w K mg base 2 "is_rule_row" 1 QO) (F:FunD K "read_row" "read_row" Xr f fd 0):FnOk P w K mg base CX0 3 f fd ["line","row"] (spM K 2 Zj):=by
 have nd:QeG.Nodup:=by decide +kernel
 refine fnMD (N:=QeG) (k:=2) F (by walk_at "s") rfl fun cdv A outer s H E hr=>?_
 exact (Qh (Zi (i:=2) nd rfl (Or.inl rfl) (QiW (Qa 0 (pv 0)) (Xx Qf)))
   (Qh (Zs (Xg (Qx c_is_guess_row QbX (hr.mono (by decide)) (by rfl) (Qb (Qa 2 (pv 2)) Qf))) (Qk (QF (Xw (Qb QS (Qb (Qo Qn (Qa 2 (pv 2)) Qg (fun _ _=>rfl)) (Qb (Qo Qn (Qa 2 (pv 2)) Qg (fun _ _=>rfl)) Qf)))))) QG)
   (Qh (Zs (Qhi (Xg (Qx c_is_rule_row Qcr (hr.mono (by decide)) (by rfl) (Qb (Qa 2 (pv 2)) Qf)))) (Qk QhG) QG)
   (Qh (QJ (i:=3) nd rfl (Or.inl rfl) (ZE Ye (by rfl) T.b_tuple (by kernel_rfl) (Qb (EO.em (QfK (Qa 2 (pv 2)) (XS Qg) QaV)) Qf)))
   (Qh (Zs (QB QmA (Qv Zk (by rfl) T.b_len PySem.boot_len (Qb (Qa 3 (pv 3)) Qf)) (QjV (by rfl) T.g_MOST_IN_BODY) (QC _)) (Qk QhG) QG)
   (Qh (Zs (QB QhO (QjA rfl (by rfl) T.b_set (by rfl) T.b_len (Qb (Qa 3 (pv 3)) Qf)) (Qv Zk (by rfl) T.b_len PySem.boot_len (Qb (Qa 3 (pv 3)) Qf)) (QC _)) (Qk QhG) QG)
   (Qk (QF (Xw (Qb QS (Qb (Qo Qn (Qa 2 (pv 2)) Qg (fun _ _=>rfl)) (Qb (Qa 3 (pv 3)) Qf))))))))))))
abbrev YY:Stmt:=top 20
def QbK:List Str:=["rows","kind"]
theorem Qjo (T:Txt K mg)  (F:Fun K "of_kind" "of_kind" YY f fd):FnOk P w K mg base CX0 1 f fd ["rows","kind"] (spM K 2 QL):=by
 refine fnM (N:=QbK) (k:=0) F (by walk_at "s") rfl fun cdv A outer s H E hr=>?_
 exact (Qk (sm_retO (YG (X:=(cxOf CX0 P w K mg base QbK "of_kind" (Qe YY) f cdv A outer s H E).nox) (N':=["told","kind"]) (nt:=1) (caps:=[1]) (ts:=[0]) (ns:=([0]++[1])) (ls:=[0]) rfl (Qas (N:=QbK) (osc:=(Qe YY)) rfl rfl (by decide +kernel)) (by decide) (QZ _) (Yx (Qa 0 (pv 0))) (fun _ _ _ _ _ _=>(QA (Qy (i:=0) (show (["told","kind"]:List Str).Nodup by decide +kernel) rfl (Or.inl rfl)))) (fun _ _ _ _ _ _=>(Qhu (QB (YI (by exact hr.units)) (Qo Qn (Qa 0 (pv 0)) Qg (fun _ _=>rfl)) (Qa 1 (pv 1)) (QC _)))) (fun _ _ _ _ _ _=>(Qa 0 (pv 0))))))
abbrev Xq:Stmt:=top 21
def QeF:List Str:=["rows","words","told"]
theorem QhP (T:Txt K mg)  (F:Fun K "words_in" "words_in" Xq f fd):FnOk P w K mg base CX0 1 f fd ["rows"] (spM K 1 ZX):=by
 have nd:QeF.Nodup:=by decide +kernel
 refine fnM (N:=QeF) (k:=0) F (by walk_at "s") rfl fun cdv A outer s H E hr=>?_
 exact (Qh (Zi (i:=1) nd rfl (Or.inl rfl) (Yk Qf))
   (Qh (XE PassesOwn.never rfl (Yx (Qa 0 (pv 0))) (QA (Qy (i:=2) nd rfl (Or.inl rfl))) (Qh (Qcg (i:=1) (pv 1) (Qo Qn (Qa 2 (pv 2)) Qg (fun _ _=>rfl)) (Xl (Qbq PySem.F.plainAttrs_list PySem.F.slot_list_append PySem.F.type_list_append Yz (pv 1) (Xh (Qo Qn (Qa 2 (pv 2)) Qg (fun _ _=>rfl))))))
   (Qk (sm_exM (i:=1) (pv 1) (em_if (QB (YI hr.units) (Qo Qn (Qa 2 (pv 2)) Qg (fun _ _=>rfl)) QS (QC _)) (EO.em (Yk (Qb (Qo Qn (Qa 2 (pv 2)) Qg (fun _ _=>rfl)) Qf))) (Qo Qn (Qa 2 (pv 2)) Qg (fun _ _=>rfl))) (Xl (Qbq PySem.F.plainAttrs_list PySem.F.slot_list_extend PySem.F.type_list_extend mt_exM (pv 1) (Xh (em_if (QB (YI hr.units) (Qo Qn (Qa 2 (pv 2)) Qg (fun _ _=>rfl)) QS (QC _)) (EO.em (Yk (Qb (Qo Qn (Qa 2 (pv 2)) Qg (fun _ _=>rfl)) Qf))) (Qo Qn (Qa 2 (pv 2)) Qg (fun _ _=>rfl))))))))))
   (Qk (QaS 1 (pv 1)))))
abbrev ZY:Stmt:=top 22
def QbQ:List Str:=["rows"]
theorem Qem (T:Txt K mg) (c_of_kind:Cal P w K mg base 1 "of_kind" 2 QL) (c_words_in:Cal P w K mg base 1 "words_in" 1 ZX) (F:Fun K "over_bounds" "over_bounds" ZY f fd):FnOk P w K mg base CX0 2 f fd ["rows"] (spM K 1 Zp):=by
 refine fnM (N:=QbQ) (k:=1) F (by walk_at "s") rfl fun cdv A outer s H E hr=>?_
 exact (Qh (Zs (WM.tm (Qhx (QB QmA (Qv Zk (by rfl) T.b_len PySem.boot_len (Qb (Qx c_of_kind Ya (hr.mono (by decide)) (by rfl) (Qb (Qa 0 (pv 0)) (Xx Qf))) Qf)) (QjV (by rfl) T.g_MOST_GUESSES) (QC _)) (QfA (QB QmA (Qv Zk (by rfl) T.b_len PySem.boot_len (Qb (Qx c_of_kind Ya (hr.mono (by decide)) (by rfl) (Qb (Qa 0 (pv 0)) (Xx Qf))) Qf)) (QjV (by rfl) T.g_MOST_RULES) (QC _))))) (Qk (QF Qed)) QG)
   (Qk (QF (QfL QmA (Qie rfl (by rfl) T.b_set (by rfl) T.b_len (Qb (Qx c_words_in Qbc (hr.mono (by decide)) (by rfl) (Qb (Qa 0 (pv 0)) Qf)) Qf)) (QjV (by rfl) T.g_MOST_WORDS) (QC _)))))
abbrev YR:Stmt:=top 19
def QdN:List Str:=["told"]
theorem QgG (T:Txt K mg)  (F:Fun K "told_once" "told_once" YR f fd):FnOk P w K mg base CX0 1 f fd ["told"] (spM K 1 ZC):=by
 refine fnM (N:=QdN) (k:=0) F (by walk_at "s") rfl fun cdv A outer s H E hr=>?_
 exact (Qh (Zs (QB (YI hr.units) (Qo Qn (Qa 0 (pv 0)) Qg (fun _ _=>rfl)) QS (QC _)) (Qk (QF (Xw (Qb QS (Qb (Qo Qn (Qa 0 (pv 0)) Qg (fun _ _=>rfl)) Qf))))) QG)
   (Qk (QF (Xw (Qb QS (Qb (Qo Qn (Qa 0 (pv 0)) Qg (fun _ _=>rfl)) (Qb (ZE Ye (by rfl) T.b_tuple (by kernel_rfl) (Qb (EO.em (XA Qcn (by rfl) T.b_sorted (by kernel_rfl) (Qb (Qo Qn (Qa 0 (pv 0)) Qg (fun _ _=>rfl)) Qf))) Qf)) Qf)))))))
abbrev ZL:Stmt:=top 23
def XV:List Str:=["lines","rows","number","line","told"]
theorem QgH (T:Txt K mg) (c_read_row:CalD P w K mg base 3 "read_row" 2 0 Zj) (c_over_bounds:Cal P w K mg base 2 "over_bounds" 1 Zp) (c_told_once:Cal P w K mg base 1 "told_once" 1 ZC) (F:Fun K "read_rows" "read_rows" ZL f fd):FnOk P w K mg base CX0 4 f fd ["lines"] (spM K 1 Yl):=by
 have nd:XV.Nodup:=by decide +kernel
 refine fnM (N:=XV) (k:=3) F (by walk_at "s") rfl fun cdv A outer s H E hr=>?_
 exact (Qh (Zi (i:=1) nd rfl (Or.inl rfl) (Yk Qf))
   (Qh (XE PassesOwn.never rfl (QiQ rfl (by rfl) T.b_enumerate (Qb (Qa 0 (pv 0)) Qf)) (Qlb (pg_tup rfl (QcT (Qy (i:=2) nd rfl (Or.inl rfl)) (QcT (Qy (i:=3) nd rfl (Or.inl rfl)) QkI)))) (Qh (QJ (i:=4) nd rfl (Or.inl rfl) (Qx c_read_row.cal Qej (hr.mono (by decide)) (by rfl) (Qb (Qa 3 (pv 3)) (Qb (Qa 2 (pv 2)) Qf))))
   (Qh (Zs (QB (Qmz hr.units) (Qx c_told_once QaD (hr.mono (by decide)) (by rfl) (Qb (Qa 4 (pv 4)) Qf)) (EO.em (YG (X:=(cxOf CX0 P w K mg base XV "read_rows" (Qe ZL) f cdv A outer s H E).nox) (N':=["above"]) (nt:=1) (caps:=[]) (ts:=[0]) (ns:=[]) (ls:=[0]) rfl (Qas (N:=XV) (osc:=(Qe ZL)) rfl rfl (by decide +kernel)) (by decide) (QZ _) (Yx (Qa 1 (pv 1))) (fun _ _ _ _ _ _=>(QA (Qy (i:=0) (show (["above"]:List Str).Nodup by decide +kernel) rfl (Or.inl rfl)))) (fun _ _ _ _ _ _=>Qab) (fun _ _ _ _ _ _=>(Qx c_told_once QaD (hr.mono (by decide)) (by rfl) (Qb (Qa 0 (pv 0)) Qf))))) (by with_unfolding_all rfl)) (Qk QhG) QG)
   (Qh (Qcg (i:=1) (pv 1) (Qa 4 (pv 4)) (Xl (Qbq PySem.F.plainAttrs_list PySem.F.slot_list_append PySem.F.type_list_append Yz (pv 1) (Xh (Qa 4 (pv 4))))))
   (Qk (Zs (Xg (Qx c_over_bounds Qcq (hr.mono (by decide)) (by rfl) (Qb (Qa 1 (pv 1)) Qf))) (Qk QhG) QG))))))
   (Qk (QaS 1 (pv 1)))))
abbrev Ze:Stmt:=top 24
def Xz:List Str:=["rows","guesses","number","told"]
theorem Qdf (T:Txt K mg) (c_of_kind:Cal P w K mg base 1 "of_kind" 2 QL) (F:Fun K "refuse_headed" "refuse_headed" Ze f fd):FnOk P w K mg base CX0 2 f fd ["rows"] (spM K 1 Zf):=by
 have nd:Xz.Nodup:=by decide +kernel
 refine fnM (N:=Xz) (k:=1) F (by walk_at "s") rfl fun cdv A outer s H E hr=>?_
 exact (Qh (Qeq (i:=1) nd rfl rfl (N':=["told"]) (nt:=1) (caps:=[]) (ts:=[0]) (ns:=[]) (ls:=[0]) rfl (Qas (N:=Xz) (osc:=(Qe Ze)) rfl rfl (by decide +kernel)) (by decide) (QZ _) (Yx (Qx c_of_kind Ya (hr.mono (by decide)) (by rfl) (Qb (Qa 0 (pv 0)) (Xx Qf)))) (fun _ _ _ _ _ _=>(QA (Qy (i:=0) (show (["told"]:List Str).Nodup by decide +kernel) rfl (Or.inl rfl)))) (fun _ _ _ _ _ _=>Qab) (fun _ _ _ _ _ _=>(Qo Qn (Qa 0 (pv 0)) Qg (fun _ _=>rfl))))
   (Qk (XE PassesOwn.never rfl (QiQ rfl (by rfl) T.b_enumerate (Qb (Qa 0 (pv 0)) Qf)) (Qlb (pg_tup rfl (QcT (Qy (i:=2) nd rfl (Or.inl rfl)) (QcT (Qy (i:=3) nd rfl (Or.inl rfl)) QkI)))) (Qk (Zs (WM.tm (QjZ (QB (YI hr.units) (Qo Qn (Qa 3 (pv 3)) Qg (fun _ _=>rfl)) QS (QC _)) (QgR (QB (Qmz hr.units) (Qo Qn (Qa 3 (pv 3)) Qg (fun _ _=>rfl)) (Qa 1 (pv 1)) (by with_unfolding_all rfl))))) (Qk QhG) QG)))))
abbrev YL:Stmt:=top 25
def Qcp:List Str:=["rows","guesses"]
theorem QhR (T:Txt K mg) (c_of_kind:Cal P w K mg base 1 "of_kind" 2 QL) (c_words_in:Cal P w K mg base 1 "words_in" 1 ZX) (F:Fun K "names_of" "names_of" YL f fd):FnOk P w K mg base CX0 2 f fd ["rows"] (spM K 1 YN):=by
 have nd:Qcp.Nodup:=by decide +kernel
 refine fnM (N:=Qcp) (k:=1) F (by walk_at "s") rfl fun cdv A outer s H E hr=>?_
 exact (Qh (Qeq (i:=1) nd rfl rfl (N':=["told"]) (nt:=1) (caps:=[]) (ts:=[0]) (ns:=[]) (ls:=[0]) rfl (Qas (N:=Qcp) (osc:=(Qe YL)) rfl rfl (by decide +kernel)) (by decide) (QZ _) (Yx (Qx c_of_kind Ya (hr.mono (by decide)) (by rfl) (Qb (Qa 0 (pv 0)) (Xx Qf)))) (fun _ _ _ _ _ _=>(QA (Qy (i:=0) (show (["told"]:List Str).Nodup by decide +kernel) rfl (Or.inl rfl)))) (fun _ _ _ _ _ _=>Qab) (fun _ _ _ _ _ _=>(Qo Qn (Qa 0 (pv 0)) Qg (fun _ _=>rfl))))
   (Qk (QF (ZE Ye (by rfl) T.b_tuple (by kernel_rfl) (Qb (EO.em (Qid QfF (EO.em (XA Qap (by rfl) T.b_sorted (by kernel_rfl) (Qb (Qa 1 (pv 1)) Qf))) (EO.em (Qic rfl (by rfl) T.b_set (by rfl) T.b_sorted (Qb (Qx c_words_in Qbc (hr.mono (by decide)) (by rfl) (Qb (Qa 0 (pv 0)) Qf)) Qf) (Qb (Qa 1 (pv 1)) Qf))))) Qf)))))
abbrev QQ:Stmt:=top 26
def YF:List Str:=["names","told","body"]
theorem Qdg (T:Txt K mg)  (F:Fun K "numbered_rule" "numbered_rule" QQ f fd):FnOk P w K mg base CX0 1 f fd ["names","told"] (spM K 2 Zg):=by
 have nd:YF.Nodup:=by decide +kernel
 refine fnM (N:=YF) (k:=0) F (by walk_at "s") rfl fun cdv A outer s H E hr=>?_
 exact (Qh (Zi (i:=2) nd rfl (Or.inl rfl) (XA Qap (by rfl) T.b_sorted (by kernel_rfl) (Qb (EO.em (YG (X:=(cxOf CX0 P w K mg base YF "numbered_rule" (Qe QQ) f cdv A outer s H E).nox) (N':=["word","names"]) (nt:=1) (caps:=[0]) (ts:=[0]) (ns:=[]) (ls:=[1,0]) rfl (Qas (N:=YF) (osc:=(Qe QQ)) rfl rfl (by decide +kernel)) (by decide) (QZ _) (im_seq (Qo Qn (Qa 1 (pv 1)) Qg (fun _ _=>rfl))) (fun _ _ _ _ _ _=>(QA (Qy (i:=0) (show (["word","names"]:List Str).Nodup by decide +kernel) rfl (Or.inl rfl)))) (fun _ _ _ _ _ _=>Qab) (fun _ _ _ _ _ _=>(QdA (Qa 1 (pv 1)) (Qb (Qa 0 (pv 0)) Qf))))) Qf)))
   (Qk (QF (Xw (Qb (QdA (Qa 0 (pv 0)) (Qb (Qo Qn (Qa 1 (pv 1)) Qg (fun _ _=>rfl)) Qf)) (Qb (ZE Ye (by rfl) T.b_tuple (by kernel_rfl) (Qb (Qa 2 (pv 2)) Qf)) Qf))))))
abbrev QE:Stmt:=top 27
def Zw:List Str:=["names","rows","guesses","banes","rules"]
theorem Qdh (T:Txt K mg) (c_of_kind:Cal P w K mg base 1 "of_kind" 2 QL) (c_numbered_rule:Cal P w K mg base 1 "numbered_rule" 2 Zg) (F:Fun K "numbered_book" "numbered_book" QE f fd):FnOk P w K mg base CX0 2 f fd ["names","rows"] (spM K 2 Zh):=by
 have nd:Zw.Nodup:=by decide +kernel
 refine fnM (N:=Zw) (k:=1) F (by walk_at "s") rfl fun cdv A outer s H E hr=>?_
 exact (Qh (Zi (i:=2) nd rfl (Or.inl rfl) (XA Qim (by rfl) T.b_sorted (by kernel_rfl) (Qb (Qx c_of_kind Ya (hr.mono (by decide)) (by rfl) (Qb (Qa 1 (pv 1)) (Xx Qf))) Qf)))
   (Qh (QJ (i:=3) nd rfl (Or.inl rfl) (ZE Ye (by rfl) T.b_tuple (by kernel_rfl) (Qb (EO.em (YG (X:=(cxOf CX0 P w K mg base Zw "numbered_book" (Qe QE) f cdv A outer s H E).nox) (N':=["told","names"]) (nt:=1) (caps:=[0]) (ts:=[0]) (ns:=[]) (ls:=[1,0]) rfl (Qas (N:=Zw) (osc:=(Qe QE)) rfl rfl (by decide +kernel)) (by decide) (QZ _) (Yx (Qa 2 (pv 2))) (fun _ _ _ _ _ _=>(QA (Qy (i:=0) (show (["told","names"]:List Str).Nodup by decide +kernel) rfl (Or.inl rfl)))) (fun _ _ _ _ _ _=>Qab) (fun _ _ _ _ _ _=>(QdA (Qa 1 (pv 1)) (Qb (Qo Qn (Qa 0 (pv 0)) Qg (fun _ _=>rfl)) Qf))))) Qf)))
   (Qh (QJ (i:=4) nd rfl (Or.inl rfl) (ZE Ye (by rfl) T.b_tuple (by kernel_rfl) (Qb (EO.em (YG (X:=(cxOf CX0 P w K mg base Zw "numbered_book" (Qe QE) f cdv A outer s H E).nox) (N':=["told","names"]) (nt:=1) (caps:=[0]) (ts:=[0]) (ns:=[]) (ls:=[1,0]) rfl (Qas (N:=Zw) (osc:=(Qe QE)) rfl rfl (by decide +kernel)) (by decide) (QZ _) (Yx (Qx c_of_kind Ya (hr.mono (by decide)) (by rfl) (Qb (Qa 1 (pv 1)) (Xx Qf)))) (fun _ _ _ _ _ _=>(QA (Qy (i:=0) (show (["told","names"]:List Str).Nodup by decide +kernel) rfl (Or.inl rfl)))) (fun _ _ _ _ _ _=>Qab) (fun _ _ _ _ _ _=>(Qx c_numbered_rule Qbz (hr.mono (by decide)) (by rfl) (Qb (Qa 1 (pv 1)) (Qb (Qa 0 (pv 0)) Qf)))))) Qf)))
   (Qk (QF (Xw (Qb (Qv Zk (by rfl) T.b_len PySem.boot_len (Qb (Qa 0 (pv 0)) Qf)) (Qb (Qa 3 (pv 3)) (Qb (Qa 4 (pv 4)) Qf)))))))))
abbrev Yq:Stmt:=top 28
def QcH:List Str:=["lines","rows","names"]
theorem Qft (T:Txt K mg) (c_read_rows:Cal P w K mg base 4 "read_rows" 1 Yl) (c_refuse_headed:Cal P w K mg base 2 "refuse_headed" 1 Zf) (c_names_of:Cal P w K mg base 2 "names_of" 1 YN) (c_numbered_book:Cal P w K mg base 2 "numbered_book" 2 Zh) (F:Fun K "read_lines" "read_lines" Yq f fd):FnOk P w K mg base CX0 5 f fd ["lines"] (spM K 1 ZN):=by
 have nd:QcH.Nodup:=by decide +kernel
 refine fnM (N:=QcH) (k:=4) F (by walk_at "s") rfl fun cdv A outer s H E hr=>?_
 exact (Qh (QJ (i:=1) nd rfl (Or.inl rfl) (Qx c_read_rows QdS (hr.mono (by decide)) (by rfl) (Qb (Qa 0 (pv 0)) Qf)))
   (Qh (sm_exE (Qx c_refuse_headed Qby (hr.mono (by decide)) (by rfl) (Qb (Qa 1 (pv 1)) Qf)))
   (Qh (QJ (i:=2) nd rfl (Or.inl rfl) (Qx c_names_of Qek (hr.mono (by decide)) (by rfl) (Qb (Qa 1 (pv 1)) Qf)))
   (Qk (QF (Xw (Qb (Qa 2 (pv 2)) (Qb (Qx c_numbered_book QbA (hr.mono (by decide)) (by rfl) (Qb (Qa 2 (pv 2)) (Qb (Qa 1 (pv 1)) Qf))) Qf))))))))
abbrev Xs:Stmt:=top 18
def QeH:List Str:=["text"]
theorem QhS (T:Txt K mg)  (F:Fun K "lines_of" "lines_of" Xs f fd):FnOk P w K mg base CX0 1 f fd ["text"] (spM K 1 YO):=by
 refine fnM (N:=QeH) (k:=0) F (by walk_at "s") rfl fun cdv A outer s H E hr=>?_
 exact (Qk (QF (em_if (Xg (Qa 0 (pv 0))) (EO.em (QiW (Qa 0 (pv 0)) (Xx Qf))) (EO.em (Yk Qf)))))
abbrev YS:Stmt:=top 29
def QdO:List Str:=["text"]
theorem QgI (T:Txt K mg) (c_read_lines:Cal P w K mg base 5 "read_lines" 1 ZN) (c_lines_of:Cal P w K mg base 1 "lines_of" 1 YO) (F:Fun K "read_book" "read_book" YS f fd):FnOk P w K mg base CX0 6 f fd ["text"] (spM K 1 Ym):=by
 refine fnM (N:=QdO) (k:=5) F (by walk_at "s") rfl fun cdv A outer s H E hr=>?_
 exact (Qk (QF (Qx c_read_lines Qdc (hr.mono (by decide)) (by rfl) (Qb (Qx c_lines_of Qel (hr.mono (by decide)) (by rfl) (Qb (Qa 0 (pv 0)) Qf)) Qf))))
abbrev QH:Stmt:=top 42
def ZJ:List Str:=["rows","first","other","row","words","word","numbers"]
theorem QdW (T:Txt K mg)  (F:Fun K "_law_numbers" "_law_numbers" QH f fd):FnOk P w K mg base CX0 1 f fd ["rows"] (spM K 1 QU):=by
 have nd:ZJ.Nodup:=by decide +kernel
 refine fnM (N:=ZJ) (k:=0) F (by walk_at "s") rfl fun cdv A outer s H E hr=>?_
 exact (Qh (QgT (i:=1) nd rfl (Or.inl rfl))
   (Qh (QgT (i:=2) nd rfl (Or.inl rfl))
   (Qh (XE PassesOwn.never rfl (Yx (Qa 0 (pv 0))) (QA (Qy (i:=3) nd rfl (Or.inl rfl))) (Qk (Zs (QB (YI hr.units) (Qo Qn (Qa 3 (pv 3)) Qg (fun _ _=>rfl)) QS (QC _)) (Qk (QeJ (i:=1) hr.units (pv 1) (Qo Qn (Qa 3 (pv 3)) Qg (fun _ _=>rfl)) Qed)) QG)))
   (Qh (XE PassesOwn.never rfl (Yx (Qa 0 (pv 0))) (QA (Qy (i:=3) nd rfl (Or.inl rfl))) (Qh (Zi (i:=4) nd rfl (Or.inl rfl) (Yk (Qb (Qo Qn (Qa 3 (pv 3)) Qg (fun _ _=>rfl)) (Qb (Qo Qn (Qa 3 (pv 3)) Qg (fun _ _=>rfl)) Qf))))
   (Qh (Zs (QB (YI hr.units) (Qo Qn (Qa 3 (pv 3)) Qg (fun _ _=>rfl)) QS (QC _)) (Qk (Zi (i:=4) nd rfl (Or.inl rfl) (Qid QfF (EO.em (Yk (Qb (Qo Qn (Qa 3 (pv 3)) Qg (fun _ _=>rfl)) Qf))) (EO.em (Qgm co_list (by rfl) T.b_list (by kernel_rfl) (Qb (Qo Qn (Qa 3 (pv 3)) Qg (fun _ _=>rfl)) Qf)))))) QG)
   (Qk (XE PassesOwn.never rfl (Yx (Qa 4 (pv 4))) (QA (Qy (i:=5) nd rfl (Or.inr rfl))) (Qk (Zs (QB (QlR hr.units) (Qa 5 (pv 5)) (Qa 1 (pv 1)) (by with_unfolding_all rfl)) (Qk (QeJ (i:=2) hr.units (pv 2) (Qa 5 (pv 5)) Qed)) QG)))))))
   (Qh (QgT (i:=6) nd rfl (Or.inl rfl))
   (Qh (QcR 1 (XE PassesOwn.never rfl (Qdl (Qa 1 (pv 1))) (QA (Qy (i:=5) nd rfl (Or.inr rfl))) (Qk (QeJ (i:=6) hr.units (pv 6) (Qa 5 (pv 5)) (Qv Zk (by rfl) T.b_len PySem.boot_len (Qb (EO.em (YG (X:=(cxOf CX0 P w K mg base ZJ "_law_numbers" (Qe QH) f cdv A outer s H E).nox) (N':=["one","word"]) (nt:=1) (caps:=[5]) (ts:=[0]) (ns:=([0]++[1])) (ls:=[0]) rfl (Qas (N:=ZJ) (osc:=(Qe QH)) rfl rfl (by decide +kernel)) (by decide) (QZ _) (Qdl (Qa 1 (pv 1))) (fun _ _ _ _ _ _=>(QA (Qy (i:=0) (show (["one","word"]:List Str).Nodup by decide +kernel) rfl (Or.inl rfl)))) (fun _ _ _ _ _ _=>(Qhu (QB om_ltS (Qa 0 (pv 0)) (Qa 1 (pv 1)) (QC _)))) (fun _ _ _ _ _ _=>(Qa 0 (pv 0))))) Qf))))))
   (Qh (QcR 2 (XE PassesOwn.never rfl (Qdl (Qa 2 (pv 2))) (QA (Qy (i:=5) nd rfl (Or.inr rfl))) (Qk (QeJ (i:=6) hr.units (pv 6) (Qa 5 (pv 5)) (Qu Zv (Qv Qlp (by rfl) T.b_len PySem.boot_len (Qb (Qa 1 (pv 1)) Qf)) (Qv Zk (by rfl) T.b_len PySem.boot_len (Qb (EO.em (YG (X:=(cxOf CX0 P w K mg base ZJ "_law_numbers" (Qe QH) f cdv A outer s H E).nox) (N':=["one","word"]) (nt:=1) (caps:=[5]) (ts:=[0]) (ns:=([0]++[1])) (ls:=[0]) rfl (Qas (N:=ZJ) (osc:=(Qe QH)) rfl rfl (by decide +kernel)) (by decide) (QZ _) (Qdl (Qa 2 (pv 2))) (fun _ _ _ _ _ _=>(QA (Qy (i:=0) (show (["one","word"]:List Str).Nodup by decide +kernel) rfl (Or.inl rfl)))) (fun _ _ _ _ _ _=>(Qhu (QB om_ltS (Qa 0 (pv 0)) (Qa 1 (pv 1)) (QC _)))) (fun _ _ _ _ _ _=>(Qa 0 (pv 0))))) Qf)))))))
   (Qk (QcR 6 (QF (Qa 6 (pv 6))))))))))))
abbrev ZF:Stmt:=top 43
def Xt:List Str:=["rows","numbers","names","word","banes","name","row","rules"]
theorem QhT (T:Txt K mg) (c__law_numbers:Cal P w K mg base 1 "_law_numbers" 1 QU) (F:Fun K "_law_due" "_law_due" ZF f fd):FnOk P w K mg base CX0 2 f fd ["rows"] (spM K 1 ZO):=by
 have nd:Xt.Nodup:=by decide +kernel
 refine fnM (N:=Xt) (k:=1) F (by walk_at "s") rfl fun cdv A outer s H E hr=>?_
 exact (Qh (QJ (i:=1) nd rfl (Or.inr rfl) (Qx c__law_numbers QaZ (hr.mono (by decide)) (by rfl) (Qb (Qa 0 (pv 0)) Qf)))
   (Qh (Zi (i:=2) nd rfl (Or.inl rfl) (Qid oo_rep (EO.em (Yk (Xx Qf))) (Qv Qlp (by rfl) T.b_len PySem.boot_len (Qb (Qa 1 (pv 1)) Qf))))
   (Qh (QcR 1 (XE PassesOwn.never rfl (Qdl (Qa 1 (pv 1))) (QA (Qy (i:=3) nd rfl (Or.inl rfl))) (Qk (QeW (i:=2) (pv 2) (Qa 3 (pv 3)) (QaX hr.units (Qa 1 (pv 1)) (Qa 3 (pv 3)) (fun _ _=>rfl))))))
   (Qh (Zi (i:=4) nd rfl (Or.inl rfl) (Yk Qf))
   (Qh (XE PassesOwn.never rfl (Yx (Qa 2 (pv 2))) (QA (Qy (i:=5) nd rfl (Or.inl rfl))) (Qk (XE PassesOwn.never rfl (Yx (Qa 0 (pv 0))) (QA (Qy (i:=6) nd rfl (Or.inl rfl))) (Qk (Zs (WM.tm (QjZ (QB (YI hr.units) (Qo Qn (Qa 6 (pv 6)) Qg (fun _ _=>rfl)) QS (QC _)) (QgR (QB (YI hr.units) (Qo Qn (Qa 6 (pv 6)) Qg (fun _ _=>rfl)) (Qa 5 (pv 5)) (QC _))))) (Qk (Qcg (i:=4) (pv 4) (QaX hr.units (Qa 1 (pv 1)) (Qo Qn (Qa 6 (pv 6)) Qg (fun _ _=>rfl)) (fun _ _=>rfl)) (Xl (Qbq PySem.F.plainAttrs_list PySem.F.slot_list_append PySem.F.type_list_append Yz (pv 4) (Xh (QaX hr.units (Qa 1 (pv 1)) (Qo Qn (Qa 6 (pv 6)) Qg (fun _ _=>rfl)) (fun _ _=>rfl))))))) QG)))))
   (Qh (Zi (i:=7) nd rfl (Or.inl rfl) (Yk Qf))
   (Qh (XE PassesOwn.never rfl (Yx (Qa 0 (pv 0))) (QA (Qy (i:=6) nd rfl (Or.inl rfl))) (Qk (Zs (QB (YI hr.units) (Qo Qn (Qa 6 (pv 6)) Qg (fun _ _=>rfl)) QS (QC _)) (Qk (Qcg (i:=7) (pv 7) (Xw (Qb (QaX hr.units (Qa 1 (pv 1)) (Qo Qn (Qa 6 (pv 6)) Qg (fun _ _=>rfl)) (fun _ _=>rfl)) (Qb (ZE Ye (by rfl) T.b_tuple (by kernel_rfl) (Qb (EO.em (XA Qap (by rfl) T.b_sorted (by kernel_rfl) (Qb (EO.em (YG (X:=(cxOf CX0 P w K mg base Xt "_law_due" (Qe ZF) f cdv A outer s H E).nox) (N':=["word","numbers"]) (nt:=1) (caps:=[1]) (ts:=[0]) (ns:=[]) (ls:=[1,0]) rfl (Qas (N:=Xt) (osc:=(Qe ZF)) rfl rfl (by decide +kernel)) (by decide) (QZ _) (Qkk (Qo Qn (Qa 6 (pv 6)) Qg (fun _ _=>rfl))) (fun _ _ _ _ _ _=>(QA (Qy (i:=0) (show (["word","numbers"]:List Str).Nodup by decide +kernel) rfl (Or.inl rfl)))) (fun _ _ _ _ _ _=>Qab) (fun _ _ _ _ _ _=>(QaX (by exact hr.units) (Qa 1 (pv 1)) (Qa 0 (pv 0)) (fun _ _=>rfl))))) Qf))) Qf)) Qf))) (Xl (Qbq PySem.F.plainAttrs_list PySem.F.slot_list_append PySem.F.type_list_append Yz (pv 7) (Xh (Xw (Qb (QaX hr.units (Qa 1 (pv 1)) (Qo Qn (Qa 6 (pv 6)) Qg (fun _ _=>rfl)) (fun _ _=>rfl)) (Qb (ZE Ye (by rfl) T.b_tuple (by kernel_rfl) (Qb (EO.em (XA Qap (by rfl) T.b_sorted (by kernel_rfl) (Qb (EO.em (YG (X:=(cxOf CX0 P w K mg base Xt "_law_due" (Qe ZF) f cdv A outer s H E).nox) (N':=["word","numbers"]) (nt:=1) (caps:=[1]) (ts:=[0]) (ns:=[]) (ls:=[1,0]) rfl (Qas (N:=Xt) (osc:=(Qe ZF)) rfl rfl (by decide +kernel)) (by decide) (QZ _) (Qkk (Qo Qn (Qa 6 (pv 6)) Qg (fun _ _=>rfl))) (fun _ _ _ _ _ _=>(QA (Qy (i:=0) (show (["word","numbers"]:List Str).Nodup by decide +kernel) rfl (Or.inl rfl)))) (fun _ _ _ _ _ _=>Qab) (fun _ _ _ _ _ _=>(QaX (by exact hr.units) (Qa 1 (pv 1)) (Qa 0 (pv 0)) (fun _ _=>rfl))))) Qf))) Qf)) Qf)))))))) QG)))
   (Qk (QF (Xw (Qb (ZE Ye (by rfl) T.b_tuple (by kernel_rfl) (Qb (Qa 2 (pv 2)) Qf)) (Qb (Xw (Qb (Qv Zk (by rfl) T.b_len PySem.boot_len (Qb (Qa 2 (pv 2)) Qf)) (Qb (ZE Ye (by rfl) T.b_tuple (by kernel_rfl) (Qb (Qa 4 (pv 4)) Qf)) (Qb (ZE Ye (by rfl) T.b_tuple (by kernel_rfl) (Qb (Qa 7 (pv 7)) Qf)) Qf)))) Qf))))))))))))
abbrev YV:Stmt:=top 41
def QdR:List Str:=["row"]
theorem QgK (T:Txt K mg)  (F:Fun K "_law_line" "_law_line" YV f fd):FnOk P w K mg base CX0 1 f fd ["row"] (spM K 1 Zq):=by
 refine fnM (N:=QdR) (k:=0) F (by walk_at "s") rfl fun cdv A outer s H E hr=>?_
 exact (Qh (Zs (QB (YI hr.units) (Qo Qn (Qa 0 (pv 0)) Qg (fun _ _=>rfl)) QS (QC _)) (Qk (QF (Qu Zv (Qu Zv (Qu Zv QS (Qo Qn (Qa 0 (pv 0)) Qg (fun _ _=>rfl))) QS) (Qo Qn (Qa 0 (pv 0)) Qg (fun _ _=>rfl))))) QG)
   (Qh (Zs (QB (YI hr.units) (Qv Zk (by rfl) T.b_len PySem.boot_len (Qb (Qo Qn (Qa 0 (pv 0)) Qg (fun _ _=>rfl)) Qf)) Qg (QC _)) (Qk (QF (Qo Qn (Qa 0 (pv 0)) Qg (fun _ _=>rfl)))) QG)
   (Qk (QF (Qu Zv (Qu Zv (Qo Qn (Qa 0 (pv 0)) Qg (fun _ _=>rfl)) QS) (em_joinT QS (Qb (Qo Qn (Qa 0 (pv 0)) Qg (fun _ _=>rfl)) Qf)))))))
abbrev Qcw:Stmt:=top 45
def QmF:List Str:=["script","rows","text"]
theorem ok_law (T:Txt K mg) (c__law_rows:Cal P w K mg base 4 "_law_rows" 1 Yn) (c__law_same_L6:Cal P w K mg base 6 "_law_same" 2 ZI) (c_read_book:Cal P w K mg base 6 "read_book" 1 Ym) (c__law_due:Cal P w K mg base 2 "_law_due" 1 ZO) (c__law_line:Cal P w K mg base 1 "_law_line" 1 Zq) (F:Fun K "law" "law" Qcw f fd):FnOk P w K mg base CX0 7 f fd ["script"] (spM K 1 Xa):=by
 have nd:QmF.Nodup:=by decide +kernel
 refine fnM (N:=QmF) (k:=6) F (by walk_at "s") rfl fun cdv A outer s H E hr=>?_
 exact (Qh (QJ (i:=1) nd rfl (Or.inl rfl) (Qx c__law_rows QdU (hr.mono (by decide)) (by rfl) (Qb (Qa 0 (pv 0)) Qf)))
   (Qh (QJ (i:=2) nd rfl (Or.inl rfl) (Qli QS (Qb (EO.em (YG (X:=(cxOf CX0 P w K mg base QmF "law" (Qe Qcw) f cdv A outer s H E).nox) (N':=["row"]) (nt:=1) (caps:=[]) (ts:=[0]) (ns:=[]) (ls:=[0]) rfl (Qas (N:=QmF) (osc:=(Qe Qcw)) rfl rfl (by decide +kernel)) (by decide) (QZ _) (Yx (Qa 1 (pv 1))) (fun _ _ _ _ _ _=>(QA (Qy (i:=0) (show (["row"]:List Str).Nodup by decide +kernel) rfl (Or.inl rfl)))) (fun _ _ _ _ _ _=>Qab) (fun _ _ _ _ _ _=>(Qx c__law_line Qcs (hr.mono (by decide)) (by rfl) (Qb (Qa 0 (pv 0)) Qf))))) Qf)))
   (Qk (QF (Qx c__law_same_L6 QbY (hr.mono (by decide)) (by rfl) (Qb (Qx c_read_book QdT (hr.mono (by decide)) (by rfl) (Qb (Qa 2 (pv 2)) Qf)) (Qb (Qx c__law_due Qdd (hr.mono (by decide)) (by rfl) (Qb (Qa 1 (pv 1)) Qf)) Qf)))))))
theorem all_mk {l:PySem.W.OpenLaw} {w:World} {K:PySem.W.Frag} {h:Heap} {mg:Str→Option Value} {fa:Addr} (X:K.In h) (G:h.Ns mainGlobals mg) (hfa:mg "law"=some (.ref fa))
  {f0:Addr} {od0 an0:Option Addr} {sl0:Array (Option Value)} {oc0 kV0 dc0 pm0 cd0 ct0:Value}
  {f1:Addr} {od1 an1:Option Addr} {sl1:Array (Option Value)} {oc1 kV1 dc1 pm1 cd1 ct1:Value}
  {f2:Addr} {od2 an2:Option Addr} {sl2:Array (Option Value)} {oc2 kV2 dc2 pm2 cd2 ct2:Value}
  {f3:Addr} {od3 an3:Option Addr} {sl3:Array (Option Value)} {oc3 kV3 dc3 pm3 cd3 ct3:Value}
  {f4:Addr} {od4 an4:Option Addr} {sl4:Array (Option Value)} {oc4 kV4 dc4 pm4 cd4 ct4:Value}
  {f5:Addr} {od5 an5:Option Addr} {sl5:Array (Option Value)} {oc5 kV5 dc5 pm5 cd5 ct5:Value}
  {f6:Addr} {od6 an6:Option Addr} {sl6:Array (Option Value)} {oc6 kV6 dc6 pm6 cd6 ct6:Value}
  {f7:Addr} {od7 an7:Option Addr} {sl7:Array (Option Value)} {oc7 kV7 dc7 pm7 cd7 ct7:Value}
  {f8:Addr} {od8 an8:Option Addr} {sl8:Array (Option Value)} {oc8 kV8 dc8 pm8 cd8 ct8:Value}
  {f9:Addr} {od9 an9:Option Addr} {sl9:Array (Option Value)} {oc9 kV9 dc9 pm9 cd9 ct9:Value}
  {f10:Addr} {od10 an10:Option Addr} {sl10:Array (Option Value)} {oc10 kV10 dc10 pm10 cd10 ct10:Value}
  {f17:Addr} {od17 an17:Option Addr} {sl17:Array (Option Value)} {oc17 kV17 dc17 pm17 cd17 ct17:Value}
  {f18:Addr} {od18 an18:Option Addr} {sl18:Array (Option Value)} {oc18 kV18 dc18 pm18 cd18 ct18:Value}
  {f19:Addr} {od19 an19:Option Addr} {sl19:Array (Option Value)} {oc19 kV19 dc19 pm19 cd19 ct19:Value}
  {f20:Addr} {od20 an20:Option Addr} {sl20:Array (Option Value)} {oc20 kV20 dc20 pm20 cd20 ct20:Value} {T20:Addr} {tc20:Value} {td20:Option Addr} {ts20:Array (Option Value)} {tk20:Tok} {tn20:Nat}
  {f21:Addr} {od21 an21:Option Addr} {sl21:Array (Option Value)} {oc21 kV21 dc21 pm21 cd21 ct21:Value}
  {f22:Addr} {od22 an22:Option Addr} {sl22:Array (Option Value)} {oc22 kV22 dc22 pm22 cd22 ct22:Value}
  {f23:Addr} {od23 an23:Option Addr} {sl23:Array (Option Value)} {oc23 kV23 dc23 pm23 cd23 ct23:Value}
  {f24:Addr} {od24 an24:Option Addr} {sl24:Array (Option Value)} {oc24 kV24 dc24 pm24 cd24 ct24:Value}
  {f25:Addr} {od25 an25:Option Addr} {sl25:Array (Option Value)} {oc25 kV25 dc25 pm25 cd25 ct25:Value}
  {f26:Addr} {od26 an26:Option Addr} {sl26:Array (Option Value)} {oc26 kV26 dc26 pm26 cd26 ct26:Value}
  {f27:Addr} {od27 an27:Option Addr} {sl27:Array (Option Value)} {oc27 kV27 dc27 pm27 cd27 ct27:Value}
  {f28:Addr} {od28 an28:Option Addr} {sl28:Array (Option Value)} {oc28 kV28 dc28 pm28 cd28 ct28:Value}
  {f29:Addr} {od29 an29:Option Addr} {sl29:Array (Option Value)} {oc29 kV29 dc29 pm29 cd29 ct29:Value}
  {f30:Addr} {od30 an30:Option Addr} {sl30:Array (Option Value)} {oc30 kV30 dc30 pm30 cd30 ct30:Value}
  {f31:Addr} {od31 an31:Option Addr} {sl31:Array (Option Value)} {oc31 kV31 dc31 pm31 cd31 ct31:Value}
  {f32:Addr} {od32 an32:Option Addr} {sl32:Array (Option Value)} {oc32 kV32 dc32 pm32 cd32 ct32:Value}
  {f33:Addr} {od33 an33:Option Addr} {sl33:Array (Option Value)} {oc33 kV33 dc33 pm33 cd33 ct33:Value}
  {f34:Addr} {od34 an34:Option Addr} {sl34:Array (Option Value)} {oc34 kV34 dc34 pm34 cd34 ct34:Value}
  {f35:Addr} {od35 an35:Option Addr} {sl35:Array (Option Value)} {oc35 kV35 dc35 pm35 cd35 ct35:Value}
  {f36:Addr} {od36 an36:Option Addr} {sl36:Array (Option Value)} {oc36 kV36 dc36 pm36 cd36 ct36:Value}
  {gt_MOST_GUESSES:Tok}
  {gt_MOST_IN_BODY:Tok}
  {gt_MOST_LETTERS:Tok}
  {gt_MOST_RULES:Tok}
  {gt_MOST_WORDS:Tok}
  {ga_NO_WORDS:Addr} {gs_NO_WORDS:Array (Option Value)} {gn_NO_WORDS:Nat} {gk0_NO_WORDS:Tok} {gk1_NO_WORDS:Tok} {gk2_NO_WORDS:Tok}
  (a0:PySem.W.nsIn K mainGlobals "_law_draws"=some (some (.ref f0)))
  (l0:K.lookup f0=some ⟨oc0,od0,.func (PySem.W.fnOf "_law_draws" "_law_draws" (Qp Ys) (Qm Ys) (Qe Ys) .none kV0 dc0 pm0 an0 cd0 ct0),sl0⟩)
  (c0:PySem.W.codeIn K cd0 "_law_draws"=true)
  (k0:PySem.W.keepIn K (.ref f0)=true)
  (a1:PySem.W.nsIn K mainGlobals "_law_fresh"=some (some (.ref f1)))
  (l1:K.lookup f1=some ⟨oc1,od1,.func (PySem.W.fnOf "_law_fresh" "_law_fresh" (Qp Yr) (Qm Yr) (Qe Yr) .none kV1 dc1 pm1 an1 cd1 ct1),sl1⟩)
  (c1:PySem.W.codeIn K cd1 "_law_fresh"=true)
  (k1:PySem.W.keepIn K (.ref f1)=true)
  (a2:PySem.W.nsIn K mainGlobals "_law_like_name"=some (some (.ref f2)))
  (l2:K.lookup f2=some ⟨oc2,od2,.func (PySem.W.fnOf "_law_like_name" "_law_like_name" (Qp Zn) (Qm Zn) (Qe Zn) .none kV2 dc2 pm2 an2 cd2 ct2),sl2⟩)
  (c2:PySem.W.codeIn K cd2 "_law_like_name"=true)
  (k2:PySem.W.keepIn K (.ref f2)=true)
  (a3:PySem.W.nsIn K mainGlobals "_law_part_name"=some (some (.ref f3)))
  (l3:K.lookup f3=some ⟨oc3,od3,.func (PySem.W.fnOf "_law_part_name" "_law_part_name" (Qp Zl) (Qm Zl) (Qe Zl) .none kV3 dc3 pm3 an3 cd3 ct3),sl3⟩)
  (c3:PySem.W.codeIn K cd3 "_law_part_name"=true)
  (k3:PySem.W.keepIn K (.ref f3)=true)
  (a4:PySem.W.nsIn K mainGlobals "_law_near_name"=some (some (.ref f4)))
  (l4:K.lookup f4=some ⟨oc4,od4,.func (PySem.W.fnOf "_law_near_name" "_law_near_name" (Qp Zm) (Qm Zm) (Qe Zm) .none kV4 dc4 pm4 an4 cd4 ct4),sl4⟩)
  (c4:PySem.W.codeIn K cd4 "_law_near_name"=true)
  (k4:PySem.W.keepIn K (.ref f4)=true)
  (a5:PySem.W.nsIn K mainGlobals "_law_family"=some (some (.ref f5)))
  (l5:K.lookup f5=some ⟨oc5,od5,.func (PySem.W.fnOf "_law_family" "_law_family" (Qp ZZ) (Qm ZZ) (Qe ZZ) .none kV5 dc5 pm5 an5 cd5 ct5),sl5⟩)
  (c5:PySem.W.codeIn K cd5 "_law_family"=true)
  (k5:PySem.W.keepIn K (.ref f5)=true)
  (a6:PySem.W.nsIn K mainGlobals "_law_cell_at"=some (some (.ref f6)))
  (l6:K.lookup f6=some ⟨oc6,od6,.func (PySem.W.fnOf "_law_cell_at" "_law_cell_at" (Qp ZH) (Qm ZH) (Qe ZH) .none kV6 dc6 pm6 an6 cd6 ct6),sl6⟩)
  (c6:PySem.W.codeIn K cd6 "_law_cell_at"=true)
  (k6:PySem.W.keepIn K (.ref f6)=true)
  (a7:PySem.W.nsIn K mainGlobals "_law_alike"=some (some (.ref f7)))
  (l7:K.lookup f7=some ⟨oc7,od7,.func (PySem.W.fnOf "_law_alike" "_law_alike" (Qp Yt) (Qm Yt) (Qe Yt) .none kV7 dc7 pm7 an7 cd7 ct7),sl7⟩)
  (c7:PySem.W.codeIn K cd7 "_law_alike"=true)
  (k7:PySem.W.keepIn K (.ref f7)=true)
  (a8:PySem.W.nsIn K mainGlobals "_law_rules"=some (some (.ref f8)))
  (l8:K.lookup f8=some ⟨oc8,od8,.func (PySem.W.fnOf "_law_rules" "_law_rules" (Qp ZA) (Qm ZA) (Qe ZA) .none kV8 dc8 pm8 an8 cd8 ct8),sl8⟩)
  (c8:PySem.W.codeIn K cd8 "_law_rules"=true)
  (k8:PySem.W.keepIn K (.ref f8)=true)
  (a9:PySem.W.nsIn K mainGlobals "_law_rows"=some (some (.ref f9)))
  (l9:K.lookup f9=some ⟨oc9,od9,.func (PySem.W.fnOf "_law_rows" "_law_rows" (Qp YU) (Qm YU) (Qe YU) .none kV9 dc9 pm9 an9 cd9 ct9),sl9⟩)
  (c9:PySem.W.codeIn K cd9 "_law_rows"=true)
  (k9:PySem.W.keepIn K (.ref f9)=true)
  (a10:PySem.W.nsIn K mainGlobals "_law_same"=some (some (.ref f10)))
  (l10:K.lookup f10=some ⟨oc10,od10,.func (PySem.W.fnOf "_law_same" "_law_same" (Qp YT) (Qm YT) (Qe YT) .none kV10 dc10 pm10 an10 cd10 ct10),sl10⟩)
  (c10:PySem.W.codeIn K cd10 "_law_same"=true)
  (k10:PySem.W.keepIn K (.ref f10)=true)
  (a17:PySem.W.nsIn K mainGlobals "is_word"=some (some (.ref f17)))
  (l17:K.lookup f17=some ⟨oc17,od17,.func (PySem.W.fnOf "is_word" "is_word" (Qp YZ) (Qm YZ) (Qe YZ) .none kV17 dc17 pm17 an17 cd17 ct17),sl17⟩)
  (c17:PySem.W.codeIn K cd17 "is_word"=true)
  (k17:PySem.W.keepIn K (.ref f17)=true)
  (a18:PySem.W.nsIn K mainGlobals "is_guess_row"=some (some (.ref f18)))
  (l18:K.lookup f18=some ⟨oc18,od18,.func (PySem.W.fnOf "is_guess_row" "is_guess_row" (Qp ZG) (Qm ZG) (Qe ZG) .none kV18 dc18 pm18 an18 cd18 ct18),sl18⟩)
  (c18:PySem.W.codeIn K cd18 "is_guess_row"=true)
  (k18:PySem.W.keepIn K (.ref f18)=true)
  (a19:PySem.W.nsIn K mainGlobals "is_rule_row"=some (some (.ref f19)))
  (l19:K.lookup f19=some ⟨oc19,od19,.func (PySem.W.fnOf "is_rule_row" "is_rule_row" (Qp Zo) (Qm Zo) (Qe Zo) .none kV19 dc19 pm19 an19 cd19 ct19),sl19⟩)
  (c19:PySem.W.codeIn K cd19 "is_rule_row"=true)
  (k19:PySem.W.keepIn K (.ref f19)=true)
  (a20:PySem.W.nsIn K mainGlobals "read_row"=some (some (.ref f20)))
  (l20:K.lookup f20=some ⟨oc20,od20,.func (PySem.W.fnOf "read_row" "read_row" (Qp Xr) (Qm Xr) (Qe Xr) (.ref T20) kV20 dc20 pm20 an20 cd20 ct20),sl20⟩)
  (c20:PySem.W.codeIn K cd20 "read_row"=true)
  (k20:PySem.W.keepIn K (.ref f20)=true)
  (t20:K.lookup T20=some ⟨tc20,td20,.seq #[.int 0 tk20] tn20,ts20⟩)
  (a21:PySem.W.nsIn K mainGlobals "of_kind"=some (some (.ref f21)))
  (l21:K.lookup f21=some ⟨oc21,od21,.func (PySem.W.fnOf "of_kind" "of_kind" (Qp YY) (Qm YY) (Qe YY) .none kV21 dc21 pm21 an21 cd21 ct21),sl21⟩)
  (c21:PySem.W.codeIn K cd21 "of_kind"=true)
  (k21:PySem.W.keepIn K (.ref f21)=true)
  (a22:PySem.W.nsIn K mainGlobals "words_in"=some (some (.ref f22)))
  (l22:K.lookup f22=some ⟨oc22,od22,.func (PySem.W.fnOf "words_in" "words_in" (Qp Xq) (Qm Xq) (Qe Xq) .none kV22 dc22 pm22 an22 cd22 ct22),sl22⟩)
  (c22:PySem.W.codeIn K cd22 "words_in"=true)
  (k22:PySem.W.keepIn K (.ref f22)=true)
  (a23:PySem.W.nsIn K mainGlobals "over_bounds"=some (some (.ref f23)))
  (l23:K.lookup f23=some ⟨oc23,od23,.func (PySem.W.fnOf "over_bounds" "over_bounds" (Qp ZY) (Qm ZY) (Qe ZY) .none kV23 dc23 pm23 an23 cd23 ct23),sl23⟩)
  (c23:PySem.W.codeIn K cd23 "over_bounds"=true)
  (k23:PySem.W.keepIn K (.ref f23)=true)
  (a24:PySem.W.nsIn K mainGlobals "told_once"=some (some (.ref f24)))
  (l24:K.lookup f24=some ⟨oc24,od24,.func (PySem.W.fnOf "told_once" "told_once" (Qp YR) (Qm YR) (Qe YR) .none kV24 dc24 pm24 an24 cd24 ct24),sl24⟩)
  (c24:PySem.W.codeIn K cd24 "told_once"=true)
  (k24:PySem.W.keepIn K (.ref f24)=true)
  (a25:PySem.W.nsIn K mainGlobals "read_rows"=some (some (.ref f25)))
  (l25:K.lookup f25=some ⟨oc25,od25,.func (PySem.W.fnOf "read_rows" "read_rows" (Qp ZL) (Qm ZL) (Qe ZL) .none kV25 dc25 pm25 an25 cd25 ct25),sl25⟩)
  (c25:PySem.W.codeIn K cd25 "read_rows"=true)
  (k25:PySem.W.keepIn K (.ref f25)=true)
  (a26:PySem.W.nsIn K mainGlobals "refuse_headed"=some (some (.ref f26)))
  (l26:K.lookup f26=some ⟨oc26,od26,.func (PySem.W.fnOf "refuse_headed" "refuse_headed" (Qp Ze) (Qm Ze) (Qe Ze) .none kV26 dc26 pm26 an26 cd26 ct26),sl26⟩)
  (c26:PySem.W.codeIn K cd26 "refuse_headed"=true)
  (k26:PySem.W.keepIn K (.ref f26)=true)
  (a27:PySem.W.nsIn K mainGlobals "names_of"=some (some (.ref f27)))
  (l27:K.lookup f27=some ⟨oc27,od27,.func (PySem.W.fnOf "names_of" "names_of" (Qp YL) (Qm YL) (Qe YL) .none kV27 dc27 pm27 an27 cd27 ct27),sl27⟩)
  (c27:PySem.W.codeIn K cd27 "names_of"=true)
  (k27:PySem.W.keepIn K (.ref f27)=true)
  (a28:PySem.W.nsIn K mainGlobals "numbered_rule"=some (some (.ref f28)))
  (l28:K.lookup f28=some ⟨oc28,od28,.func (PySem.W.fnOf "numbered_rule" "numbered_rule" (Qp QQ) (Qm QQ) (Qe QQ) .none kV28 dc28 pm28 an28 cd28 ct28),sl28⟩)
  (c28:PySem.W.codeIn K cd28 "numbered_rule"=true)
  (k28:PySem.W.keepIn K (.ref f28)=true)
  (a29:PySem.W.nsIn K mainGlobals "numbered_book"=some (some (.ref f29)))
  (l29:K.lookup f29=some ⟨oc29,od29,.func (PySem.W.fnOf "numbered_book" "numbered_book" (Qp QE) (Qm QE) (Qe QE) .none kV29 dc29 pm29 an29 cd29 ct29),sl29⟩)
  (c29:PySem.W.codeIn K cd29 "numbered_book"=true)
  (k29:PySem.W.keepIn K (.ref f29)=true)
  (a30:PySem.W.nsIn K mainGlobals "read_lines"=some (some (.ref f30)))
  (l30:K.lookup f30=some ⟨oc30,od30,.func (PySem.W.fnOf "read_lines" "read_lines" (Qp Yq) (Qm Yq) (Qe Yq) .none kV30 dc30 pm30 an30 cd30 ct30),sl30⟩)
  (c30:PySem.W.codeIn K cd30 "read_lines"=true)
  (k30:PySem.W.keepIn K (.ref f30)=true)
  (a31:PySem.W.nsIn K mainGlobals "lines_of"=some (some (.ref f31)))
  (l31:K.lookup f31=some ⟨oc31,od31,.func (PySem.W.fnOf "lines_of" "lines_of" (Qp Xs) (Qm Xs) (Qe Xs) .none kV31 dc31 pm31 an31 cd31 ct31),sl31⟩)
  (c31:PySem.W.codeIn K cd31 "lines_of"=true)
  (k31:PySem.W.keepIn K (.ref f31)=true)
  (a32:PySem.W.nsIn K mainGlobals "read_book"=some (some (.ref f32)))
  (l32:K.lookup f32=some ⟨oc32,od32,.func (PySem.W.fnOf "read_book" "read_book" (Qp YS) (Qm YS) (Qe YS) .none kV32 dc32 pm32 an32 cd32 ct32),sl32⟩)
  (c32:PySem.W.codeIn K cd32 "read_book"=true)
  (k32:PySem.W.keepIn K (.ref f32)=true)
  (a33:PySem.W.nsIn K mainGlobals "_law_numbers"=some (some (.ref f33)))
  (l33:K.lookup f33=some ⟨oc33,od33,.func (PySem.W.fnOf "_law_numbers" "_law_numbers" (Qp QH) (Qm QH) (Qe QH) .none kV33 dc33 pm33 an33 cd33 ct33),sl33⟩)
  (c33:PySem.W.codeIn K cd33 "_law_numbers"=true)
  (k33:PySem.W.keepIn K (.ref f33)=true)
  (a34:PySem.W.nsIn K mainGlobals "_law_due"=some (some (.ref f34)))
  (l34:K.lookup f34=some ⟨oc34,od34,.func (PySem.W.fnOf "_law_due" "_law_due" (Qp ZF) (Qm ZF) (Qe ZF) .none kV34 dc34 pm34 an34 cd34 ct34),sl34⟩)
  (c34:PySem.W.codeIn K cd34 "_law_due"=true)
  (k34:PySem.W.keepIn K (.ref f34)=true)
  (a35:PySem.W.nsIn K mainGlobals "_law_line"=some (some (.ref f35)))
  (l35:K.lookup f35=some ⟨oc35,od35,.func (PySem.W.fnOf "_law_line" "_law_line" (Qp YV) (Qm YV) (Qe YV) .none kV35 dc35 pm35 an35 cd35 ct35),sl35⟩)
  (c35:PySem.W.codeIn K cd35 "_law_line"=true)
  (k35:PySem.W.keepIn K (.ref f35)=true)
  (a36:PySem.W.nsIn K mainGlobals "law"=some (some (.ref f36)))
  (l36:K.lookup f36=some ⟨oc36,od36,.func (PySem.W.fnOf "law" "law" (Qp Qcw) (Qm Qcw) (Qe Qcw) .none kV36 dc36 pm36 an36 cd36 ct36),sl36⟩)
  (c36:PySem.W.codeIn K cd36 "law"=true)
  (k36:PySem.W.keepIn K (.ref f36)=true)
  (z_all:PySem.W.nsIn K mainGlobals "all"=some none)
  (z_bool:PySem.W.nsIn K mainGlobals "bool"=some none)
  (z_enumerate:PySem.W.nsIn K mainGlobals "enumerate"=some none)
  (z_int:PySem.W.nsIn K mainGlobals "int"=some none)
  (z_isinstance:PySem.W.nsIn K mainGlobals "isinstance"=some none)
  (z_len:PySem.W.nsIn K mainGlobals "len"=some none)
  (z_list:PySem.W.nsIn K mainGlobals "list"=some none)
  (z_min:PySem.W.nsIn K mainGlobals "min"=some none)
  (z_range:PySem.W.nsIn K mainGlobals "range"=some none)
  (z_set:PySem.W.nsIn K mainGlobals "set"=some none)
  (z_sorted:PySem.W.nsIn K mainGlobals "sorted"=some none)
  (z_str:PySem.W.nsIn K mainGlobals "str"=some none)
  (z_tuple:PySem.W.nsIn K mainGlobals "tuple"=some none)
  (g_MOST_GUESSES:PySem.W.nsIn K mainGlobals "MOST_GUESSES"=some (some (.int 8 gt_MOST_GUESSES)))
  (g_MOST_IN_BODY:PySem.W.nsIn K mainGlobals "MOST_IN_BODY"=some (some (.int 6 gt_MOST_IN_BODY)))
  (g_MOST_LETTERS:PySem.W.nsIn K mainGlobals "MOST_LETTERS"=some (some (.int 12 gt_MOST_LETTERS)))
  (g_MOST_RULES:PySem.W.nsIn K mainGlobals "MOST_RULES"=some (some (.int 40 gt_MOST_RULES)))
  (g_MOST_WORDS:PySem.W.nsIn K mainGlobals "MOST_WORDS"=some (some (.int 30 gt_MOST_WORDS)))
  (g_NO_WORDS:PySem.W.nsIn K mainGlobals "NO_WORDS"=some (some (.ref ga_NO_WORDS)))
  (gl_NO_WORDS:K.lookup ga_NO_WORDS=some ⟨.type "tuple",none,.seq #[.str "guess" gk0_NO_WORDS,.str "unless" gk1_NO_WORDS,.str "if" gk2_NO_WORDS] gn_NO_WORDS,gs_NO_WORDS⟩)
  : ∃ fd:FuncData,(∀ (s:Shared) (v:Value),BindsTo s fd ⟨[v],[]⟩ [("script",v)])∧∀ base:Heap,K.In base→base.Ns mainGlobals mg→FnOk l.prog w K mg base CX0 7 fa fd ["script"] (spM K 1 Xa):=by
 have e:=hfa.symm.trans (PySem.W.mg_of X G a36)
 cases e
 have T:Txt K mg:=⟨PySem.W.mg_none_of X G z_all,PySem.W.mg_none_of X G z_bool,PySem.W.mg_none_of X G z_enumerate,PySem.W.mg_none_of X G z_int,PySem.W.mg_none_of X G z_isinstance,PySem.W.mg_none_of X G z_len,PySem.W.mg_none_of X G z_list,PySem.W.mg_none_of X G z_min,PySem.W.mg_none_of X G z_range,PySem.W.mg_none_of X G z_set,PySem.W.mg_none_of X G z_sorted,PySem.W.mg_none_of X G z_str,PySem.W.mg_none_of X G z_tuple,⟨_,PySem.W.mg_of X G g_MOST_GUESSES⟩,⟨_,PySem.W.mg_of X G g_MOST_IN_BODY⟩,⟨_,PySem.W.mg_of X G g_MOST_LETTERS⟩,⟨_,PySem.W.mg_of X G g_MOST_RULES⟩,⟨_,PySem.W.mg_of X G g_MOST_WORDS⟩,⟨_,PySem.W.mg_of X G g_NO_WORDS,_,_,_,gl_NO_WORDS,rfl,rfl,rfl,(show 3≤sizeLine by decide),(.cons ⟨_,rfl⟩ (.cons ⟨_,rfl⟩ (.cons ⟨_,rfl⟩ .nil)))⟩⟩
 have F0:=QX (st:=Ys) l0 c0 k0
 have b0:=F0.binds (ps:=["cell","count"]) fun _ _ _ _ _ _ us hl=>match us,hl with | [_,_],_=>rfl
 have F1:=QX (st:=Yr) l1 c1 k1
 have b1:=F1.binds (ps:=["number","size"]) fun _ _ _ _ _ _ us hl=>match us,hl with | [_,_],_=>rfl
 have F2:=QX (st:=Zn) l2 c2 k2
 have b2:=F2.binds (ps:=["drawn","k"]) fun _ _ _ _ _ _ us hl=>match us,hl with | [_,_],_=>rfl
 have F3:=QX (st:=Zl) l3 c3 k3
 have b3:=F3.binds (ps:=["drawn","k"]) fun _ _ _ _ _ _ us hl=>match us,hl with | [_,_],_=>rfl
 have F4:=QX (st:=Zm) l4 c4 k4
 have b4:=F4.binds (ps:=["k"]) fun _ _ _ _ _ _ us hl=>match us,hl with | [_],_=>rfl
 have F5:=QX (st:=ZZ) l5 c5 k5
 have b5:=F5.binds (ps:=["cell","size"]) fun _ _ _ _ _ _ us hl=>match us,hl with | [_,_],_=>rfl
 have F6:=QX (st:=ZH) l6 c6 k6
 have b6:=F6.binds (ps:=["script","k"]) fun _ _ _ _ _ _ us hl=>match us,hl with | [_,_],_=>rfl
 have F7:=QX (st:=Yt) l7 c7 k7
 have b7:=F7.binds (ps:=["one","other"]) fun _ _ _ _ _ _ us hl=>match us,hl with | [_,_],_=>rfl
 have F8:=QX (st:=ZA) l8 c8 k8
 have b8:=F8.binds (ps:=["script","names","guesses"]) fun _ _ _ _ _ _ us hl=>match us,hl with | [_,_,_],_=>rfl
 have F9:=QX (st:=YU) l9 c9 k9
 have b9:=F9.binds (ps:=["script"]) fun _ _ _ _ _ _ us hl=>match us,hl with | [_],_=>rfl
 have F10:=QX (st:=YT) l10 c10 k10
 have b10:=F10.binds (ps:=["found","due"]) fun _ _ _ _ _ _ us hl=>match us,hl with | [_,_],_=>rfl
 have F17:=QX (st:=YZ) l17 c17 k17
 have b17:=F17.binds (ps:=["part"]) fun _ _ _ _ _ _ us hl=>match us,hl with | [_],_=>rfl
 have F18:=QX (st:=ZG) l18 c18 k18
 have b18:=F18.binds (ps:=["parts"]) fun _ _ _ _ _ _ us hl=>match us,hl with | [_],_=>rfl
 have F19:=QX (st:=Zo) l19 c19 k19
 have b19:=F19.binds (ps:=["parts"]) fun _ _ _ _ _ _ us hl=>match us,hl with | [_],_=>rfl
 have F20:=funD_mk (st:=Xr) l20 c20 k20 t20
 have b20:=F20.binds (ps:=["line","row"]) fun _ _ _ _ _ _ _ d us hl=>match us,hl with | [_,_],_=>⟨_,rfl,rfl⟩
 have bd20:=F20.bindsD (ps:=["line","row"]) fun _ _ _ _ _ _ _ d us hl=>match us,hl with | [_],_=>⟨_,rfl,rfl⟩
 have F21:=QX (st:=YY) l21 c21 k21
 have b21:=F21.binds (ps:=["rows","kind"]) fun _ _ _ _ _ _ us hl=>match us,hl with | [_,_],_=>rfl
 have F22:=QX (st:=Xq) l22 c22 k22
 have b22:=F22.binds (ps:=["rows"]) fun _ _ _ _ _ _ us hl=>match us,hl with | [_],_=>rfl
 have F23:=QX (st:=ZY) l23 c23 k23
 have b23:=F23.binds (ps:=["rows"]) fun _ _ _ _ _ _ us hl=>match us,hl with | [_],_=>rfl
 have F24:=QX (st:=YR) l24 c24 k24
 have b24:=F24.binds (ps:=["told"]) fun _ _ _ _ _ _ us hl=>match us,hl with | [_],_=>rfl
 have F25:=QX (st:=ZL) l25 c25 k25
 have b25:=F25.binds (ps:=["lines"]) fun _ _ _ _ _ _ us hl=>match us,hl with | [_],_=>rfl
 have F26:=QX (st:=Ze) l26 c26 k26
 have b26:=F26.binds (ps:=["rows"]) fun _ _ _ _ _ _ us hl=>match us,hl with | [_],_=>rfl
 have F27:=QX (st:=YL) l27 c27 k27
 have b27:=F27.binds (ps:=["rows"]) fun _ _ _ _ _ _ us hl=>match us,hl with | [_],_=>rfl
 have F28:=QX (st:=QQ) l28 c28 k28
 have b28:=F28.binds (ps:=["names","told"]) fun _ _ _ _ _ _ us hl=>match us,hl with | [_,_],_=>rfl
 have F29:=QX (st:=QE) l29 c29 k29
 have b29:=F29.binds (ps:=["names","rows"]) fun _ _ _ _ _ _ us hl=>match us,hl with | [_,_],_=>rfl
 have F30:=QX (st:=Yq) l30 c30 k30
 have b30:=F30.binds (ps:=["lines"]) fun _ _ _ _ _ _ us hl=>match us,hl with | [_],_=>rfl
 have F31:=QX (st:=Xs) l31 c31 k31
 have b31:=F31.binds (ps:=["text"]) fun _ _ _ _ _ _ us hl=>match us,hl with | [_],_=>rfl
 have F32:=QX (st:=YS) l32 c32 k32
 have b32:=F32.binds (ps:=["text"]) fun _ _ _ _ _ _ us hl=>match us,hl with | [_],_=>rfl
 have F33:=QX (st:=QH) l33 c33 k33
 have b33:=F33.binds (ps:=["rows"]) fun _ _ _ _ _ _ us hl=>match us,hl with | [_],_=>rfl
 have F34:=QX (st:=ZF) l34 c34 k34
 have b34:=F34.binds (ps:=["rows"]) fun _ _ _ _ _ _ us hl=>match us,hl with | [_],_=>rfl
 have F35:=QX (st:=YV) l35 c35 k35
 have b35:=F35.binds (ps:=["row"]) fun _ _ _ _ _ _ us hl=>match us,hl with | [_],_=>rfl
 have F36:=QX (st:=Qcw) l36 c36 k36
 refine ⟨PySem.W.fnOf "law" "law" (Qp Qcw) (Qm Qcw) (Qe Qcw) .none kV36 dc36 pm36 an36 cd36 ct36,fun s v => .of_eq rfl,fun base _ _ => ?_⟩
 have q0:Cal l.prog w K mg base 1 "_law_draws" 2 QK:=⟨_,_,_,Qfw T  F0,PySem.W.mg_of X G a0,k0,b0⟩
 have q1:Cal l.prog w K mg base 1 "_law_fresh" 2 QP:=⟨_,_,_,Qfv T  F1,PySem.W.mg_of X G a1,k1,b1⟩
 have q2:Cal l.prog w K mg base 2 "_law_like_name" 2 QW:=⟨_,_,_,Qcv T q1 F2,PySem.W.mg_of X G a2,k2,b2⟩
 have q3:Cal l.prog w K mg base 2 "_law_part_name" 2 QT:=⟨_,_,_,Qct T q1 F3,PySem.W.mg_of X G a3,k3,b3⟩
 have q4:Cal l.prog w K mg base 1 "_law_near_name" 1 QV:=⟨_,_,_,Qcu T  F4,PySem.W.mg_of X G a4,k4,b4⟩
 have q5:Cal l.prog w K mg base 3 "_law_family" 2 QR:=⟨_,_,_,Qeo T q0 q1 q2 q3 q4 F5,PySem.W.mg_of X G a5,k5,b5⟩
 have q6:Cal l.prog w K mg base 1 "_law_cell_at" 2 Ql:=⟨_,_,_,QdX T  F6,PySem.W.mg_of X G a6,k6,b6⟩
 have q7:Cal l.prog w K mg base 1 "_law_alike" 2 ZP:=⟨_,_,_,Qfx T  F7,PySem.W.mg_of X G a7,k7,b7⟩
 have q8:CalO l.prog w K mg base 2 "_law_rules" 3 QY:=⟨_,_,_,Qfu T q0 q6 q7 F8,PySem.W.mg_of X G a8,k8,b8⟩
 have q9:Cal l.prog w K mg base 4 "_law_rows" 1 Yn:=⟨_,_,_,QgJ T q0 q5 q6 q8 F9,PySem.W.mg_of X G a9,k9,b9⟩
 have q10:Cal l.prog w K mg base 0 "_law_same" 2 Xb:=⟨_,_,_,fn_none rfl,PySem.W.mg_of X G a10,k10,b10⟩
 have q11:Cal l.prog w K mg base 1 "_law_same" 2 Yj:=⟨_,_,_,Yu Qce T q10 F10,PySem.W.mg_of X G a10,k10,b10⟩
 have q12:Cal l.prog w K mg base 2 "_law_same" 2 Yi:=⟨_,_,_,Yu Qcd T q11 F10,PySem.W.mg_of X G a10,k10,b10⟩
 have q13:Cal l.prog w K mg base 3 "_law_same" 2 Yh:=⟨_,_,_,Yu Qcc T q12 F10,PySem.W.mg_of X G a10,k10,b10⟩
 have q14:Cal l.prog w K mg base 4 "_law_same" 2 Yg:=⟨_,_,_,Yu Qcb T q13 F10,PySem.W.mg_of X G a10,k10,b10⟩
 have q15:Cal l.prog w K mg base 5 "_law_same" 2 Yf:=⟨_,_,_,Yu Qca T q14 F10,PySem.W.mg_of X G a10,k10,b10⟩
 have q16:Cal l.prog w K mg base 6 "_law_same" 2 ZI:=⟨_,_,_,Yu QbZ T q15 F10,PySem.W.mg_of X G a10,k10,b10⟩
 have q17:Cal l.prog w K mg base 1 "is_word" 1 ZK:=⟨_,_,_,Qjp T  F17,PySem.W.mg_of X G a17,k17,b17⟩
 have q18:Cal l.prog w K mg base 2 "is_guess_row" 1 QI:=⟨_,_,_,QdV T q17 F18,PySem.W.mg_of X G a18,k18,b18⟩
 have q19:Cal l.prog w K mg base 2 "is_rule_row" 1 QO:=⟨_,_,_,Qen T q17 F19,PySem.W.mg_of X G a19,k19,b19⟩
 have q20:CalD l.prog w K mg base 3 "read_row" 2 0 Zj:=⟨_,_,_,QhQ T q18 q19 F20,PySem.W.mg_of X G a20,k20,b20,bd20⟩
 have q21:Cal l.prog w K mg base 1 "of_kind" 2 QL:=⟨_,_,_,Qjo T  F21,PySem.W.mg_of X G a21,k21,b21⟩
 have q22:Cal l.prog w K mg base 1 "words_in" 1 ZX:=⟨_,_,_,QhP T  F22,PySem.W.mg_of X G a22,k22,b22⟩
 have q23:Cal l.prog w K mg base 2 "over_bounds" 1 Zp:=⟨_,_,_,Qem T q21 q22 F23,PySem.W.mg_of X G a23,k23,b23⟩
 have q24:Cal l.prog w K mg base 1 "told_once" 1 ZC:=⟨_,_,_,QgG T  F24,PySem.W.mg_of X G a24,k24,b24⟩
 have q25:Cal l.prog w K mg base 4 "read_rows" 1 Yl:=⟨_,_,_,QgH T q20 q23 q24 F25,PySem.W.mg_of X G a25,k25,b25⟩
 have q26:Cal l.prog w K mg base 2 "refuse_headed" 1 Zf:=⟨_,_,_,Qdf T q21 F26,PySem.W.mg_of X G a26,k26,b26⟩
 have q27:Cal l.prog w K mg base 2 "names_of" 1 YN:=⟨_,_,_,QhR T q21 q22 F27,PySem.W.mg_of X G a27,k27,b27⟩
 have q28:Cal l.prog w K mg base 1 "numbered_rule" 2 Zg:=⟨_,_,_,Qdg T  F28,PySem.W.mg_of X G a28,k28,b28⟩
 have q29:Cal l.prog w K mg base 2 "numbered_book" 2 Zh:=⟨_,_,_,Qdh T q21 q28 F29,PySem.W.mg_of X G a29,k29,b29⟩
 have q30:Cal l.prog w K mg base 5 "read_lines" 1 ZN:=⟨_,_,_,Qft T q25 q26 q27 q29 F30,PySem.W.mg_of X G a30,k30,b30⟩
 have q31:Cal l.prog w K mg base 1 "lines_of" 1 YO:=⟨_,_,_,QhS T  F31,PySem.W.mg_of X G a31,k31,b31⟩
 have q32:Cal l.prog w K mg base 6 "read_book" 1 Ym:=⟨_,_,_,QgI T q30 q31 F32,PySem.W.mg_of X G a32,k32,b32⟩
 have q33:Cal l.prog w K mg base 1 "_law_numbers" 1 QU:=⟨_,_,_,QdW T  F33,PySem.W.mg_of X G a33,k33,b33⟩
 have q34:Cal l.prog w K mg base 2 "_law_due" 1 ZO:=⟨_,_,_,QhT T q33 F34,PySem.W.mg_of X G a34,k34,b34⟩
 have q35:Cal l.prog w K mg base 1 "_law_line" 1 Zq:=⟨_,_,_,QgK T  F35,PySem.W.mg_of X G a35,k35,b35⟩
 exact ok_law T q9 q16 q32 q34 q35 F36
theorem walk {l:PySem.W.OpenLaw} {q:Program} {loose:List Str} {XP:(Str→Option Value)→Heap→Prop} {YP:World→Heap→Prop} {d:DefRec} {K:Params→PySem.W.Frag} (hn:l.most=some 63) (hdf:d.params.defaults=[])
  (hY:∀ (w:World) (h:Heap),YP w h→(K w.params).In h) (hlaw:∀ ns:List Int,ns.length≤63→Xa [.lst (ns.map .int)]=some (.bl true))
  (F:∀ (w:World) (mg:Str→Option Value) (fa:Addr) (h:Heap),(K w.params).In h→h.Ns mainGlobals mg→mg d.name=some (.ref fa) →
   ∃ fd:FuncData,(∀ (s:Shared) (u:Value),BindsTo s fd ⟨[u],[]⟩ [("script",u)])∧∀ base:Heap,(K w.params).In base→base.Ns mainGlobals mg→FnOk l.prog w (K w.params) mg base CX0 7 fa fd ["script"] (spM (K w.params) 1 Xa)) :
  PySem.W.WalkO q loose XP YP l.row.toRowW d [] (fun f vs=>PySem.call f vs) :=
 L2.walk_of (n:=63) (k:=7) (x := "script") (CX:=fun _=>CX0) (sp:=fun w=>spM (K w.params) 1 Xa) hn (by decide) hdf ⟨rfl,by decide,by decide⟩ hY F (fun w H a ns hl _ hS=>law_sp hlaw hl hS) fun _ _ _ _ _ z=>z
end
end K03
namespace K03
open PySem PySem.W L2 L2.PM DH HD
def kk (P:Params):PySem.W.Frag :=
(nat_lit 2,⟨.none,none,(.dict #[] 0),#[]⟩) ::
(nat_lit 3,⟨(.type "dict"),none,(.dict #[en P "__name__" 165 (.str "law_doubthall_k03_a_book_numbered" 424),en P "__doc__" 166 .none,en P "__package__" 167 .none,en P "__loader__" 168 (.builtin "__main__.__loader__#opaque"),en P "__spec__" 169 .none,en P "__annotations__" 170 (.ref 6),en P "__builtins__" 171 (.ref 4),en P "__file__" 173 (.str "/claim/cut.py" 172),en P "__cached__" 174 .none,en P "HallError" 206 (.ref 24),en P "RowError" 231 (.ref 44),en P "NoRow" 247 (.ref 56),en P "TooMany" 263 (.ref 68),en P "Twice" 279 (.ref 80),en P "Headed" 295 (.ref 92),en P "NO_WORDS" 301 (.ref 95),en P "MOST_LETTERS" 303 (.int 12 302),en P "MOST_IN_BODY" 305 (.int 6 304),en P "MOST_GUESSES" 307 (.int 8 306),en P "MOST_RULES" 309 (.int 40 308),en P "MOST_WORDS" 311 (.int 30 310),en P "is_word" 317 (.ref 100),en P "is_guess_row" 324 (.ref 107),en P "is_rule_row" 330 (.ref 112),en P "read_row" 341 (.ref 120),en P "lines_of" 348 (.ref 127),en P "told_once" 355 (.ref 134),en P "of_kind" 361 (.ref 139),en P "words_in" 370 (.ref 146),en P "over_bounds" 377 (.ref 153),en P "read_rows" 383 (.ref 158),en P "refuse_headed" 389 (.ref 163),en P "names_of" 395 (.ref 168),en P "numbered_rule" 401 (.ref 173),en P "numbered_book" 407 (.ref 178),en P "read_lines" 416 (.ref 185),en P "read_book" 423 (.ref 192),en P "_law_draws" 436 (.ref 199),en P "_law_cell_at" 444 (.ref 206),en P "_law_fresh" 455 (.ref 213),en P "_law_like_name" 467 (.ref 220),en P "_law_part_name" 477 (.ref 227),en P "_law_near_name" 485 (.ref 234),en P "_law_family" 497 (.ref 241),en P "_law_alike" 505 (.ref 248),en P "_law_rules" 511 (.ref 253),en P "_law_rows" 525 (.ref 260),en P "_law_line" 532 (.ref 267),en P "_law_numbers" 538 (.ref 272),en P "_law_due" 544 (.ref 277),en P "_law_same" 553 (.ref 284),en P "law" 559 (.ref 289)] 52),#[]⟩) ::
(nat_lit 23,⟨(.type "dict"),none,(.dict #[en P "__module__" 196 (.str "doubthall.errors" 187),en P "__firstlineno__" 200 (.int 2 199),en P "__static_attributes__" 201 (.ref 22),en P "__weakref__" 203 (.ref 25),en P "__doc__" 204 .none] 3),#[]⟩) ::
(nat_lit 24,⟨(.type "type"),none,(.cls { name := "HallError",bases:=[(.type "ValueError")],mro:=[(.ref 24),(.type "ValueError"),(.type "Exception"),(.type "BaseException"),(.type "object")],ns:=23,qualname := "HallError",hasDict:=true,subclasses:=[(.ref 44)],abstract:=false,hasDel:=false }),#[some (.ref 15),none,some (.str "HallError" 189),some (.str "HallError" 197),some (.builtin "ValueError.__new__"),some (.bool true)]⟩) ::
(nat_lit 40,co "__init__" "RowError.__init__" 219 6 2 35 36 (.ref 37) (.ref 38) 39 224) ::
(nat_lit 41,fo "__init__" "RowError.__init__" (inClass (top 2) 0) .none .none (.str "doubthall.errors" 187) 40) ::
(nat_lit 43,⟨(.type "dict"),none,(.dict #[en P "__module__" 214 (.str "doubthall.errors" 187),en P "__firstlineno__" 218 (.int 4 217),en P "__init__" 226 (.ref 41),en P "__static_attributes__" 228 (.ref 42),en P "__doc__" 229 .none] 2),#[]⟩) ::
(nat_lit 44,⟨(.type "type"),none,(.cls { name := "RowError",bases:=[(.ref 24)],mro:=[(.ref 44),(.ref 24),(.type "ValueError"),(.type "Exception"),(.type "BaseException"),(.type "object")],ns:=43,qualname := "RowError",hasDict:=true,subclasses:=[(.ref 56),(.ref 68),(.ref 80),(.ref 92)],abstract:=false,hasDel:=false }),#[some (.ref 28),none,some (.str "RowError" 207),some (.str "RowError" 215),some (.builtin "ValueError.__new__"),some (.bool true)]⟩) ::
(nat_lit 55,⟨(.type "dict"),none,(.dict #[en P "__module__" 239 (.str "doubthall.errors" 187),en P "__firstlineno__" 243 (.int 8 242),en P "__static_attributes__" 244 (.ref 54),en P "__doc__" 245 .none] 2),#[]⟩) ::
(nat_lit 56,⟨(.type "type"),none,(.cls { name := "NoRow",bases:=[(.ref 44)],mro:=[(.ref 56),(.ref 44),(.ref 24),(.type "ValueError"),(.type "Exception"),(.type "BaseException"),(.type "object")],ns:=55,qualname := "NoRow",hasDict:=true,subclasses:=[],abstract:=false,hasDel:=false }),#[some (.ref 47),none,some (.str "NoRow" 232),some (.str "NoRow" 240),some (.builtin "ValueError.__new__"),some (.bool true)]⟩) ::
(nat_lit 67,⟨(.type "dict"),none,(.dict #[en P "__module__" 255 (.str "doubthall.errors" 187),en P "__firstlineno__" 259 (.int 10 258),en P "__static_attributes__" 260 (.ref 66),en P "__doc__" 261 .none] 2),#[]⟩) ::
(nat_lit 68,⟨(.type "type"),none,(.cls { name := "TooMany",bases:=[(.ref 44)],mro:=[(.ref 68),(.ref 44),(.ref 24),(.type "ValueError"),(.type "Exception"),(.type "BaseException"),(.type "object")],ns:=67,qualname := "TooMany",hasDict:=true,subclasses:=[],abstract:=false,hasDel:=false }),#[some (.ref 59),none,some (.str "TooMany" 248),some (.str "TooMany" 256),some (.builtin "ValueError.__new__"),some (.bool true)]⟩) ::
(nat_lit 79,⟨(.type "dict"),none,(.dict #[en P "__module__" 271 (.str "doubthall.errors" 187),en P "__firstlineno__" 275 (.int 12 274),en P "__static_attributes__" 276 (.ref 78),en P "__doc__" 277 .none] 2),#[]⟩) ::
(nat_lit 80,⟨(.type "type"),none,(.cls { name := "Twice",bases:=[(.ref 44)],mro:=[(.ref 80),(.ref 44),(.ref 24),(.type "ValueError"),(.type "Exception"),(.type "BaseException"),(.type "object")],ns:=79,qualname := "Twice",hasDict:=true,subclasses:=[],abstract:=false,hasDel:=false }),#[some (.ref 71),none,some (.str "Twice" 264),some (.str "Twice" 272),some (.builtin "ValueError.__new__"),some (.bool true)]⟩) ::
(nat_lit 91,⟨(.type "dict"),none,(.dict #[en P "__module__" 287 (.str "doubthall.errors" 187),en P "__firstlineno__" 291 (.int 14 290),en P "__static_attributes__" 292 (.ref 90),en P "__doc__" 293 .none] 2),#[]⟩) ::
(nat_lit 92,⟨(.type "type"),none,(.cls { name := "Headed",bases:=[(.ref 44)],mro:=[(.ref 92),(.ref 44),(.ref 24),(.type "ValueError"),(.type "Exception"),(.type "BaseException"),(.type "object")],ns:=91,qualname := "Headed",hasDict:=true,subclasses:=[],abstract:=false,hasDel:=false }),#[some (.ref 83),none,some (.str "Headed" 280),some (.str "Headed" 288),some (.builtin "ValueError.__new__"),some (.bool true)]⟩) ::
(nat_lit 95,⟨(.type "tuple"),none,(.seq #[(.str "guess" 298),(.str "unless" 299),(.str "if" 300)] 0),#[]⟩) ::
(nat_lit 99,co "is_word" "is_word" 312 23 1 96 97 .none .none 98 315) ::
(nat_lit 100,fo "is_word" "is_word" (top 14) .none .none (.str "doubthall.texts" 296) 99) ::
(nat_lit 106,co "is_guess_row" "is_guess_row" 318 27 1 101 102 (.ref 103) (.ref 104) 105 322) ::
(nat_lit 107,fo "is_guess_row" "is_guess_row" (top 15) .none .none (.str "doubthall.texts" 296) 106) ::
(nat_lit 111,co "is_rule_row" "is_rule_row" 325 31 1 108 109 .none .none 110 328) ::
(nat_lit 112,fo "is_rule_row" "is_rule_row" (top 16) .none .none (.str "doubthall.texts" 296) 111) ::
(nat_lit 113,⟨(.type "tuple"),none,(.seq #[(.int 0 331)] 0),#[]⟩) ::
(nat_lit 119,co "read_row" "read_row" 332 37 2 114 115 (.ref 116) (.ref 117) 118 339) ::
(nat_lit 120,fo "read_row" "read_row" (top 17) (.ref 113) .none (.str "doubthall.texts" 296) 119) ::
(nat_lit 126,co "lines_of" "lines_of" 342 49 1 121 122 (.ref 123) (.ref 124) 125 346) ::
(nat_lit 127,fo "lines_of" "lines_of" (top 18) .none .none (.str "doubthall.texts" 296) 126) ::
(nat_lit 133,co "told_once" "told_once" 349 51 1 128 129 (.ref 130) (.ref 131) 132 353) ::
(nat_lit 134,fo "told_once" "told_once" (top 19) .none .none (.str "doubthall.texts" 296) 133) ::
(nat_lit 138,co "of_kind" "of_kind" 356 55 2 135 136 .none .none 137 359) ::
(nat_lit 139,fo "of_kind" "of_kind" (top 20) .none .none (.str "doubthall.texts" 296) 138) ::
(nat_lit 145,co "words_in" "words_in" 362 57 1 140 141 (.ref 142) (.ref 143) 144 368) ::
(nat_lit 146,fo "words_in" "words_in" (top 21) .none .none (.str "doubthall.texts" 296) 145) ::
(nat_lit 152,co "over_bounds" "over_bounds" 371 63 1 147 148 (.ref 149) (.ref 150) 151 375) ::
(nat_lit 153,fo "over_bounds" "over_bounds" (top 22) .none .none (.str "doubthall.texts" 296) 152) ::
(nat_lit 157,co "read_rows" "read_rows" 378 67 1 154 155 .none .none 156 381) ::
(nat_lit 158,fo "read_rows" "read_rows" (top 23) .none .none (.str "doubthall.texts" 296) 157) ::
(nat_lit 162,co "refuse_headed" "refuse_headed" 384 77 1 159 160 .none .none 161 387) ::
(nat_lit 163,fo "refuse_headed" "refuse_headed" (top 24) .none .none (.str "doubthall.texts" 296) 162) ::
(nat_lit 167,co "names_of" "names_of" 390 82 1 164 165 .none .none 166 393) ::
(nat_lit 168,fo "names_of" "names_of" (top 25) .none .none (.str "doubthall.texts" 296) 167) ::
(nat_lit 172,co "numbered_rule" "numbered_rule" 396 85 2 169 170 .none .none 171 399) ::
(nat_lit 173,fo "numbered_rule" "numbered_rule" (top 26) .none .none (.str "doubthall.texts" 296) 172) ::
(nat_lit 177,co "numbered_book" "numbered_book" 402 88 2 174 175 .none .none 176 405) ::
(nat_lit 178,fo "numbered_book" "numbered_book" (top 27) .none .none (.str "doubthall.texts" 296) 177) ::
(nat_lit 184,co "read_lines" "read_lines" 408 93 1 179 180 (.ref 181) (.ref 182) 183 414) ::
(nat_lit 185,fo "read_lines" "read_lines" (top 28) .none .none (.str "doubthall.texts" 296) 184) ::
(nat_lit 191,co "read_book" "read_book" 417 98 1 186 187 (.ref 188) (.ref 189) 190 421) ::
(nat_lit 192,fo "read_book" "read_book" (top 29) .none .none (.str "doubthall.texts" 296) 191) ::
(nat_lit 198,co "_law_draws" "_law_draws" 426 101 2 193 194 (.ref 195) (.ref 196) 197 434) ::
(nat_lit 199,fo "_law_draws" "_law_draws" (top 31) .none .none (.str "law_doubthall_k03_a_book_numbered" 424) 198) ::
(nat_lit 205,co "_law_cell_at" "_law_cell_at" 437 108 2 200 201 (.ref 202) (.ref 203) 204 442) ::
(nat_lit 206,fo "_law_cell_at" "_law_cell_at" (top 32) .none .none (.str "law_doubthall_k03_a_book_numbered" 424) 205) ::
(nat_lit 212,co "_law_fresh" "_law_fresh" 445 112 2 207 208 (.ref 209) (.ref 210) 211 453) ::
(nat_lit 213,fo "_law_fresh" "_law_fresh" (top 33) .none .none (.str "law_doubthall_k03_a_book_numbered" 424) 212) ::
(nat_lit 219,co "_law_like_name" "_law_like_name" 456 119 2 214 215 (.ref 216) (.ref 217) 218 465) ::
(nat_lit 220,fo "_law_like_name" "_law_like_name" (top 34) .none .none (.str "law_doubthall_k03_a_book_numbered" 424) 219) ::
(nat_lit 226,co "_law_part_name" "_law_part_name" 468 127 2 221 222 (.ref 223) (.ref 224) 225 475) ::
(nat_lit 227,fo "_law_part_name" "_law_part_name" (top 35) .none .none (.str "law_doubthall_k03_a_book_numbered" 424) 226) ::
(nat_lit 233,co "_law_near_name" "_law_near_name" 478 135 1 228 229 (.ref 230) (.ref 231) 232 483) ::
(nat_lit 234,fo "_law_near_name" "_law_near_name" (top 36) .none .none (.str "law_doubthall_k03_a_book_numbered" 424) 233) ::
(nat_lit 240,co "_law_family" "_law_family" 486 139 2 235 236 (.ref 237) (.ref 238) 239 495) ::
(nat_lit 241,fo "_law_family" "_law_family" (top 37) .none .none (.str "law_doubthall_k03_a_book_numbered" 424) 240) ::
(nat_lit 247,co "_law_alike" "_law_alike" 498 155 2 242 243 (.ref 244) (.ref 245) 246 503) ::
(nat_lit 248,fo "_law_alike" "_law_alike" (top 38) .none .none (.str "law_doubthall_k03_a_book_numbered" 424) 247) ::
(nat_lit 252,co "_law_rules" "_law_rules" 506 157 3 249 250 .none .none 251 509) ::
(nat_lit 253,fo "_law_rules" "_law_rules" (top 39) .none .none (.str "law_doubthall_k03_a_book_numbered" 424) 252) ::
(nat_lit 259,co "_law_rows" "_law_rows" 512 174 1 254 255 (.ref 256) (.ref 257) 258 523) ::
(nat_lit 260,fo "_law_rows" "_law_rows" (top 40) .none .none (.str "law_doubthall_k03_a_book_numbered" 424) 259) ::
(nat_lit 266,co "_law_line" "_law_line" 526 188 1 261 262 (.ref 263) (.ref 264) 265 530) ::
(nat_lit 267,fo "_law_line" "_law_line" (top 41) .none .none (.str "law_doubthall_k03_a_book_numbered" 424) 266) ::
(nat_lit 271,co "_law_numbers" "_law_numbers" 533 194 1 268 269 .none .none 270 536) ::
(nat_lit 272,fo "_law_numbers" "_law_numbers" (top 42) .none .none (.str "law_doubthall_k03_a_book_numbered" 424) 271) ::
(nat_lit 276,co "_law_due" "_law_due" 539 213 1 273 274 .none .none 275 542) ::
(nat_lit 277,fo "_law_due" "_law_due" (top 43) .none .none (.str "law_doubthall_k03_a_book_numbered" 424) 276) ::
(nat_lit 283,co "_law_same" "_law_same" 545 228 2 278 279 (.ref 280) (.ref 281) 282 551) ::
(nat_lit 284,fo "_law_same" "_law_same" (top 44) .none .none (.str "law_doubthall_k03_a_book_numbered" 424) 283) ::
(nat_lit 288,co "law" "law" 554 239 1 285 286 .none .none 287 557) ::
(nat_lit 289,fo "law" "law" (top 45) .none .none (.str "law_doubthall_k03_a_book_numbered" 424) 288) :: []
def ka:List Addr:=[2,3,23,24,40,41,43,44,55,56,67,68,79,80,91,92,95,99,100,106,107,111,112,113,119,120,126,127,133,134,138,139,145,146,152,153,157,158,162,163,167,168,172,173,177,178,184,185,191,192,198,199,205,206,212,213,219,220,226,227,233,234,240,241,247,248,252,253,259,260,266,267,271,272,276,277,283,284,288,289]
theorem h_said:PySem.W.Fast.tw9446332074065402090 PySem.Challenge.rw_doubthall_k03_a_book_numbered=true:=by kernel_rfl
theorem h_one (w:World) (os:OsState):end_ PySem.Challenge.pw_doubthall_k03_a_book_numbered (only PySem.Challenge.pw_doubthall_k03_a_book_numbered (top 45)) ka w os 2392=some (true,openGood (only PySem.Challenge.pw_doubthall_k03_a_book_numbered (top 45)) (others PySem.Challenge.pw_doubthall_k03_a_book_numbered),(kk w.params).map fun x=>some x.2):=by kernel_rfl
end K03
open PySem PySem.W PyProof.Rows
set_option maxRecDepth 100000 in
set_option maxHeartbeats 8000000 in
theorem PySem.Challenge.cw_doubthall_k03_a_book_numbered_holds : PySem.Challenge.rw_doubthall_k03_a_book_numbered.Holds := by
 refine HD.opens (K:=K03.kk) (as:=K03.ka) (st:=K03.top 45) (N:=2392) K03.h_said (by kernel_rfl) (fun s=>by kernel_rfl) (by kernel_rfl) K03.h_one (fun P=>by kernel_rfl) (by kernel_rfl) (by kernel_rfl) (by kernel_rfl) (by kernel_rfl) ⟨rfl,rfl,rfl,rfl,rfl,by decide +kernel⟩ ?hw ?hc
 (case hw=>w_witness2)
 k_fill
 refine K03.walk (l:=PySem.Challenge.rw_doubthall_k03_a_book_numbered) rfl rfl (fun w h Y=>Y) K03.law_true ?F
 case F =>
  intro w mg fa h KX G hmg
  refine' K03.all_mk KX G hmg ?a0 ?l0 ?c0 ?k0 ?a1 ?l1 ?c1 ?k1 ?a2 ?l2 ?c2 ?k2 ?a3 ?l3 ?c3 ?k3 ?a4 ?l4 ?c4 ?k4 ?a5 ?l5 ?c5 ?k5 ?a6 ?l6 ?c6 ?k6 ?a7 ?l7 ?c7 ?k7 ?a8 ?l8 ?c8 ?k8 ?a9 ?l9 ?c9 ?k9 ?a10 ?l10 ?c10 ?k10 ?a17 ?l17 ?c17 ?k17 ?a18 ?l18 ?c18 ?k18 ?a19 ?l19 ?c19 ?k19 ?a20 ?l20 ?c20 ?k20 ?t20 ?a21 ?l21 ?c21 ?k21 ?a22 ?l22 ?c22 ?k22 ?a23 ?l23 ?c23 ?k23 ?a24 ?l24 ?c24 ?k24 ?a25 ?l25 ?c25 ?k25 ?a26 ?l26 ?c26 ?k26 ?a27 ?l27 ?c27 ?k27 ?a28 ?l28 ?c28 ?k28 ?a29 ?l29 ?c29 ?k29 ?a30 ?l30 ?c30 ?k30 ?a31 ?l31 ?c31 ?k31 ?a32 ?l32 ?c32 ?k32 ?a33 ?l33 ?c33 ?k33 ?a34 ?l34 ?c34 ?k34 ?a35 ?l35 ?c35 ?k35 ?a36 ?l36 ?c36 ?k36 ?z_all ?z_bool ?z_enumerate ?z_int ?z_isinstance ?z_len ?z_list ?z_min ?z_range ?z_set ?z_sorted ?z_str ?z_tuple ?g_MOST_GUESSES ?g_MOST_IN_BODY ?g_MOST_LETTERS ?g_MOST_RULES ?g_MOST_WORDS ?g_NO_WORDS ?gl_NO_WORDS
  (case a0=>k_is)
  (case l0=>k_is)
  (case c0=>k_is)
  (case k0=>k_is)
  (case a1=>k_is)
  (case l1=>k_is)
  (case c1=>k_is)
  (case k1=>k_is)
  (case a2=>k_is)
  (case l2=>k_is)
  (case c2=>k_is)
  (case k2=>k_is)
  (case a3=>k_is)
  (case l3=>k_is)
  (case c3=>k_is)
  (case k3=>k_is)
  (case a4=>k_is)
  (case l4=>k_is)
  (case c4=>k_is)
  (case k4=>k_is)
  (case a5=>k_is)
  (case l5=>k_is)
  (case c5=>k_is)
  (case k5=>k_is)
  (case a6=>k_is)
  (case l6=>k_is)
  (case c6=>k_is)
  (case k6=>k_is)
  (case a7=>k_is)
  (case l7=>k_is)
  (case c7=>k_is)
  (case k7=>k_is)
  (case a8=>k_is)
  (case l8=>k_is)
  (case c8=>k_is)
  (case k8=>k_is)
  (case a9=>k_is)
  (case l9=>k_is)
  (case c9=>k_is)
  (case k9=>k_is)
  (case a10=>k_is)
  (case l10=>k_is)
  (case c10=>k_is)
  (case k10=>k_is)
  (case a17=>k_is)
  (case l17=>k_is)
  (case c17=>k_is)
  (case k17=>k_is)
  (case a18=>k_is)
  (case l18=>k_is)
  (case c18=>k_is)
  (case k18=>k_is)
  (case a19=>k_is)
  (case l19=>k_is)
  (case c19=>k_is)
  (case k19=>k_is)
  (case a20=>k_is)
  (case l20=>k_is)
  (case c20=>k_is)
  (case k20=>k_is)
  (case t20=>k_is)
  (case a21=>k_is)
  (case l21=>k_is)
  (case c21=>k_is)
  (case k21=>k_is)
  (case a22=>k_is)
  (case l22=>k_is)
  (case c22=>k_is)
  (case k22=>k_is)
  (case a23=>k_is)
  (case l23=>k_is)
  (case c23=>k_is)
  (case k23=>k_is)
  (case a24=>k_is)
  (case l24=>k_is)
  (case c24=>k_is)
  (case k24=>k_is)
  (case a25=>k_is)
  (case l25=>k_is)
  (case c25=>k_is)
  (case k25=>k_is)
  (case a26=>k_is)
  (case l26=>k_is)
  (case c26=>k_is)
  (case k26=>k_is)
  (case a27=>k_is)
  (case l27=>k_is)
  (case c27=>k_is)
  (case k27=>k_is)
  (case a28=>k_is)
  (case l28=>k_is)
  (case c28=>k_is)
  (case k28=>k_is)
  (case a29=>k_is)
  (case l29=>k_is)
  (case c29=>k_is)
  (case k29=>k_is)
  (case a30=>k_is)
  (case l30=>k_is)
  (case c30=>k_is)
  (case k30=>k_is)
  (case a31=>k_is)
  (case l31=>k_is)
  (case c31=>k_is)
  (case k31=>k_is)
  (case a32=>k_is)
  (case l32=>k_is)
  (case c32=>k_is)
  (case k32=>k_is)
  (case a33=>k_is)
  (case l33=>k_is)
  (case c33=>k_is)
  (case k33=>k_is)
  (case a34=>k_is)
  (case l34=>k_is)
  (case c34=>k_is)
  (case k34=>k_is)
  (case a35=>k_is)
  (case l35=>k_is)
  (case c35=>k_is)
  (case k35=>k_is)
  (case a36=>k_is)
  (case l36=>k_is)
  (case c36=>k_is)
  (case k36=>k_is)
  (case z_all=>k_is)
  (case z_bool=>k_is)
  (case z_enumerate=>k_is)
  (case z_int=>k_is)
  (case z_isinstance=>k_is)
  (case z_len=>k_is)
  (case z_list=>k_is)
  (case z_min=>k_is)
  (case z_range=>k_is)
  (case z_set=>k_is)
  (case z_sorted=>k_is)
  (case z_str=>k_is)
  (case z_tuple=>k_is)
  (case g_MOST_GUESSES=>k_is)
  (case g_MOST_IN_BODY=>k_is)
  (case g_MOST_LETTERS=>k_is)
  (case g_MOST_RULES=>k_is)
  (case g_MOST_WORDS=>k_is)
  (case g_NO_WORDS=>k_is)
  (case gl_NO_WORDS=>k_is)
