import PyProof.Rows.All
import Wide.All
import OpenK.AllK
import Wide.FinOn
import Lean
import PyProof.EqAt
import PyProof.EqKinds
import PyProof.TupleCall
import KE.BitLaws
import KE.KRevIter
import KE.KUnpack
import KE.KSortTup
import PyProof.Rows.StrOver
import PyProof.ZipIter
import PyProof.StrLawsChain
import PyProof.StrBlock
import PyProof.FitsReplace
import PySem.Challenge.RW_doubthall_k02_rows_refused
set_option compiler.extract_closed false

-- CHANGE: your row's module here,as the last of these rows
set_option Elab.async false
set_option linter.all false
set_option maxRecDepth 100000
namespace L2
open PySem PySem.Spec PyProof.Rows

noncomputable abbrev Key:=Sum Int Str
noncomputable def keyIs:Key→Value→Bool
  | .inl k,v=>Value.isInt k v
  | .inr x,v=>Value.isStrOf x v
noncomputable def keyH (w:World):Key→Int
  | .inl k=>hashInt k
  | .inr x=>hashStr w x
theorem Zg:∀ {k:Key} {v:Value},keyIs k v=true→(∃ i t,k=Sum.inl i∧v=Value.int i t)∨(∃ x t,k=Sum.inr x∧v=Value.str x t)
  | .inl i,v,h=>by
    obtain ⟨t,e⟩:=Value.isInt_shape (k:=i) (v:=v) h
    exact .inl ⟨i,t,rfl,e⟩
  | .inr x,v,h=>by
    obtain ⟨t,e⟩:=Value.isStrOf_shape (x:=x) (v:=v) h
    exact .inr ⟨x,t,rfl,e⟩
theorem key_ll (a b:Int):decide ((Sum.inl a:Key)=Sum.inl b)=(a==b):=by
  by_cases e:a=b
  · subst e;simp
  · have h:¬ (Sum.inl a:Key)=Sum.inl b:=fun q=>e (Sum.inl.inj q)
    rw [decide_eq_false h]
    exact (beq_eq_false_iff_ne.mpr e).symm
theorem key_rr (a b:Str):decide ((Sum.inr a:Key)=Sum.inr b)=decide (a=b):=by
  by_cases e:a=b
  · subst e;simp
  · have h:¬ (Sum.inr a:Key)=Sum.inr b:=fun q=>e (Sum.inr.inj q)
    rw [decide_eq_false h,decide_eq_false e]
theorem key_lr (a:Int) (b:Str):decide ((Sum.inl a:Key)=Sum.inr b)=false:=decide_eq_false (fun q=>nomatch q)
theorem key_rl (a:Str) (b:Int):decide ((Sum.inr a:Key)=Sum.inl b)=false:=decide_eq_false (fun q=>nomatch q)

noncomputable def QdL (prog:Program) (w:World):PySem.KeyKind prog w Key where
  is:=keyIs
  hash:=keyH w
  inj:=fun v a b ha hb=>by
    rcases Zg ha with ⟨i,t,rfl,rfl⟩ | ⟨x,t,rfl,rfl⟩
    · rcases Zg hb with ⟨j,u,rfl,e⟩ | ⟨y,u,rfl,e⟩
      · injection e with e1 _;rw [e1]
      · exact nomatch e
    · rcases Zg hb with ⟨j,u,rfl,e⟩ | ⟨y,u,rfl,e⟩
      · exact nomatch e
      · injection e with e1 _;rw [e1]
  byValue:=fun k v h=>by
    rcases Zg h with ⟨i,t,rfl,rfl⟩ | ⟨x,t,rfl,rfl⟩ <;> rfl
  pyHash:=fun hv h=>by
    rcases Zg hv with ⟨i,t,rfl,rfl⟩ | ⟨x,t,rfl,rfl⟩
    · exact wpAny_pyHash_int h
    · exact wpAny_pyHash_str h
  eqBool:=fun hu hv h=>by
    rcases Zg hu with ⟨i,t,rfl,rfl⟩ | ⟨x,t,rfl,rfl⟩
    · rcases Zg hv with ⟨j,u,rfl,rfl⟩ | ⟨y,u,rfl,rfl⟩
      · rw [key_ll] at h;exact wpAny_eqBool_int h
      · rw [key_lr] at h;exact SeqAt.EqAt.int_str i t y u _ _ _ _ h
    · rcases Zg hv with ⟨j,u,rfl,rfl⟩ | ⟨y,u,rfl,rfl⟩
      · rw [key_rl] at h;exact SeqAt.EqAt.str_int x t j u _ _ _ _ h
      · rw [key_rr] at h;exact wpAny_eqBool_str h
  «strs»:=fun k x t v h=>by
    rcases Zg h with ⟨i,u,rfl,e⟩ | ⟨y,u,rfl,e⟩
    · exact nomatch e
    · injection e with e1 _
      subst e1
      cases v <;> rfl

end L2

namespace L2
open PySem PySem.Spec PyProof.Rows

inductive V where
  | non | bl (b:Bool) | int (i:Int) | str (x:Str) | byt (b:Array UInt8) | flt (b:UInt64) | ref (a:Addr) | ty (n:String)
  deriving DecidableEq

noncomputable def RelV:V→Value→Prop
  | .non,u=>u=Value.none
  | .bl b,u=>u=Value.bool b
  | .int i,u=>∃ t,u=Value.int i t
  | .str x,u=>∃ t,u=Value.str x t
  | .byt b,u=>∃ t,u=Value.bytes b t
  | .flt b,u=>∃ t,u=Value.float b t
  | .ref a,u=>u=Value.ref a
  | .ty n,u=>u=Value.type n

noncomputable abbrev Vals:List V→List Value→Prop:=Paired RelV
theorem Vals.length {xs:List V} {us:List Value} (r:Vals xs us):xs.length=us.length:=Paired.length r
theorem Vals.get:∀ {xs:List V} {us:List Value} {i:Nat} {x:V},Vals xs us→xs[i]?=some x→∃ u,us[i]?=some u∧RelV x u
  | _,_,_,_,.nil,e=>by simp at e
  | _,_,0,_,.cons r _,e=>by simp at e;subst e;exact ⟨_,rfl,r⟩
  | _,_,i + 1,x,.cons _ t,e=>by
    obtain ⟨u,h1,h2⟩:=Vals.get (i:=i) (x:=x) t (by simpa using e)
    exact ⟨u,by simpa using h1,h2⟩
theorem Vals.set {x:V} {u:Value} (r:RelV x u):∀ {xs:List V} {us:List Value} (i:Nat),Vals xs us→Vals (xs.set i x) (us.set i u)
  | _,_,_,.nil => .nil
  | _,_,0,.cons _ t => .cons r t
  | _,_,i + 1,.cons q t => .cons q (Vals.set r i t)
theorem Vals.append:∀ {xs ys:List V} {us ws:List Value},Vals xs us→Vals ys ws→Vals (xs++ys) (us++ws)
  | _,_,_,_,.nil,s=>s
  | _,_,_,_,.cons r t,s => .cons r (Vals.append t s)
theorem Vals.take:∀ {xs:List V} {us:List Value} (n:Nat),Vals xs us→Vals (xs.take n) (us.take n)
  | _,_,0,_ => .nil
  | _,_,_ + 1,.nil => .nil
  | _,_,n + 1,.cons r t => .cons r (Vals.take n t)
theorem Vals.drop:∀ {xs:List V} {us:List Value} (n:Nat),Vals xs us→Vals (xs.drop n) (us.drop n)
  | _,_,0,r=>r
  | _,_,_ + 1,.nil => .nil
  | _,_,n + 1,.cons _ t=>Vals.drop n t
noncomputable def RelO:Option V→Option Value→Prop
  | some v,some u=>RelV v u
  | none,none=>True
  | _,_=>False
noncomputable def KV {κ:Type}:List (κ×V)→List (κ×Value)→Prop:=Paired fun (p : κ×V) (q : κ×Value)=>p.1=q.1∧RelV p.2 q.2

noncomputable def kV:Key→V
  | .inl i => .int i
  | .inr x => .str x

inductive HO where
  /-- a list -/
  | lst (xs:List V)
  /-- a tuple (never changes) -/
  | tup (xs:List V)
  /-- a dict whose keys are ints and texts;one whose keys are tuples of ints and texts (the empty one is both) -/
  | dK (kvs:List (Key×V)) | dT (kvs:List (List Key×V))
  /-- a set of ints: its members,its size -/
  | set (S:Int→Bool) (n:Nat)
  /-- an instance of the class at C,its dict at dx,its attributes -/
  | ins (C dx:Addr) (fs:List (Str×V))
  /-- the dict of the instance at x -/
  | own (x:Addr)
  /-- the dict of an exception -/
  | xd (fs:List (Str×V))
  /-- a bound method,f of x -/
  | met (f x:Addr)
  /-- a range object lo,lo + 1,.. below hi -/
  | rng (lo hi:Int)
  /-- a thing that is known to the object (the script;a dict while a loop walks it): read,never written while it is so -/
  | frz (o:Obj) (u:HO)
  /-- a code object's table -/
  | tbl (ps:Array Value)
  /-- any other thing,by what is true of its one object (a def of one's own: SetO a S n:=HO.ext fun h => ..) -/
  | ext (φ:Heap→Prop)

noncomputable abbrev Hp:=Addr→Option HO
noncomputable def upd (H:Hp) (a:Addr) (o:HO):Hp:=fun b=>if b=a then some o else H b
theorem Qp {H:Hp} {a:Addr} {o:HO}:upd H a o a=some o:=by unfold upd;rw [if_pos rfl]
theorem Qk {H:Hp} {a b:Addr} {o:HO} (h:b≠a):upd H a o b=H b:=by unfold upd;rw [if_neg h]
theorem Qga {H:Hp} {a:Addr} {o u:HO}:upd (upd H a o) a u=upd H a u:=by
  funext b;unfold upd;split <;> rfl
theorem QhD {H:Hp} {a b:Addr} {o u:HO} (h:H a=some o) (h':H b=some u) (d:o≠u):a≠b:=by
  intro e;subst e;rw [h] at h';exact d (Option.some.inj h')
theorem Qn {H:Hp} {a b:Addr} {o:HO} (h:H a=some o) (h':H b=none):a≠b:=by
  intro e;subst e;rw [h] at h';cases h'

section
variable (P:Program) (w:World)
noncomputable def QaI (h:Heap) (a:Addr) (items:Array Value) (xs:List V):Prop:=∃ o,h.get? a=some o∧o.cls = .type "tuple"∧(o.dict=none∨∃ (i:Int) (y:V),xs=[V.int i,y])∧∃ n,o.data = .seq items n
theorem QaI.is {h:Heap} {a:Addr} {items:Array Value} {xs:List V} (x:QaI h a items xs):IsTup h a items:=let ⟨o,h1,h2,_,h3⟩:=x;⟨o,h1,h2,h3⟩
theorem QaI.new (h:Heap) (items:Array Value) (xs:List V):QaI (h.push { cls := .type "tuple",data := .seq items }) h.objs.size items xs:=⟨_,Heap.get?_push_size _ rfl,rfl,.inl rfl,_,rfl⟩
noncomputable def Ym (H:Hp) (h:Heap) (a:Addr):HO→Prop
  | .lst xs=>xs.length≤sizeLine∧∃ (its:List Value) (n:Nat),Vals xs its∧h.get? a=some { cls := .type "list",data := .seq its.toArray n }
  | .tup xs=>xs.length≤sizeLine∧∃ its:List Value,Vals xs its∧QaI h a its.toArray xs
  | .dK kvs=>kvs.length≤sizeLine∧(a==sysModules)=false∧∃ vs,KV kvs vs∧h.DictOf (QdL P w) a vs
  | .dT kvs=>kvs.length≤sizeLine∧(a==sysModules)=false∧∃ xs:List (List Key×Addr×Value),
      Paired (fun (p:List Key×V) (q:List Key×Addr×Value)=>p.1=q.1∧H q.2.1=some (.tup (p.1.map kV))∧RelV p.2 q.2.2) kvs xs ∧
      ∃ o es ep,h.get? a=some o∧o.ExactDict∧o.data = .dict es ep∧es.toList=xs.map (entryOfKey (tupleKind (QdL P w)))∧(xs.map (·.1)).Nodup
  | .set S n=>h.SetOf (intKind P w) a S n
  | .ins C dx fs=>H dx=some (.own a)∧fs.length≤1000∧dx≠a∧h.get? a=some (PySem.W.instObj C dx) ∧
      ∃ mA,h.Ns1 dx mA∧(∀ f,RelO (fs.lookup f) (mA f))∧PySem.Within mA (fs.map (·.1))
  | .own _=>∃ o,h.get? a=some o
  | .xd fs=>∃ mA,h.Ns1 a mA∧∀ f,RelO (fs.lookup f) (mA f)
  | .rng lo hi=>∃ t u v,h.get? a=some { cls := .type "range",data := .fields #[.int lo t,.int hi u,.int 1 v] }
  | .frz o u=>h.get? a=some o∧Ym H h a u
  | .tbl ps=>h.get? a=some { cls := .none,data := .fields ps }
  | .met f x=>h.get? a=some (PySem.W.methodObj (.ref f) (.ref x))
  | .ext φ=>φ h∧(∃ o,h.get? a=some o)∧∀ h1 h2:Heap,φ h1→(∀ o,h1.get? a=some o→h2.get? a=some o)→φ h2
noncomputable def HOk (H:Hp) (h:Heap):Prop:=∀ a o,H a=some o→Ym P w H h a o
end

section
variable {P:Program} {w:World} {H H':Hp} {h h':Heap} {a:Addr} {o:HO}
theorem Ym.lt (x:Ym P w H h a o):a < h.objs.size:=by
  cases o with
  | lst xs=>obtain ⟨_,_,_,_,e⟩:=x;exact Heap.lt_size e
  | tup xs=>obtain ⟨_,_,_,p⟩:=x;exact p.is.lt
  | dK kvs=>obtain ⟨_,_,_,_,o,_,_,e,_⟩:=x;exact Heap.lt_size e
  | dT kvs=>obtain ⟨_,_,_,_,o,_,_,e,_⟩:=x;exact Heap.lt_size e
  | set S n=>obtain ⟨o,_,_,_,e,_⟩:=x;exact Heap.lt_size e
  | ins C dx fs=>obtain ⟨_,_,_,e,_⟩:=x;exact Heap.lt_size e
  | own y=>obtain ⟨_,e⟩:=x;exact Heap.lt_size e
  | xd fs=>obtain ⟨_,⟨_,_,_,e,_⟩,_⟩:=x;exact Heap.lt_size e
  | rng lo hi=>obtain ⟨_,_,_,e⟩:=x;exact Heap.lt_size e
  | frz ob u=>obtain ⟨e,_⟩:=x;exact Heap.lt_size e
  | tbl ps=>exact Heap.lt_size (show h.get? a=some _ from x)
  | met f y=>exact Heap.lt_size (show h.get? a=some _ from x)
  | ext φ=>obtain ⟨_,⟨_,e⟩,_⟩:=x;exact Heap.lt_size e
theorem Paired.mapP {α β:Type} {F G:α→β→Prop}:∀ {l₁:List α} {l₂:List β},Paired F l₁ l₂→(∀ a b,F a b→G a b)→Paired G l₁ l₂
  | _,_,.nil,_ => .nil
  | _,_,.cons r t,f => .cons (f _ _ r) (Paired.mapP t f)
theorem Ym.stay (x:Ym P w H h a o) (k:∀ b u,(b=a∨H b=some (.own a))→h.get? b=some u→h'.get? b=some u)
    (ho:∀ b,H b=some (.own a)→H' b=some (.own a)) (ht:∀ b xs,H b=some (.tup xs)→H' b=some (.tup xs)):Ym P w H' h' a o:=by
  induction o with
  | lst xs=>obtain ⟨z,its,n,r,e⟩:=x;exact ⟨z,its,n,r,k _ _ (.inl rfl) e⟩
  | tup xs=>obtain ⟨z,its,r,ob,e,c⟩:=x;exact ⟨z,its,r,ob,k _ _ (.inl rfl) e,c⟩
  | dK kvs=>obtain ⟨z,y,vs,r,ob,es,ep,e,c⟩:=x;exact ⟨z,y,vs,r,ob,es,ep,k _ _ (.inl rfl) e,c⟩
  | dT kvs =>
    obtain ⟨z,y,xs,r,ob,es,ep,e,c⟩:=x
    exact ⟨z,y,xs,Paired.mapP r fun p q z=>⟨z.1,ht _ _ z.2.1,z.2.2⟩,ob,es,ep,k _ _ (.inl rfl) e,c⟩
  | set S n=>obtain ⟨ob,es,ep,t,e,c⟩:=x;exact ⟨ob,es,ep,t,k _ _ (.inl rfl) e,c⟩
  | ins C dx fs =>
    obtain ⟨d,z,ne,e,mA,⟨od,es,ep,e2,c⟩,r⟩:=x
    exact ⟨ho _ d,z,ne,k _ _ (.inl rfl) e,mA,⟨od,es,ep,k _ _ (.inr d) e2,c⟩,r⟩
  | own y=>obtain ⟨ob,e⟩:=x;exact ⟨ob,k _ _ (.inl rfl) e⟩
  | xd fs=>obtain ⟨mA,⟨od,es,ep,e,c⟩,r⟩:=x;exact ⟨mA,⟨od,es,ep,k _ _ (.inl rfl) e,c⟩,r⟩
  | rng lo hi=>obtain ⟨t,u,v,e⟩:=x;exact ⟨t,u,v,k _ _ (.inl rfl) e⟩
  | frz ob u ih=>obtain ⟨e,q⟩:=x;exact ⟨k _ _ (.inl rfl) e,ih q⟩
  | tbl ps =>
    have e:h.get? a=some { cls := .none,data := .fields ps }:=x
    show h'.get? a=some { cls := .none,data := .fields ps }
    exact k a _ (.inl rfl) e
  | met f y =>
    have e:h.get? a=some (PySem.W.methodObj (.ref f) (.ref y)):=x
    show h'.get? a=some (PySem.W.methodObj (.ref f) (.ref y))
    exact k a _ (.inl rfl) e
  | ext φ=>obtain ⟨p,⟨o,e⟩,st⟩:=x;exact ⟨st _ _ p fun o q=>k _ _ (.inl rfl) q,⟨o,k _ _ (.inl rfl) e⟩,st⟩
theorem HOk.lt (x:HOk P w H h) (e:H a=some o):a < h.objs.size:=(x a o e).lt
theorem HOk.fresh (x:HOk P w H h) (e:h.objs.size≤a):H a=none:=by
  cases q:H a with
  | none=>rfl
  | some u=>exact absurd (Nat.lt_of_lt_of_le (x.lt q) e) (Nat.lt_irrefl _)
theorem HOk.kept (x:HOk P w H h) (k:∀ b u,h.get? b=some u→h'.get? b=some u):HOk P w H h':=fun a o e =>
  (x a o e).stay (fun b u _ q=>k b u q) (fun _ q=>q) fun _ _ q=>q
theorem HOk.laid (x:HOk P w H h) (k:∀ b u,h.get? b=some u→h'.get? b=some u) (hp:h.objs.size≤a) (new:Ym P w (upd H a o) h' a o):HOk P w (upd H a o) h':=fun b u e=>by
  have hn:=x.fresh hp
  by_cases hb:b=a
  · subst hb;rw [Qp] at e;cases e;exact new
  · rw [Qk hb] at e
    exact (x b u e).stay (fun c v _ q=>k c v q) (fun c q=>by rw [Qk (Qn q hn)];exact q) fun c xs q=>by rw [Qk (Qn q hn)];exact q
end

noncomputable def Rd (H:Hp) (a:Addr) (u:HO):Prop:=H a=some u∨∃ o,H a=some (.frz o u)
theorem Rd.of {H:Hp} {a:Addr} {u:HO} (h:H a=some u):Rd H a u := .inl h
theorem Rd.ok {P:Program} {w:World} {H:Hp} {h:Heap} {a:Addr} {u:HO} (r:Rd H a u) (x:HOk P w H h):Ym P w H h a u:=by
  rcases r with r | ⟨o,r⟩
  · exact x a u r
  · obtain ⟨_,q⟩:=x a _ r
    exact q
noncomputable def Mut:Option HO→Prop
  | some (.lst _)=>True
  | some (.dK _)=>True
  | some (.dT _)=>True
  | some (.set _ _)=>True
  | some (.ins _ _ _)=>True
  | some (.ext _)=>True
  | _=>False
section
variable {P:Program} {w:World} {H:Hp} {h h':Heap} {x e:Addr} {o':HO}
theorem HOk.write (ok:HOk P w H h) (mu:Mut (H x)) (he:e=x∨H e=some (.own x)) (k:∀ b u,b≠e→h.get? b=some u→h'.get? b=some u) (heo:∃ u,h'.get? e=some u)
    (new:Ym P w (upd H x o') h' x o'):HOk P w (upd H x o') h':=fun b u q=>by
  have nown:∀ c y,H c=some (.own y)→c≠x:=fun c y r z=>by subst z;rw [r] at mu;exact mu
  have ntup:∀ c xs,H c=some (.tup xs)→c≠x:=fun c xs r z=>by subst z;rw [r] at mu;exact mu
  by_cases hb:b=x
  · subst hb;rw [Qp] at q;cases q;exact new
  · rw [Qk hb] at q
    by_cases hbe:b=e
    · have q':H b=some (.own x):=by
        rcases he with z | z
        · exact absurd (hbe.trans z) hb
        · rw [hbe];exact z
      rw [q] at q';cases q'
      obtain ⟨v,hv⟩:=heo
      exact ⟨v,by rw [hbe];exact hv⟩
    · refine (ok b u q).stay (fun c v hc r=>k c v ?_ r) (fun c r=>by rw [Qk (nown c b r)];exact r) fun c xs r=>by rw [Qk (ntup c xs r)];exact r
      rcases hc with rfl | hc
      · exact hbe
      · rintro rfl
        rcases he with z | z
        · exact nown c b hc z
        · rw [hc] at z;cases z;exact hb rfl
end

structure Un (fs ex:List Addr) (H H':Hp) (h h':Heap):Prop where
  keep:∀ b o,h.get? b=some o→H b=none→b∉fs→b∉ex→h'.get? b=some o
  slot:∀ b o,h.get? b=some o→H b=none→b∈fs→b∉ex→∃ sl,h'.get? b=some { o with slots:=sl }
  free:∀ b o,h.get? b=some o→H b=none→b∉ex→H' b=none
  there:∀ b o,h.get? b=some o→b∉ex→∃ o',h'.get? b=some o'
  tups:∀ b xs,H b=some (.tup xs)→H' b=some (.tup xs)
  frzs:∀ b o u,H b=some (.frz o u)→H' b=some (.frz o u)
  tbls:∀ b ps,H b=some (.tbl ps)→∃ more,H' b=some (.tbl (ps++more))
section
variable {fs fs' ex ex':List Addr} {H H1 H2:Hp} {h h1 h2 h':Heap} {a x e:Addr} {o:HO}
theorem Un.any (u:Un fs ex H H1 h h1) {b:Addr} {ob:Obj} (q:h.get? b=some ob) (n:H b=none) (hx:b∉ex):∃ sl,h1.get? b=some { ob with slots:=sl }:=by
  by_cases hb:b∈fs
  · exact u.slot b ob q n hb hx
  · exact ⟨ob.slots,u.keep b ob q n hb hx⟩
theorem Un.trans (a:Un fs ex H H1 h h1) (b:Un fs ex H1 H2 h1 h2):Un fs ex H H2 h h2 where
  keep:=fun c ob q n hc hx=>b.keep c ob (a.keep c ob q n hc hx) (a.free c ob q n hx) hc hx
  slot:=fun c ob q n hc hx=>by
    obtain ⟨sl,e1⟩:=a.slot c ob q n hc hx
    obtain ⟨sl',e2⟩:=b.slot c _ e1 (a.free c ob q n hx) hc hx
    exact ⟨sl',e2⟩
  free:=fun c ob q n hx=>by
    obtain ⟨o',e1⟩:=a.there c ob q hx
    exact b.free c o' e1 (a.free c ob q n hx) hx
  there:=fun c ob q hx=>by
    obtain ⟨o',e1⟩:=a.there c ob q hx
    exact b.there c o' e1 hx
  tups:=fun c xs q=>b.tups c xs (a.tups c xs q)
  frzs:=fun c ob xs q=>b.frzs c ob xs (a.frzs c ob xs q)
  tbls:=fun c ps q=>by
    obtain ⟨m1,e1⟩:=a.tbls c ps q
    obtain ⟨m2,e2⟩:=b.tbls c _ e1
    exact ⟨m1++m2,by rw [e2,Array.append_assoc]⟩
theorem Un.kept (k:∀ b u,h.get? b=some u→h'.get? b=some u):Un fs ex H H h h' :=
  ⟨fun b ob q _ _ _=>k b ob q,fun b ob q _ _ _=>⟨ob.slots,k b ob q⟩,fun _ _ _ n _=>n,fun b ob q _=>⟨ob,k b ob q⟩,fun _ _ q=>q,fun _ _ _ q=>q,fun _ ps q=>⟨#[],by rw [q];simp⟩⟩
theorem Un.refl:Un fs ex H H h h:=Un.kept fun _ _ q=>q
theorem Un.laid (k:∀ b u,h.get? b=some u→h'.get? b=some u) (hp:h.objs.size≤a) (hn:H a=none):Un fs ex H (upd H a o) h h' where
  keep:=fun b u q _ _ _=>k b u q
  slot:=fun b u q _ _ _=>⟨u.slots,k b u q⟩
  free:=fun b u q n _=>by rw [Qk (Nat.ne_of_lt (Nat.lt_of_lt_of_le (Heap.lt_size q) hp))];exact n
  there:=fun b u q _=>⟨u,k b u q⟩
  tups:=fun b xs q=>by rw [Qk (Qn q hn)];exact q
  frzs:=fun b u xs q=>by rw [Qk (Qn q hn)];exact q
  tbls:=fun b ps q=>⟨#[],by rw [Qk (Qn q hn),q];simp⟩
theorem Un.write (mu:Mut (H x)) (he:e=x∨H e=some (.own x)) (k:∀ b u,b≠e→h.get? b=some u→h'.get? b=some u) (heo:∃ u,h'.get? e=some u):Un fs ex H (upd H x o) h h':=by
  have hx:∀ b,H b=none→b≠x:=fun b n z=>by subst z;rw [n] at mu;exact mu
  have hb:∀ b,H b=none→b≠e:=fun b n z=>by
    subst z
    rcases he with r | r
    · exact hx b n r
    · rw [n] at r;cases r
  have hm:∀ b u,H b=some u→¬ Mut (some u)→b≠x:=fun b u q nm z=>by subst z;rw [q] at mu;exact nm mu
  refine ⟨fun b u q n _ _=>k b u (hb b n) q,fun b u q n _ _=>⟨u.slots,k b u (hb b n) q⟩,fun b u q n _=>by rw [Qk (hx b n)];exact n,fun b u q _ => ?_,
    fun b xs q=>by rw [Qk (hm b _ q fun z=>z)];exact q,fun b u xs q=>by rw [Qk (hm b _ q fun z=>z)];exact q,fun b ps q=>⟨#[],by rw [Qk (hm b _ q fun z=>z),q];simp⟩⟩
  by_cases hbe:b=e
  · subst hbe;exact heo
  · exact ⟨u,k b u hbe q⟩
theorem Un.mono (u:Un fs ex H H1 h h1) (hs:∀ b∈fs,b∈fs') (hx:∀ b∈ex,b∈ex'):Un fs' ex' H H1 h h1 :=
  ⟨fun b ob q n hb he=>u.keep b ob q n (fun z=>hb (hs b z)) fun z=>he (hx b z),fun _ _ q n _ he=>u.any q n fun z=>he (hx _ z),fun b ob q n he=>u.free b ob q n fun z=>he (hx b z),fun b ob q he=>u.there b ob q fun z=>he (hx b z),u.tups,u.frzs,u.tbls⟩
end

noncomputable def trk (h:Heap) (H:Hp):List Addr:=(List.range h.objs.size).filter fun a=>(H a).isSome
noncomputable def hidT (h:Heap) (H:Hp):Heap:=PySem.W.hideAll h (trk h H)
theorem Qhe (h:Heap) (H:Hp):(hidT h H).objs.size=h.objs.size:=PySem.W.hideAll_size _ _
theorem hidT_get {h:Heap} {H:Hp} {b:Addr} {o:Obj} (e:h.get? b=some o) (n:H b=none):(hidT h H).get? b=some o :=
  PySem.W.hideAll_get _ e fun hm=>by
    have q:(H b).isSome=true:=(List.mem_filter.mp hm).2
    rw [n] at q;simp at q
theorem of_hidT {h:Heap} {H:Hp} {b:Addr} {o:Obj} (e:(hidT h H).get? b=some o):h.get? b=some o∧H b=none:=by
  have e':h.get? b=some o:=PySem.W.of_hideAll (trk h H) e
  refine ⟨e',?_⟩
  cases q:H b with
  | none=>rfl
  | some x =>
    have hm:b∈trk h H:=List.mem_filter.mpr ⟨List.mem_range.mpr (Heap.lt_size e'),by simp [q]⟩
    have z:(hidT h H).get? b=none:=PySem.W.hideAll_none (trk h H) hm
    rw [z] at e;cases e

noncomputable def allNews (g h:Heap) (L:Addr):List (Addr×Obj):=(List.range h.objs.size).filterMap fun a=>if a=L∨(g.get? a).isSome=true then none else (h.get? a).map fun o=>(a,o)
noncomputable def rest (g h:Heap) (L d:Addr):List (Addr×Obj):=(allNews g h L).filter fun p=>decide (p.1≠d)
end L2

namespace L2
open PySem PySem.Spec PyProof.Rows

structure Mod (K:PySem.W.Frag) (mg:Str→Option Value) (base:Heap):Prop where
  kin:K.In base
  glob:base.Ns mainGlobals mg
  blt:∃ mb,base.Ns builtinsNs mb∧∀ x:Str,x ≠ "__name__"→mb x=bootBuiltins x
  nolimit:base.NoLimit

structure Cx where
  prog:Program
  w:World
  K:PySem.W.Frag
  mg:Str→Option Value
  base:Heap
  A:Around
  N:List Str
  s₀:Shared
  H₀:Hp
  env:Env
  outer:List Env
  stack:List Env
  ex:List Addr
  fn:Str→Bool
  calm:Bool
  pn:List (Addr×Obj)
  xe:Value→Shared→Prop
noncomputable def frs (l:List Env):List Addr:=l.filterMap (·.frame)
noncomputable abbrev Cx.fs (X:Cx):List Addr:=frs X.outer

noncomputable def Vis (sc:Scope) (x:Str):Prop:=sc.names.lookup x=some .local∨sc.names.lookup x=some .cell∨sc.names.lookup x=some .free
noncomputable def Loc (sc:Scope) (x:Str):Prop:=sc.names.lookup x=some .local∨sc.names.lookup x=some .cell
noncomputable def Look (env:Env) (h:Heap) (m:Str→Option Value) (x:Str) (u:Value):Prop :=
  (env.kindOf x=some .local∧m x=some u)∨((env.kindOf x=some .cell∨env.kindOf x=some .free)∧∃ c,env.cells.lookup x=some c∧h.IsCell c (some u))

structure Cx.Ok (X:Cx):Prop where
  mod:Mod X.K X.mg X.base
  kind:X.env.scope.kind = .function
  glob:X.env.globals=mainGlobals
  blt:X.env.builtins=builtinsNs
  above:X.s₀.heap.objs.size≤X.env.locals
  inj:∀ x y c,X.env.cells.lookup x=some c→X.env.cells.lookup y=some c→x=y
  has:∀ x,(X.env.kindOf x=some .cell∨X.env.kindOf x=some .free)→∃ c,X.env.cells.lookup x=some c
  cab:∀ x c,X.fn x=true→X.env.cells.lookup x=some c→X.s₀.heap.objs.size≤c
  hd:X.calm=true→X.A.handled=none
  frames:X.A.frames=some X.stack
  stk:X.stack=X.outer∨(X.stack=X.env :: X.outer∧X.env.frame=some X.env.locals)
  exf:∀ b∈X.ex,b≠X.env.locals∧∀ x c,X.env.cells.lookup x=some c→c≠b
  bs:∀ b o,X.base.get? b=some o→X.s₀.heap.get? b=some o∧X.H₀ b=none
  bsz:X.base.objs.size≤X.s₀.heap.objs.size
  noex:∀ b o,X.base.get? b=some o→b∉X.ex
  exfs:∀ b∈X.ex,b∉X.fs
  funs:X.s₀.heap.FunFrames X.base X.outer
  frf:∀ b∈X.fs,X.H₀ b=none

structure Inv (X:Cx) (pins:List (Addr×Obj)) (σ:List (Option V)) (H:Hp) (s:Shared):Prop where
  ok:X.Ok
  os:s.os=X.s₀.os
  bare:AllBare s.gens
  base:Un X.fs X.ex X.H₀ H X.s₀.heap s.heap
  loc:∃ m,s.heap.Ns X.env.locals m∧∀ (i:Nat) (x:Str) (v:V),X.N[i]?=some x→σ[i]?=some (some v)→Vis X.env.scope x→∃ u,RelV v u∧Look X.env s.heap m x u
  cell:∀ x c,X.env.cells.lookup x=some c→∃ v,s.heap.IsCell c v
  free:H X.env.locals=none
  freeC:∀ x c,X.env.cells.lookup x=some c→H c=none
  pin:∀ p∈X.pn++pins,s.heap.get? p.1=some p.2∧H p.1=none∧p.1≠X.env.locals∧p.1∉X.fs∧∀ v,p.2.data ≠ .cell v
  hok:HOk X.prog X.w H s.heap
  len:σ.length=X.N.length

section
variable {X:Cx} {pins:List (Addr×Obj)} {σ:List (Option V)} {H H':Hp} {s:Shared} {h':Heap}

theorem Cx.Ok.nofr (ok:X.Ok) {b:Addr} {o:Obj} (e:X.base.get? b=some o):b∉X.fs:=fun hb=>by
  have:=(ok.funs.mem hb).1
  rw [e] at this;cases this
theorem Inv.bs (I:Inv X pins σ H s):∀ b o,X.base.get? b=some o→s.heap.get? b=some o∧H b=none:=fun b o e =>
  ⟨I.base.keep b o (I.ok.bs b o e).1 (I.ok.bs b o e).2 (I.ok.nofr e) (I.ok.noex b o e),I.base.free b o (I.ok.bs b o e).1 (I.ok.bs b o e).2 (I.ok.noex b o e)⟩
theorem Inv.bk (I:Inv X pins σ H s):∀ b o,X.base.get? b=some o→s.heap.get? b=some o:=fun b o e=>(I.bs b o e).1
theorem Inv.mod (I:Inv X pins σ H s):Mod X.K X.mg X.base:=I.ok.mod
theorem Inv.kIn (I:Inv X pins σ H s):X.K.In s.heap:=I.ok.mod.kin.keeps I.bk
theorem Inv.nolimit (I:Inv X pins σ H s):s.heap.NoLimit:=I.ok.mod.nolimit.keeps I.bk
theorem Inv.lt (I:Inv X pins σ H s):X.env.locals < s.heap.objs.size:=let ⟨_,hn,_⟩:=I.loc;hn.lt
theorem Inv.sz (I:Inv X pins σ H s):X.s₀.heap.objs.size≤s.heap.objs.size:=Nat.le_trans I.ok.above (Nat.le_of_lt I.lt)
theorem Inv.nofs (I:Inv X pins σ H s) {a:Addr} (h:s.heap.objs.size≤a):a∉X.fs:=fun hb=>by
  obtain ⟨_,o,ho,_⟩:=I.ok.funs.mem hb
  exact absurd (Nat.lt_of_lt_of_le (Heap.lt_size ho) (Nat.le_trans I.sz h)) (Nat.lt_irrefl _)
theorem Inv.cne (I:Inv X pins σ H s):∀ x c,X.env.cells.lookup x=some c→c≠X.env.locals:=fun x c e z=>by
  obtain ⟨v,o,ho,hd⟩:=I.cell x c e
  obtain ⟨m,⟨o',es,ep,ho',hd',_⟩,_⟩:=I.loc
  rw [z,ho'] at ho;cases ho;rw [hd'] at hd;cases hd
theorem Inv.funs (I:Inv X pins σ H s):s.heap.FunFrames X.base X.outer:=by
  have all:∀ (l:List Env),(∀ b∈frs l,b∈X.fs)→X.s₀.heap.FunFrames X.base l→s.heap.FunFrames X.base l:=by
    intro l
    induction l with
    | nil=>intro _ _;trivial
    | cons env r ih =>
      intro hs hl
      obtain ⟨hk,⟨L,o,hf,hn,ho,hd⟩,hr⟩:=hl
      have hL:L∈X.fs:=hs L (by unfold frs;rw [List.filterMap_cons,hf];exact List.mem_cons_self)
      obtain ⟨sl,e⟩:=I.base.slot L o ho (I.ok.frf L hL) hL fun z=>I.ok.exfs L z hL
      exact ⟨hk,⟨L,_,hf,hn,e,hd⟩,ih (fun b hb=>hs b (by unfold frs;rw [List.filterMap_cons,hf];exact List.mem_cons_of_mem _ hb)) hr⟩
  exact all X.outer (fun _ hb=>hb) I.ok.funs

theorem Inv.stack (I:Inv X pins σ H s):s.heap.FunFrames X.base X.stack:=by
  rcases I.ok.stk with e | ⟨e,hf⟩
  · rw [e];exact I.funs
  · rw [e]
    obtain ⟨m,hn,_⟩:=I.loc
    refine .cons (by rw [I.ok.kind];decide) hf hn ?_ I.funs
    exact Heap.get?_none_of_le (Nat.le_trans I.ok.bsz I.ok.above)
theorem Inv.stkSub (I:Inv X pins σ H s):∀ b∈frs X.stack,b∈X.env.locals :: X.fs:=fun b hb=>by
  rcases I.ok.stk with e | ⟨e,hf⟩
  · rw [e] at hb;exact List.mem_cons_of_mem _ hb
  · rw [e] at hb
    unfold frs at hb
    rw [List.filterMap_cons,hf] at hb
    exact hb
theorem Inv.stkFree (I:Inv X pins σ H s):∀ b∈frs X.stack,H b=none:=fun b hb=>by
  rcases List.mem_cons.mp (I.stkSub b hb) with e | hb
  · rw [e];exact I.free
  · obtain ⟨_,o,ho,_⟩:=I.ok.funs.mem hb
    exact I.base.free b o ho (I.ok.frf b hb) fun z=>I.ok.exfs b z hb

theorem Inv.step {g':Array GenState} {t':Nat} {d':Drawn} {ch:List Addr} (I:Inv X pins σ H s)
    (hch:∀ b∈ch,(b∈X.ex∨X.s₀.heap.objs.size≤b)∧b≠X.env.locals∧(∀ x c,X.env.cells.lookup x=some c→c≠b)∧∀ p∈X.pn++pins,p.1≠b)
    (keep:∀ b o,b≠X.env.locals→b∉X.fs→b∉ch→s.heap.get? b=some o→H b=none→h'.get? b=some o)
    (slot:∀ b o,b≠X.env.locals→b∈X.fs→b∉ch→s.heap.get? b=some o→H b=none→∃ sl,h'.get? b=some { o with slots:=sl }) (free:∀ b o,b∉ch→s.heap.get? b=some o→H b=none→H' b=none)
    (there:∀ b o,b∉ch→s.heap.get? b=some o→∃ o',h'.get? b=some o')
    (tups:∀ b xs,H b=some (.tup xs)→H' b=some (.tup xs)) (frzs:∀ b o u,H b=some (.frz o u)→H' b=some (.frz o u)) (tbls:∀ b ps,H b=some (.tbl ps)→∃ more,H' b=some (.tbl (ps++more)))
    (ns:∀ m,s.heap.Ns X.env.locals m→h'.Ns X.env.locals m) (hok:HOk X.prog X.w H' h') (hg:AllBare g') :
    Inv X pins σ H' { s with heap:=h',gens:=g',drawn:=d',toks:=t' }:=by
  have neL:∀ b o,X.s₀.heap.get? b=some o→b≠X.env.locals:=fun b o e=>Nat.ne_of_lt (Nat.lt_of_lt_of_le (Heap.lt_size e) I.ok.above)
  have neC:∀ b o,X.s₀.heap.get? b=some o→b∉X.ex→b∉ch:=fun b o e hx hb=>by
    rcases (hch b hb).1 with z | z
    · exact hx z
    · exact absurd (Nat.lt_of_lt_of_le (Heap.lt_size e) z) (Nat.lt_irrefl _)
  have cellK:∀ x c,X.env.cells.lookup x=some c→∀ v,s.heap.IsCell c v→h'.IsCell c v:=fun x c e v ⟨o,ho,hd⟩=>by
    have nch:c∉ch:=fun z=>(hch c z).2.2.1 x c e rfl
    by_cases hc:c∈X.fs
    · obtain ⟨sl,q⟩:=slot c o (I.cne x c e) hc nch ho (I.freeC x c e)
      exact ⟨_,q,hd⟩
    · exact ⟨o,keep c o (I.cne x c e) hc nch ho (I.freeC x c e),hd⟩
  refine ⟨I.ok,I.os,hg,⟨fun b o e n hb hx => ?_,fun b o e n hb hx => ?_,fun b o e n hx => ?_,fun b o e hx => ?_,fun b xs e=>tups b xs (I.base.tups b xs e),fun b o xs e=>frzs b o xs (I.base.frzs b o xs e),fun b ps e => ?_⟩,?_,fun x c e => ?_,?_,fun x c e => ?_,fun p hp => ?_,hok,I.len⟩
  · exact keep b o (neL b o e) hb (neC b o e hx) (I.base.keep b o e n hb hx) (I.base.free b o e n hx)
  · obtain ⟨sl,e1⟩:=I.base.slot b o e n hb hx
    obtain ⟨sl',e2⟩:=slot b _ (neL b o e) hb (neC b o e hx) e1 (I.base.free b o e n hx)
    exact ⟨sl',e2⟩
  · obtain ⟨o',e1⟩:=I.base.there b o e hx
    exact free b o' (neC b o e hx) e1 (I.base.free b o e n hx)
  · obtain ⟨o',e1⟩:=I.base.there b o e hx
    exact there b o' (neC b o e hx) e1
  · obtain ⟨m1,e1⟩:=I.base.tbls b ps e
    obtain ⟨m2,e2⟩:=tbls b _ e1
    exact ⟨m1++m2,by rw [e2,Array.append_assoc]⟩
  · obtain ⟨m,hn,hl⟩:=I.loc
    refine ⟨m,ns m hn,fun i x v e1 e2 e3 => ?_⟩
    obtain ⟨u,r,l⟩:=hl i x v e1 e2 e3
    refine ⟨u,r,?_⟩
    rcases l with l | ⟨k,c,e,z⟩
    · exact .inl l
    · exact .inr ⟨k,c,e,cellK x c e _ z⟩
  · obtain ⟨v,z⟩:=I.cell x c e
    exact ⟨v,cellK x c e v z⟩
  · obtain ⟨m,⟨o,_,_,ho,_⟩,_⟩:=I.loc
    exact free _ o (fun z=>(hch _ z).2.1 rfl) ho I.free
  · obtain ⟨v,o,ho,hd⟩:=I.cell x c e
    exact free c o (fun z=>(hch c z).2.2.1 x c e rfl) ho (I.freeC x c e)
  · obtain ⟨e,n,ne,nf,d⟩:=I.pin p hp
    have nch:p.1∉ch:=fun z=>(hch p.1 z).2.2.2 p hp rfl
    exact ⟨keep p.1 p.2 ne nf nch e n,free p.1 p.2 nch e n,ne,nf,d⟩
theorem Inv.un {t':Nat} (I:Inv X pins σ H s) (u:Un X.fs [] H H' s.heap h') (hok:HOk X.prog X.w H' h'):Inv X pins σ H' { s with heap:=h',toks:=t' }:=by
  obtain ⟨m,⟨o,es,ep,ho,r⟩,_⟩:=id I.loc
  obtain ⟨sl,hL⟩:=u.any ho I.free (by simp)
  exact I.step (g':=s.gens) (d':=s.drawn) (ch:=[]) (fun _ z=>nomatch z) (fun b o _ hb _ e n=>u.keep b o e n hb (by simp)) (fun b o _ hb _ e n=>u.slot b o e n hb (by simp)) (fun b o _ e n=>u.free b o e n (by simp)) (fun b o _ e=>u.there b o e (by simp)) u.tups u.frzs u.tbls (fun m' hm=>by
    obtain ⟨o',es',ep',ho',r'⟩:=hm
    rw [ho] at ho';cases ho'
    exact ⟨_,es',ep',hL,r'⟩) hok I.bare
theorem Inv.call {g':Array GenState} {t':Nat} {d':Drawn} {ch:List Addr} (I:Inv X pins σ H s) (u:Un (frs X.stack) ch H H' s.heap h') (hok:HOk X.prog X.w H' h') (hg:AllBare g')
    (hch:∀ b∈ch,(b∈X.ex∨X.s₀.heap.objs.size≤b)∧b≠X.env.locals∧(∀ x c,X.env.cells.lookup x=some c→c≠b)∧∀ p∈X.pn++pins,p.1≠b) :
    Inv X pins σ H' { s with heap:=h',gens:=g',drawn:=d',toks:=t' }:=by
  obtain ⟨m,⟨o,es,ep,ho,r⟩,_⟩:=id I.loc
  obtain ⟨sl,hL⟩:=u.any ho I.free fun z=>(hch _ z).2.1 rfl
  exact I.step (ch:=ch) hch (fun b o hL hb hc e n=>u.keep b o e n (fun z=>(List.mem_cons.mp (I.stkSub b z)).elim hL hb) hc) (fun b o _ _ hc e n=>u.any e n hc) (fun b o hc e n=>u.free b o e n hc) (fun b o hc e=>u.there b o e hc) u.tups u.frzs u.tbls (fun m' hm=>by
    obtain ⟨o',es',ep',ho',r'⟩:=hm
    rw [ho] at ho';cases ho'
    exact ⟨_,es',ep',hL,r'⟩) hok hg
theorem Inv.turned {t':Nat} {it:Addr} (I:Inv X pins σ H s) (k:∀ b o,b≠it→s.heap.get? b=some o→h'.get? b=some o) (hn:H it=none) (hL:it≠X.env.locals)
    (h1:it∈X.ex∨X.s₀.heap.objs.size≤it) (h2:∀ x c,X.env.cells.lookup x=some c→c≠it) (h3:∀ p∈X.pn++pins,p.1≠it):Inv X pins σ H { s with heap:=h',toks:=t' }:=by
  have nit:∀ b u,H b=some u→b≠it:=fun b u e z=>by rw [z,hn] at e;cases e
  refine I.step (g':=s.gens) (d':=s.drawn) (ch:=[it]) (fun b hb => ?_) (fun b o _ _ hc e _=>k b o (fun z=>hc (by simp [z])) e) (fun b o _ _ hc e _=>⟨o.slots,k b o (fun z=>hc (by simp [z])) e⟩) (fun _ _ _ _ n=>n)
    (fun b o hc e=>⟨o,k b o (fun z=>hc (by simp [z])) e⟩) (fun _ _ e=>e) (fun _ _ _ e=>e) (fun b ps e=>⟨#[],by rw [e];simp⟩) (fun m hm => ?_) (fun b u e => ?_) I.bare
  · have e:b=it:=by simpa using hb
    subst e
    exact ⟨h1,hL,h2,h3⟩
  · obtain ⟨o,es,ep,ho,r⟩:=hm
    exact ⟨o,es,ep,k _ o (Ne.symm hL) ho,r⟩
  · refine (I.hok b u e).stay (fun c v hc q=>k c v ?_ q) (fun _ q=>q) fun _ _ q=>q
    rcases hc with z | z
    · rw [z];exact nit b u e
    · exact nit c _ z
theorem Inv.tok (I:Inv X pins σ H s) (t:Nat):Inv X pins σ H { s with toks:=t }:=I.un (h':=s.heap) (t':=t) Un.refl I.hok
theorem Inv.kept {t':Nat} (I:Inv X pins σ H s) (k:∀ b u,s.heap.get? b=some u→h'.get? b=some u):Inv X pins σ H { s with heap:=h',toks:=t' }:=I.un (Un.kept k) (I.hok.kept k)
theorem Inv.laid {a:Addr} {o:HO} {t':Nat} (I:Inv X pins σ H s) (k:∀ b u,s.heap.get? b=some u→h'.get? b=some u) (hp:s.heap.objs.size≤a) (new:Ym X.prog X.w (upd H a o) h' a o) :
    Inv X pins σ (upd H a o) { s with heap:=h',toks:=t' }:=I.un (Un.laid k hp (I.hok.fresh hp)) (I.hok.laid k hp new)
theorem Inv.write {x e:Addr} {o:HO} {t':Nat} (I:Inv X pins σ H s) (mu:Mut (H x)) (he:e=x∨H e=some (.own x)) (k:∀ b u,b≠e→s.heap.get? b=some u→h'.get? b=some u) (heo:∃ u,h'.get? e=some u)
    (new:Ym X.prog X.w (upd H x o) h' x o):Inv X pins σ (upd H x o) { s with heap:=h',toks:=t' }:=I.un (Un.write mu he k heo) (I.hok.write mu he k heo new)
theorem Inv.weak {σ':List (Option V)} (I:Inv X pins σ H s) (hl:σ'.length=σ.length) (w:∀ (i:Nat) v,σ'[i]?=some (some v)→σ[i]?=some (some v)):Inv X pins σ' H s :=
  ⟨I.ok,I.os,I.bare,I.base,let ⟨m,hn,hl'⟩:=I.loc;⟨m,hn,fun i x v e1 e2 e3=>hl' i x v e1 (w i v e2) e3⟩,I.cell,I.free,I.freeC,I.pin,I.hok,hl.trans I.len⟩
theorem Inv.pins_of {pins':List (Addr×Obj)} (I:Inv X pins σ H s) (h:∀ p∈pins',s.heap.get? p.1=some p.2∧H p.1=none∧p.1≠X.env.locals∧p.1∉X.fs∧∀ v,p.2.data ≠ .cell v):Inv X pins' σ H s :=
  ⟨I.ok,I.os,I.bare,I.base,I.loc,I.cell,I.free,I.freeC,fun p hp=>(List.mem_append.mp hp).elim (fun z=>I.pin p (List.mem_append_left _ z)) (h p),I.hok,I.len⟩

theorem Qcp {N:List Str} (hN:N.Nodup) {i j:Nat} {x:Str} (a:N[i]?=some x) (b:N[j]?=some x):i=j:=by
  obtain ⟨h1,e1⟩:=List.getElem?_eq_some_iff.mp a
  obtain ⟨h2,e2⟩:=List.getElem?_eq_some_iff.mp b
  exact (List.getElem_inj hN).mp (e1.trans e2.symm)

theorem QgJ {M:Model} {A:Around} {E:Value→Shared→Prop} {i:Nat} {x:Str} {v:V} {u:Value} {Q:Unit→Shared→Prop} (I:Inv X pins σ H s) (hN:X.N.Nodup) (hi:X.N[i]?=some x) (hx:Loc X.env.scope x) (r:RelV v u)
    (h:∀ s',Inv X pins (σ.set i (some v)) H s'→(∃ a,Heap.SameBut a s.heap s'.heap∧(a=X.env.locals∨X.env.cells.lookup x=some a))→Q () s') (hf:X.fn x=true∨X.env.scope.names.lookup x=some .local:=by first | exact .inl rfl | exact .inr rfl | assumption):wpAny M A (storeName X.env x u) Q E s:=by
  obtain ⟨m,hn,hl⟩:=id I.loc
  have hcls:(X.env.scope.kind == .class||(X.env.scope.kind == .module&&X.env.locals != X.env.globals))=false:=by rw [I.ok.kind];rfl
  have hiσ:i < σ.length:=by rw [I.len];exact (List.getElem?_eq_some_iff.mp hi).1
  have cne:=I.cne
  have tracked:∀ {a:Addr} {h':Heap},(∃ o,s.heap.get? a=some o∧H a=none)→Heap.SameBut a s.heap h'→HOk X.prog X.w H h':=fun {a h'} ha hs b ob e=>by
    obtain ⟨_,_,hfree⟩:=ha
    refine (I.hok b ob e).stay (fun c w' hc q=>(hs.2 c ?_).trans q) (fun _ q=>q) fun _ _ q=>q
    rintro rfl
    rcases hc with rfl | hc
    · rw [hfree] at e;cases e
    · rw [hfree] at hc;cases hc
  rcases hx with hk | hk
  · refine wpAny_storeName_local hk hn (fun h' hn' hs => ?_) hcls
    obtain ⟨oL,_,_,hoL,_⟩:=id hn
    refine h _ ⟨I.ok,I.os,I.bare,⟨fun b o e n hb hx => ?_,fun b o e n hb hx => ?_,I.base.free,fun b o e hx => ?_,I.base.tups,I.base.frzs,I.base.tbls⟩,⟨_,hn',fun j y v' e1 e2 e3 => ?_⟩,fun y c e => ?_,I.free,I.freeC,fun p hp => ?_,tracked ⟨oL,hoL,I.free⟩ hs,by simpa using I.len⟩ ⟨_,hs,.inl rfl⟩
    · exact (hs.2 b (Nat.ne_of_lt (Nat.lt_of_lt_of_le (Heap.lt_size e) I.ok.above))).trans (I.base.keep b o e n hb hx)
    · obtain ⟨sl,e1⟩:=I.base.slot b o e n hb hx
      exact ⟨sl,(hs.2 b (Nat.ne_of_lt (Nat.lt_of_lt_of_le (Heap.lt_size e) I.ok.above))).trans e1⟩
    · obtain ⟨o',e1⟩:=I.base.there b o e hx
      exact ⟨o',(hs.2 b (Nat.ne_of_lt (Nat.lt_of_lt_of_le (Heap.lt_size e) I.ok.above))).trans e1⟩
    · by_cases hj:j=i
      · subst hj
        rw [hi] at e1;cases e1
        rw [List.getElem?_set_self hiσ] at e2
        cases e2
        exact ⟨u,r,.inl ⟨hk,by simp⟩⟩
      · rw [List.getElem?_set_ne (Ne.symm hj)] at e2
        obtain ⟨u',r',q⟩:=hl j y v' e1 e2 e3
        refine ⟨u',r',?_⟩
        rcases q with ⟨k,e⟩ | ⟨k,c,e,z⟩
        · refine .inl ⟨k,?_⟩
          have:y≠x:=fun e=>hj (Qcp hN e1 (e ▸ hi))
          simp [this,e]
        · exact .inr ⟨k,c,e,z.sameBut hs (cne y c e)⟩
    · obtain ⟨w',z⟩:=I.cell y c e
      exact ⟨w',z.sameBut hs (cne y c e)⟩
    · obtain ⟨e,n,ne,nf,d⟩:=I.pin p hp
      exact ⟨(hs.2 p.1 ne).trans e,n,ne,nf,d⟩
  · have hfn:X.fn x=true:=by
      rcases hf with z | z
      · exact z
      · rw [z] at hk;cases hk
    obtain ⟨c,hc⟩:=I.ok.has x (.inl hk)
    obtain ⟨w',z⟩:=I.cell x c hc
    refine wpAny_storeName_cell I.ok.kind hk hc z (fun h' hc' hs => ?_)
    obtain ⟨oc,hoc,hocd⟩:=id z
    refine h { s with heap:=h' } ⟨I.ok,I.os,I.bare,⟨fun b o e n hb hx => ?_,fun b o e n hb hx => ?_,I.base.free,fun b o e hx => ?_,I.base.tups,I.base.frzs,I.base.tbls⟩,⟨m,hn.sameBut hs (Ne.symm (cne x c hc)),fun j y v' e1 e2 e3 => ?_⟩,fun y c' e => ?_,I.free,I.freeC,fun p hp => ?_,tracked ⟨oc,hoc,I.freeC x c hc⟩ hs,by simpa using I.len⟩ ⟨c,hs,.inr hc⟩
    · exact (hs.2 b (Nat.ne_of_lt (Nat.lt_of_lt_of_le (Heap.lt_size e) (I.ok.cab x c hfn hc)))).trans (I.base.keep b o e n hb hx)
    · obtain ⟨sl,e1⟩:=I.base.slot b o e n hb hx
      exact ⟨sl,(hs.2 b (Nat.ne_of_lt (Nat.lt_of_lt_of_le (Heap.lt_size e) (I.ok.cab x c hfn hc)))).trans e1⟩
    · obtain ⟨o',e1⟩:=I.base.there b o e hx
      exact ⟨o',(hs.2 b (Nat.ne_of_lt (Nat.lt_of_lt_of_le (Heap.lt_size e) (I.ok.cab x c hfn hc)))).trans e1⟩
    · by_cases hj:j=i
      · subst hj
        rw [hi] at e1;cases e1
        rw [List.getElem?_set_self hiσ] at e2
        cases e2
        exact ⟨u,r,.inr ⟨.inl hk,c,hc,hc'⟩⟩
      · rw [List.getElem?_set_ne (Ne.symm hj)] at e2
        obtain ⟨u',r',q⟩:=hl j y v' e1 e2 e3
        refine ⟨u',r',?_⟩
        rcases q with q | ⟨k,c',e,z'⟩
        · exact .inl q
        · refine .inr ⟨k,c',e,z'.sameBut hs ?_⟩
          rintro rfl
          exact hj (Qcp hN e1 (I.ok.inj _ _ _ e hc ▸ hi))
    · by_cases hcc:c'=c
      · subst hcc;exact ⟨_,hc'⟩
      · obtain ⟨w2,z2⟩:=I.cell y c' e
        exact ⟨w2,z2.sameBut hs hcc⟩
    · obtain ⟨e,n,ne,nf,d⟩:=I.pin p hp
      refine ⟨(hs.2 p.1 ?_).trans e,n,ne,nf,d⟩
      intro q
      rw [q,hoc] at e
      have q':oc=p.2:=Option.some.inj e
      exact d w' (by rw [← q'];exact hocd)
theorem QaJ {M:Model} {A:Around} {E:Value→Shared→Prop} {i:Nat} {x:Str} {v:V} {u:Value} {Q:Unit→Shared→Prop} (I:Inv X pins σ H s) (hN:X.N.Nodup) (hi:X.N[i]?=some x) (hx:Loc X.env.scope x) (r:RelV v u)
    (h:∀ s',Inv X pins (σ.set i (some v)) H s'→Q () s') (hf:X.fn x=true∨X.env.scope.names.lookup x=some .local:=by first | exact .inl rfl | exact .inr rfl | assumption):wpAny M A (storeName X.env x u) Q E s :=
  QgJ I hN hi hx r (fun s' I' _=>h s' I') hf
theorem Inv.call' {s':Shared} {ch:List Addr} (I:Inv X pins σ H s) (ho:s'.os=s.os) (u:Un (frs X.stack) ch H H' s.heap s'.heap) (hok:HOk X.prog X.w H' s'.heap) (hg:AllBare s'.gens)
    (hch:∀ b∈ch,(b∈X.ex∨X.s₀.heap.objs.size≤b)∧b≠X.env.locals∧(∀ x c,X.env.cells.lookup x=some c→c≠b)∧∀ p∈X.pn++pins,p.1≠b):Inv X pins σ H' s':=by
  obtain ⟨h',g',d',t',o'⟩:=s'
  have e:o'=s.os:=ho
  subst e
  exact I.call (g':=g') (t':=t') (d':=d') u hok hg hch
end

noncomputable abbrev XK:=Value→Option Addr→Hp→Prop
noncomputable abbrev St:=List (Option V)
noncomputable abbrev VK:=V→Hp→Prop
noncomputable abbrev TE:=St→Hp→VK→Prop
noncomputable abbrev TT:=St→Hp→(Bool→Hp→Prop)→Prop
noncomputable abbrev TA:=St→Hp→(List V→Hp→Prop)→Prop
structure Ends where
  nx:St→Hp→Prop
  rt:VK
  bk:St→Hp→Prop:=fun _ _=>False
  ct:St→Hp→Prop:=fun _ _=>False
noncomputable abbrev TS:=Ends→St→Hp→Prop

noncomputable def EP (X:Cx) (pins:List (Addr×Obj)) (σ:St) (Q:VK) (u:Value) (s':Shared):Prop:=∃ v H',Inv X pins σ H' s'∧RelV v u∧Q v H'
noncomputable def TP (X:Cx) (pins:List (Addr×Obj)) (σ:St) (Q:Bool→Hp→Prop) (b:Bool) (s':Shared):Prop:=∃ H',Inv X pins σ H' s'∧Q b H'
noncomputable def AP (X:Cx) (pins:List (Addr×Obj)) (σ:St) (Q:List V→Hp→Prop) (us:List Value) (s':Shared):Prop:=∃ vs H',Inv X pins σ H' s'∧Vals vs us∧Q vs H'
noncomputable def SP (X:Cx) (pins:List (Addr×Obj)) (D:Ends) (f:Flow) (s':Shared):Prop :=
  match f with
  | .next=>∃ σ' H',Inv X pins σ' H' s'∧D.nx σ' H'
  | .brk=>∃ σ' H',Inv X pins σ' H' s'∧D.bk σ' H'
  | .cont=>∃ σ' H',Inv X pins σ' H' s'∧D.ct σ' H'
  | .ret u=>∃ v σ' H',Inv X pins σ' H' s'∧RelV v u∧D.rt v H'

noncomputable def PE (X:Cx) (e:Expr) (t:TE):Prop :=
  ∀ (pins:List (Addr×Obj)) (s:Shared) (σ:St) (H:Hp) (Q:VK),Inv X pins σ H s→t σ H Q→wpAny (model X.prog X.w) X.A (eval e X.env) (EP X pins σ Q) X.xe s
noncomputable def PT (X:Cx) (e:Expr) (t:TT):Prop :=
  ∀ (pins:List (Addr×Obj)) (s:Shared) (σ:St) (H:Hp) (Q:Bool→Hp→Prop),Inv X pins σ H s→t σ H Q→wpAny (model X.prog X.w) X.A (isTrue e X.env (eval e X.env)) (TP X pins σ Q) X.xe s
noncomputable def PW (X:Cx) (e:Expr) (t:TT):Prop :=
  ∀ (whole:Sem Value) (pins:List (Addr×Obj)) (s:Shared) (σ:St) (H:Hp) (Q:Bool→Hp→Prop),Inv X pins σ H s→t σ H Q→wpAny (model X.prog X.w) X.A (isTrue e X.env whole) (TP X pins σ Q) X.xe s
theorem PW.pt {X:Cx} {e:Expr} {t:TT} (h:PW X e t):PT X e t:=h _
noncomputable def PA (X:Cx) (es:List Expr) (t:TA):Prop :=
  ∀ (pos:Pos) (pins:List (Addr×Obj)) (s:Shared) (σ:St) (H:Hp) (Q:List V→Hp→Prop),Inv X pins σ H s→t σ H Q→wpAny (model X.prog X.w) X.A (spliced (backTo pos (starEach es X.env))) (AP X pins σ Q) X.xe s
noncomputable def PS (X:Cx) (st:Stmt) (t:TS):Prop :=
  ∀ (pins:List (Addr×Obj)) (s:Shared) (σ:St) (H:Hp) (D:Ends),Inv X pins σ H s→t D σ H→wpAny (model X.prog X.w) X.A (exec st X.env) (SP X pins D) X.xe s
noncomputable def PSs (X:Cx) (st:List Stmt) (t:TS):Prop :=
  ∀ (pins:List (Addr×Obj)) (s:Shared) (σ:St) (H:Hp) (D:Ends),Inv X pins σ H s→t D σ H→wpAny (model X.prog X.w) X.A (execs st X.env) (SP X pins D) X.xe s
theorem thn {α:Type} {t:Sem α} {Q Q':α→Shared→Prop} {M:Model} {A:Around} {E:Value→Shared→Prop} {s:Shared} (h:wpAny M A t Q E s) (hQ:∀ a s,Q a s→Q' a s):wpAny M A t Q' E s:=wpAny_mono h hQ fun _ _ x=>x
end L2

namespace L2
open PySem PySem.Spec PyProof.Rows
section
variable {X:Cx}

noncomputable def tVar (i:Nat):TE:=fun σ H Q=>∃ v,σ[i]?=some (some v)∧Q v H
noncomputable def tC (v:V):TE:=fun _ H Q=>Q v H
theorem pe_var {i:Nat} {x:Str} {pos:Pos} (hN:X.N[i]?=some x) (hv:Vis X.env.scope x) (hd:(x==("__debug__":Str))=false:=by decide) (hcd:(x==("__classdict__":Str))=false:=by decide):PE X (.Name x pos) (tVar i):=by
  intro pins s σ H Q I h
  obtain ⟨v,e,h⟩:=h
  obtain ⟨m,hn,hl⟩:=I.loc
  obtain ⟨u,r,l⟩:=hl i x v hN e hv
  have fin:EP X pins σ Q u s:=⟨v,H,I,r,h⟩
  rcases l with ⟨hk,hm⟩ | ⟨hk,c,hc,hcell⟩
  · exact wpAny_Name (wpAny_loadName_local I.ok.kind hk hn hm fin) hd
  · rcases hk with hk | hk
    · exact wpAny_Name (wpAny_loadName_cell I.ok.kind hk hc hcell fin) hd
    · exact wpAny_Name (wpAny_loadName_free I.ok.kind hk hc hcell fin hcd) hd
theorem pe_int {i j pos}:PE X (.Constant (.int i) j pos) (tC (.int i)):=fun _ _ _ H _ I h=>wpAny_Constant_int ⟨.int i,H,I.tok _,⟨_,rfl⟩,h⟩
theorem pe_bl {b j pos}:PE X (.Constant (.bool b) j pos) (tC (.bl b)):=fun _ _ _ H _ I h=>Constant_bool ⟨.bl b,H,I,rfl,h⟩
theorem pe_non {j pos}:PE X (.Constant .none j pos) (tC .non):=fun _ _ _ H _ I h=>Constant_none ⟨.non,H,I,rfl,h⟩
theorem pe_str {x j pos}:PE X (.Constant (.str x) j pos) (tC (.str x)):=fun _ _ _ H _ I h=>Calls.Constant_str ⟨.str x,H,I.tok _,⟨_,rfl⟩,h⟩

noncomputable def Gl (X:Cx) (x:Str):Prop:=X.env.kindOf x=some .globalImplicit
theorem Xm {E:Value→Shared→Prop} {pins:List (Addr×Obj)} {s:Shared} {σ:St} {H:Hp} {x:Str} {u:Value} {pos:Pos} {Q:Value→Shared→Prop} (I:Inv X pins σ H s) (hg:Gl X x) (hm:X.mg x=some u) (h:Q u s)
    (hd:(x==("__debug__":Str))=false:=by decide):wpAny (model X.prog X.w) X.A (eval (.Name x pos) X.env) Q E s :=
  Calls.Name_function_global I.ok.kind hg (Calls.loadGlobal_global (by rw [I.ok.glob];exact I.mod.glob.keeps I.bk) hm h) hd
theorem QcO {E:Value→Shared→Prop} {pins:List (Addr×Obj)} {s:Shared} {σ:St} {H:Hp} {x:Str} {u:Value} {pos:Pos} {Q:Value→Shared→Prop} (I:Inv X pins σ H s) (hg:Gl X x) (hm:X.mg x=none) (hv:bootBuiltins x=some u) (h:Q u s)
    (hn:x ≠ "__name__":=by decide) (hd:(x==("__debug__":Str))=false:=by decide):wpAny (model X.prog X.w) X.A (eval (.Name x pos) X.env) Q E s:=by
  obtain ⟨mb,h1,h2⟩:=I.mod.blt
  exact Calls.Name_function_global I.ok.kind hg (Calls.loadGlobal_builtin (by rw [I.ok.glob];exact I.mod.glob.keeps I.bk) hm (by rw [I.ok.blt];exact h1.keeps I.bk) ((h2 x hn).trans hv) h) hd
theorem QdH {x:Str} {v:V} {u:Value} {pos:Pos} (hg:Gl X x) (hm:X.mg x=some u) (r:RelV v u) (hd:(x==("__debug__":Str))=false:=by decide):PE X (.Name x pos) (tC v) :=
  fun _ _ _ H _ I h=>Xm I hg hm ⟨v,H,I,r,h⟩ hd
theorem Qgi {x:Str} {v:V} {u:Value} {pos:Pos} (hg:Gl X x) (hm:X.mg x=none) (hv:bootBuiltins x=some u) (r:RelV v u) (hn:x ≠ "__name__":=by decide) (hd:(x==("__debug__":Str))=false:=by decide):PE X (.Name x pos) (tC v) :=
  fun _ _ _ H _ I h=>QcO I hg hm hv ⟨v,H,I,r,h⟩ hn hd

noncomputable def t2I (ta tb:TE) (k:Int→Int→Hp→Prop):St→Hp→Prop:=fun σ H=>ta σ H fun x H1=>tb σ H1 fun y H2=>∃ i j,x = .int i∧y = .int j∧k i j H2
variable {a b:Expr} {ta tb:TE} {pos:Pos}
noncomputable def tCmp (p:Int→Int→Bool) (ta tb:TE):TE:=fun σ H Q=>t2I ta tb (fun i j H2=>Q (.bl (p i j)) H2) σ H
noncomputable abbrev tLe:TE→TE→TE:=tCmp fun i j=>decide (i≤j)
noncomputable def tB (t:TE):TT:=fun σ H Q=>t σ H fun x H1=>∃ c,x = .bl c∧Q c H1
variable {tA tB':TT} {rest:List Expr}
noncomputable def tAnd (t u:TT):TT:=fun σ H Q=>t σ H fun c H1=>if c=true then u σ H1 Q else Q false H1
noncomputable def tOr (t u:TT):TT:=fun σ H Q=>t σ H fun c H1=>if c=true then Q true H1 else u σ H1 Q
noncomputable def tNot (t:TT):TT:=fun σ H Q=>t σ H fun c H1=>Q (!c) H1
theorem pw_and1 (ha:PT X a tA):PW X (.BoolOp .And [a] pos) tA:=by
  intro wh pins s σ H Q I h
  refine isTrue_and (thn (ha pins s σ H Q I h) fun c s1 e => ?_)
  cases c with
  | true=>exact isTrue_and_nil e
  | false=>exact e
theorem pw_or1 (ha:PT X a tA):PW X (.BoolOp .Or [a] pos) tA:=by
  intro wh pins s σ H Q I h
  refine isTrue_or (thn (ha pins s σ H Q I h) fun c s1 e => ?_)
  cases c with
  | false=>exact isTrue_or_nil e
  | true=>exact e
theorem pw_and (ha:PT X a tA) (hb:PW X (.BoolOp .And (b :: rest) pos) tB'):PW X (.BoolOp .And (a :: b :: rest) pos) (tAnd tA tB'):=by
  intro wh pins s σ H Q I h
  refine isTrue_and (thn (ha pins s σ H _ I h) fun c s1 ⟨H1,I1,q1⟩ => ?_)
  cases c with
  | true=>exact hb wh pins s1 σ H1 Q I1 q1
  | false=>exact ⟨H1,I1,q1⟩
theorem pw_or (ha:PT X a tA) (hb:PW X (.BoolOp .Or (b :: rest) pos) tB'):PW X (.BoolOp .Or (a :: b :: rest) pos) (tOr tA tB'):=by
  intro wh pins s σ H Q I h
  refine isTrue_or (thn (ha pins s σ H _ I h) fun c s1 ⟨H1,I1,q1⟩ => ?_)
  cases c with
  | true=>exact ⟨H1,I1,q1⟩
  | false=>exact hb wh pins s1 σ H1 Q I1 q1
theorem pt_not (ha:PT X a tA):PT X (.UnaryOp .Not a pos) (tNot tA):=by
  intro pins s σ H Q I h
  exact isTrue_not (ha pins s σ H (fun c H1=>Q (!c) H1) I h)
noncomputable def tAndV (ta tb:TE):TE:=fun σ H Q=>ta σ H fun x H1=>∃ c,x = .bl c∧if c=true then tb σ H1 Q else Q (.bl false) H1
noncomputable def tOrV (ta tb:TE):TE:=fun σ H Q=>ta σ H fun x H1=>∃ c,x = .bl c∧if c=true then Q (.bl true) H1 else tb σ H1 Q
noncomputable def tNotV (ta:TE):TE:=fun σ H Q=>ta σ H fun x H1=>∃ c,x = .bl c∧Q (.bl (!c)) H1
theorem pe_one {op} {t:TE} (h:PE X a t):PE X (.BoolOp op [a] pos) t:=fun pins s σ H Q I hw=>BoolOp_one (h pins s σ H Q I hw)
theorem pe_and (ha:PE X a ta) (hb:PE X (.BoolOp .And (b :: rest) pos) tb):PE X (.BoolOp .And (a :: b :: rest) pos) (tAndV ta tb):=by
  intro pins s σ H Q I h
  refine BoolOp_and (thn (ha pins s σ H _ I h) fun v s1 ⟨x,H1,I1,r1,q1⟩ => ?_)
  obtain ⟨c,rfl,q1⟩:=q1
  cases r1
  refine wpAny_truthy_bool ?_
  cases c with
  | true=>exact hb pins s1 σ H1 Q I1 q1
  | false=>exact ⟨.bl false,H1,I1,rfl,q1⟩
theorem pe_or (ha:PE X a ta) (hb:PE X (.BoolOp .Or (b :: rest) pos) tb):PE X (.BoolOp .Or (a :: b :: rest) pos) (tOrV ta tb):=by
  intro pins s σ H Q I h
  refine BoolOp_or (thn (ha pins s σ H _ I h) fun v s1 ⟨x,H1,I1,r1,q1⟩ => ?_)
  obtain ⟨c,rfl,q1⟩:=q1
  cases r1
  refine wpAny_truthy_bool ?_
  cases c with
  | false=>exact hb pins s1 σ H1 Q I1 q1
  | true=>exact ⟨.bl true,H1,I1,rfl,q1⟩
theorem pe_not (ha:PE X a ta):PE X (.UnaryOp .Not a pos) (tNotV ta):=by
  intro pins s σ H Q I h
  refine UnaryOp_ (thn (ha pins s σ H _ I h) fun v s1 ⟨x,H1,I1,r1,q1⟩ => ?_)
  obtain ⟨c,rfl,q1⟩:=q1
  cases r1
  exact not_of (wpAny_truthy_bool ⟨.bl (!c),H1,I1,rfl,q1⟩)
end
end L2

namespace L2
open PySem PySem.Spec PyProof.Rows

noncomputable def SqL (K:PySem.W.Frag) (H:Hp) (a:Addr) (xs:List V):Prop :=
  Rd H a (.lst xs) ∨
    ∃ (o:Obj) (its:Array Value) (n:Nat),K.lookup a=some o∧o.cls = .type "list"∧o.dict=none∧o.data = .seq its n∧its.size≤sizeLine∧Vals xs its.toList
noncomputable def SqT (K:PySem.W.Frag) (H:Hp) (a:Addr) (xs:List V):Prop :=
  Rd H a (.tup xs) ∨
    ∃ (o:Obj) (its:Array Value) (n:Nat),K.lookup a=some o∧o.cls = .type "tuple"∧o.dict=none∧o.data = .seq its n∧its.size≤sizeLine∧Vals xs its.toList
noncomputable def absV:Value→Option V
  | .none=>some .non
  | .bool b=>some (.bl b)
  | .int i _=>some (.int i)
  | .str x _=>some (.str x)
  | .bytes b _=>some (.byt b)
  | .float b _=>some (.flt b)
  | .ref a=>some (.ref a)
  | .type n=>some (.ty n)
  | _=>none
theorem RelV.abs {x:V} {u:Value} (r:RelV x u):absV u=some x:=by
  cases x with
  | non=>cases r;rfl
  | bl _=>cases r;rfl
  | int _=>obtain ⟨t,rfl⟩:=r;rfl
  | str _=>obtain ⟨t,rfl⟩:=r;rfl
  | byt _=>obtain ⟨t,rfl⟩:=r;rfl
  | flt _=>obtain ⟨t,rfl⟩:=r;rfl
  | ref _=>cases r;rfl
  | ty _=>cases r;rfl
theorem RelV.inj {x y:V} {u:Value} (r:RelV x u) (q:RelV y u):x=y:=Option.some.inj (r.abs.symm.trans q.abs)
theorem Vals.inj:∀ {xs ys:List V} {us:List Value},Vals xs us→Vals ys us→xs=ys
  | _,_,_,.nil,.nil=>rfl
  | _,_,_,.cons r t,.cons r' t'=>by rw [r.inj r',Vals.inj t t']
section
variable {X:Cx} {pins:List (Addr×Obj)} {σ:St} {H:Hp} {s:Shared} {a:Addr} {xs ys:List V}
theorem SqL.of {K:PySem.W.Frag} (h:H a=some (.lst xs)):SqL K H a xs := .inl (.inl h)
theorem SqT.of {K:PySem.W.Frag} (h:H a=some (.tup xs)):SqT K H a xs := .inl (.inl h)
theorem Inv.list (I:Inv X pins σ H s) (h:SqL X.K H a xs):∃ its:List Value,Vals xs its∧PlainL s.heap a its.toArray∧xs.length≤sizeLine:=by
  rcases h with h | ⟨o,its,n,hk,hc,hd,hs,hz,r⟩
  · obtain ⟨z,its,n,r,e⟩:=h.ok I.hok
    exact ⟨its,r,⟨_,n,e,rfl,rfl,rfl⟩,z⟩
  · refine ⟨its.toList,r,⟨o,n,I.kIn a o hk,hc,hd,by simpa using hs⟩,?_⟩
    have e:=r.length
    simp only [Array.length_toList] at e
    omega
theorem Inv.tupleD (I:Inv X pins σ H s) (h:SqT X.K H a xs):∃ its:List Value,Vals xs its∧QaI s.heap a its.toArray xs∧xs.length≤sizeLine:=by
  rcases h with h | ⟨o,its,n,hk,hc,hd,hs,hz,r⟩
  · obtain ⟨z,its,r,p⟩:=h.ok I.hok
    exact ⟨its,r,p,z⟩
  · refine ⟨its.toList,r,⟨o,I.kIn a o hk,hc,.inl hd,n,by simpa using hs⟩,?_⟩
    have e:=r.length
    simp only [Array.length_toList] at e
    omega
theorem Inv.tuple (I:Inv X pins σ H s) (h:SqT X.K H a xs):∃ its:List Value,Vals xs its∧IsTup s.heap a its.toArray∧xs.length≤sizeLine :=
  let ⟨its,r,p,z⟩:=I.tupleD h
  ⟨its,r,p.is,z⟩
theorem Inv.list_inj (I:Inv X pins σ H s) (h:SqL X.K H a xs) (h':SqL X.K H a ys):xs=ys:=by
  obtain ⟨its,r,⟨o,n,e,_,_,d⟩,_⟩:=I.list h
  obtain ⟨its',r',⟨o',n',e',_,_,d'⟩,_⟩:=I.list h'
  rw [e] at e';cases e'
  rw [d] at d'
  injection d' with d1 _
  have:its=its':=by simpa using congrArg Array.toList d1
  subst this
  exact r.inj r'
theorem Inv.tuple_inj (I:Inv X pins σ H s) (h:SqT X.K H a xs) (h':SqT X.K H a ys):xs=ys:=by
  obtain ⟨its,r,⟨o,e,_,n,d⟩,_⟩:=I.tuple h
  obtain ⟨its',r',⟨o',e',_,n',d'⟩,_⟩:=I.tuple h'
  rw [e] at e';cases e'
  rw [d] at d'
  injection d' with d1 _
  have:its=its':=by simpa using congrArg Array.toList d1
  subst this
  exact r.inj r'
end

noncomputable abbrev Cx.wish (X:Cx) (E:Value→Shared→Prop):Cx:={ X with xe:=E }
noncomputable abbrev Cx.nox (X:Cx):Cx:=X.wish fun _ _=>False
theorem Cx.Ok.wish {X:Cx} (ok:X.Ok) (E:Value→Shared→Prop):(X.wish E).Ok :=
  ⟨ok.mod,ok.kind,ok.glob,ok.blt,ok.above,ok.inj,ok.has,ok.cab,ok.hd,ok.frames,ok.stk,ok.exf,ok.bs,ok.bsz,ok.noex,ok.exfs,ok.funs,ok.frf⟩
theorem Cx.Ok.unwish {X:Cx} {E:Value→Shared→Prop} (ok:(X.wish E).Ok):X.Ok :=
  ⟨ok.mod,ok.kind,ok.glob,ok.blt,ok.above,ok.inj,ok.has,ok.cab,ok.hd,ok.frames,ok.stk,ok.exf,ok.bs,ok.bsz,ok.noex,ok.exfs,ok.funs,ok.frf⟩
section
variable {X:Cx} {pins:List (Addr×Obj)} {σ:St} {H:Hp} {s:Shared} {E:Value→Shared→Prop}
theorem Inv.wish (I:Inv X pins σ H s) (E:Value→Shared→Prop):Inv (X.wish E) pins σ H s:=⟨I.ok.wish E,I.os,I.bare,I.base,I.loc,I.cell,I.free,I.freeC,I.pin,I.hok,I.len⟩
theorem Inv.unwish (I:Inv (X.wish E) pins σ H s):Inv X pins σ H s:=⟨I.ok.unwish,I.os,I.bare,I.base,I.loc,I.cell,I.free,I.freeC,I.pin,I.hok,I.len⟩
theorem SP.unwish {D:Ends} {f:Flow} {s':Shared} (h:SP (X.wish E) pins D f s'):SP X pins D f s':=by
  cases f with
  | next=>obtain ⟨σ',H',I,q⟩:=h;exact ⟨σ',H',I.unwish,q⟩
  | brk=>obtain ⟨σ',H',I,q⟩:=h;exact ⟨σ',H',I.unwish,q⟩
  | cont=>obtain ⟨σ',H',I,q⟩:=h;exact ⟨σ',H',I.unwish,q⟩
  | ret u=>obtain ⟨v,σ',H',I,r,q⟩:=h;exact ⟨v,σ',H',I.unwish,r,q⟩
theorem PE.nox {e:Expr} {t:TE} (h:PE X.nox e t):PE X e t:=fun pins s σ H Q I hw =>
  wpAny_mono (h pins s σ H Q (I.wish _) hw) (fun _ _ ⟨v,H',I',r,q⟩=>⟨v,H',I'.unwish,r,q⟩) fun _ _ z=>False.elim z
theorem PT.nox {e:Expr} {t:TT} (h:PT X.nox e t):PT X e t:=fun pins s σ H Q I hw =>
  wpAny_mono (h pins s σ H Q (I.wish _) hw) (fun _ _ ⟨H',I',q⟩=>⟨H',I'.unwish,q⟩) fun _ _ z=>False.elim z
theorem PSs.nox {st:List Stmt} {t:TS} (h:PSs X.nox st t):PSs X st t:=fun pins s σ H D I hw =>
  wpAny_mono (h pins s σ H D (I.wish _) hw) (fun _ _ q=>q.unwish) fun _ _ z=>False.elim z
end

section
variable {X:Cx} {st:Stmt} {rest:List Stmt} {t u:TS} {e:Expr} {te:TE} {pos:Pos}
noncomputable def tNext:TS:=fun D σ H=>D.nx σ H
noncomputable def tSeq (t u:TS):TS:=fun D σ H=>t { D with nx:=u D } σ H
theorem pss_nil:PSs X [] tNext:=fun _ _ σ H _ I h=>wpAny_execs_nil ⟨σ,H,I,h⟩
theorem QeC (h1:PS X st t) (h2:PSs X rest u):PSs X (st :: rest) (tSeq t u):=by
  intro pins s σ H D I h
  refine wpAny_execs_cons (thn (h1 pins s σ H { D with nx:=u D } I h) fun f s1 q => ?_)
  cases f with
  | next =>
    obtain ⟨σ',H',I',q⟩:=q
    exact h2 pins s1 σ' H' D I' q
  | ret v=>exact q
  | brk=>exact q
  | cont=>exact q
theorem QdG (h1:PS X st t):PSs X [st] t:=by
  intro pins s σ H D I h
  refine wpAny_execs_cons (thn (h1 pins s σ H D I h) fun f s1 q => ?_)
  cases f with
  | next=>exact wpAny_execs_nil q
  | ret v=>exact q
  | brk=>exact q
  | cont=>exact q
theorem Inv.quiet {pins:List (Addr×Obj)} {σ:St} {H:Hp} {s:Shared} (I:Inv X pins σ H s):interactive X.env=false:=by simp [interactive,I.ok.kind]
noncomputable def Qhv (te:TE):TS:=fun D σ H=>te σ H fun _ H1=>D.nx σ H1
theorem QaW (he:PE X e te) (hs:swapsWith e none pos.line X.env=pure false:=by rfl):PS X (.Expr e pos) (Qhv te):=by
  intro pins s σ H D I h
  exact wpAny_Expr_any (thn (he pins s σ H _ I h) fun v s1 ⟨x,H1,I1,r1,q1⟩=>⟨σ,H1,I1,q1⟩) I.quiet hs
noncomputable def tRet (te:TE):TS:=fun D σ H=>te σ H D.rt
theorem QfO (he:PE X e te):PS X (.Return (some e) pos) (tRet te):=by
  intro pins s σ H D I h
  exact wpAny_Return_some (thn (he pins s σ H _ I h) fun v s1 ⟨x,H1,I1,r1,q1⟩=>⟨x,σ,H1,I1,r1,q1⟩)
noncomputable def tIfS (c:TT) (t u:TS):TS:=fun D σ H=>c σ H fun b H1=>if b=true then t D σ H1 else u D σ H1
theorem ps_if {c:Expr} {a b:List Stmt} {tc:TT} (hc:PT X c tc) (ha:PSs X a t) (hb:PSs X b u):PS X (.If c a b pos) (tIfS tc t u):=by
  intro pins s σ H D I h
  refine wpAny_If (thn (hc pins s σ H _ I h) fun d s1 ⟨H1,I1,q1⟩ => ?_)
  cases d with
  | true=>exact ha pins s1 σ H1 D I1 q1
  | false=>exact hb pins s1 σ H1 D I1 q1
end

noncomputable abbrev TG:=V→St→Hp→(St→Hp→Prop)→Prop
noncomputable abbrev TGs:=List V→St→Hp→(St→Hp→Prop)→Prop
noncomputable def PG (X:Cx) (target:Expr) (t:TG):Prop :=
  ∀ (pins:List (Addr×Obj)) (s:Shared) (σ:St) (H:Hp) (v:V) (u:Value) (Q:St→Hp→Prop),Inv X pins σ H s→RelV v u→t v σ H Q →
    wpAny (model X.prog X.w) X.A (assign target X.env u) (fun _ s'=>∃ σ' H',Inv X pins σ' H' s'∧Q σ' H') X.xe s
noncomputable def PGs (X:Cx) (ts:List Expr) (t:TGs):Prop :=
  ∀ (pins:List (Addr×Obj)) (s:Shared) (σ:St) (H:Hp) (vs:List V) (us:List Value) (Q:St→Hp→Prop),Inv X pins σ H s→Vals vs us→t vs σ H Q →
    wpAny (model X.prog X.w) X.A (assignInOrder ((assignEach ts X.env).map (·.2)) us) (fun _ s'=>∃ σ' H',Inv X pins σ' H' s'∧Q σ' H') X.xe s
noncomputable abbrev TSet:=V→V→V→Hp→(Hp→Prop)→Prop
noncomputable def PSet (X:Cx) (t:TSet):Prop :=
  ∀ (pins:List (Addr×Obj)) (s:Shared) (σ:St) (H:Hp) (o i v:V) (ov iv u:Value) (Q:Hp→Prop),Inv X pins σ H s→RelV o ov→RelV i iv→RelV v u→t o i v H Q →
    wpAny (model X.prog X.w) X.A (setItem ov iv u) (fun _ s'=>∃ H',Inv X pins σ H' s'∧Q H') X.xe s
section
variable {X:Cx} {pos:Pos}
noncomputable def Qdw (i:Nat):TG:=fun v σ H Q=>Q (σ.set i (some v)) H
theorem Zn {i:Nat} {x:Str} (hN:X.N.Nodup) (hi:X.N[i]?=some x) (hx:Loc X.env.scope x) (hf:X.fn x=true∨X.env.scope.names.lookup x=some .local:=by first | exact .inl rfl | exact .inr rfl | assumption):PG X (.Name x pos) (Qdw i):=by
  intro pins s σ H v u Q I r h
  exact wpAny_assign_Name (QaJ I hN hi hx r (fun s' I'=>⟨_,H,I',h⟩) hf)
noncomputable def gNil:TGs:=fun vs σ H Q=>vs=[]∧Q σ H
noncomputable def QhH (t:TG) (u:TGs):TGs:=fun vs σ H Q=>∃ v r,vs=v :: r∧t v σ H fun σ' H'=>u r σ' H' Q
theorem pgs_nil:PGs X [] gNil:=by
  intro pins s σ H vs us Q I r h
  obtain ⟨e,h⟩:=h
  subst e
  cases r
  exact assignInOrder_nil ⟨σ,H,I,h⟩
theorem Qco {e:Expr} {es:List Expr} {t:TG} {u:TGs} (h1:PG X e t) (h2:PGs X es u)
    (hs:(assignEach (e :: es) X.env).map (·.2)=assign e X.env :: (assignEach es X.env).map (·.2):=by rfl):PGs X (e :: es) (QhH t u):=by
  intro pins s σ H vs us Q I r h
  obtain ⟨v,vr,e1,h⟩:=h
  subst e1
  cases r with
  | cons r rr =>
    rw [hs]
    refine assignInOrder_cons (thn (h1 pins s σ H _ _ _ I r h) fun _ s1 ⟨σ1,H1,I1,q1⟩ => ?_)
    exact h2 pins s1 σ1 H1 _ _ Q I1 rr q1
noncomputable def gTup (K:PySem.W.Frag) (n:Nat) (t:TGs):TG:=fun v σ H Q=>∃ a xs,v = .ref a∧SqT K H a xs∧xs.length=n∧t xs σ H Q
theorem pg_tup {es:List Expr} {k:Nat} {t:TGs} {n:Nat} (hc:X.calm=true) (h:PGs X es t)
    (hn:(assignEach es X.env).length=n:=by rfl) (hst:(assignEach es X.env).findIdx? (·.1)=none:=by rfl):PG X (.Tuple es k pos) (gTup X.K n t):=by
  intro pins s σ H v u Q I r hw
  obtain ⟨a,xs,e1,hq,hl,hw⟩:=hw
  subst e1
  cases r
  obtain ⟨its,rv,ht,hz⟩:=I.tuple hq
  refine assign_Tuple_tuple (I.ok.hd hc) ht (by simp [hn,← hl,rv.length]) hst fun h' hx => ?_
  have I1:Inv X pins σ H { s with heap:=h' }:=I.kept (t':=s.toks) fun b o e=>hx b o (Nat.ne_of_lt (Heap.lt_size e)) e
  exact h pins _ σ H xs _ Q I1 (by simpa using rv) hw
noncomputable def gSub (to ti:TE) (t:TSet):TG:=fun v σ H Q=>to σ H fun o H1=>ti σ H1 fun i H2=>t o i v H2 fun H3=>Q σ H3
theorem pg_sub {o i:Expr} {to ti:TE} {t:TSet} (ho:PE X o to) (hi:PE X i ti) (hs:PSet X t)
    (ha:∀ v,assign (.Subscript o i pos) X.env v=(do
      let ov ← holding [v] (eval o X.env)
      let iv ← holding [v,ov] (eval i X.env)
      standAt pos
      holding [v,ov,iv] (setItem ov iv v)
      release [v,ov,iv] []):=by intro _;rfl):PG X (.Subscript o i pos) (gSub to ti t):=by
  intro pins s σ H v u Q I r h
  rw [ha]
  refine wpAny_bind (wpAny_holding (thn (ho pins s σ H _ I h) fun ov s1 ⟨x,H1,I1,r1,q1⟩ => ?_))
  refine wpAny_bind (wpAny_holding (thn (hi pins s1 σ H1 _ I1 q1) fun iv s2 ⟨y,H2,I2,r2,q2⟩ => ?_))
  refine wpAny_bind (wpAny_standAt (wpAny_bind (wpAny_holding (thn (hs pins s2 σ H2 x y v ov iv u _ I2 r1 r2 r q2) fun _ s3 ⟨H3,I3,q3⟩ => ?_))))
  exact wpAny_release ⟨σ,H3,I3,q3⟩
noncomputable def tAsg (te:TE) (g:TG):TS:=fun D σ H=>te σ H fun x H1=>g x σ H1 D.nx
theorem ps_asg {tg e:Expr} {te:TE} {g:TG} (he:PE X e te) (hg:PG X tg g) (hs:swapsWithSole [tg] e pos.line X.env=pure false:=by rfl) (hw:swappedStores [tg] e X.env=pure none:=by rfl)
    (h1:(assignEach [tg] X.env).map (·.2)=[assign tg X.env]:=by rfl):PS X (.Assign [tg] e pos) (tAsg te g):=by
  intro pins s σ H D I h
  refine wpAny_Assign_stores (thn (he pins s σ H _ I h) fun v s1 ⟨x,H1,I1,r1,q1⟩ => ?_) hs hw
  rw [h1]
  exact thn (hg pins s1 σ H1 x v _ I1 r1 q1) fun _ s2 q=>q
theorem ps_set {i:Nat} {x:Str} {e:Expr} {te:TE} {pos':Pos} (hN:X.N.Nodup) (hi:X.N[i]?=some x) (hx:Loc X.env.scope x) (he:PE X e te) (hs:swapsWith e (some (.Name x pos')) pos.line X.env=pure false:=by rfl) (hf:X.fn x=true∨X.env.scope.names.lookup x=some .local:=by first | exact .inl rfl | exact .inr rfl | assumption) :
    PS X (.Assign [.Name x pos'] e pos) (tAsg te (Qdw i)):=by
  intro pins s σ H D I h
  refine wpAny_Assign_Name (thn (he pins s σ H _ I h) fun v s1 ⟨y,H1,I1,r1,q1⟩ => ?_) hs
  exact QaJ I1 hN hi hx r1 (fun s2 I2=>⟨_,H1,I2,q1⟩) hf
end

section
variable {X:Cx} {pos:Pos}
end

structure It where
  go:Nat→Hp→Prop
  yld:Nat→Hp→V→Hp→Prop
  stop:Nat→Hp→Prop
noncomputable def FpOk (X:Cx) (pins:List (Addr×Obj)) (H:Hp) (b:Addr):Prop :=
  H b=none∧b≠X.env.locals∧b∉X.fs∧(b∈X.ex∨X.s₀.heap.objs.size≤b)∧(∀ x c,X.env.cells.lookup x=some c→c≠b)∧∀ p∈X.pn++pins,p.1≠b
theorem Inv.fpOk {X:Cx} {pins:List (Addr×Obj)} {σ:St} {H H':Hp} {s:Shared} {b:Addr} (I:Inv X pins σ H s) (hb:s.heap.objs.size≤b) (hn:H' b=none):FpOk X pins H' b:=by
  refine ⟨hn,Nat.ne_of_gt (Nat.lt_of_lt_of_le I.lt hb),I.nofs hb,.inr (Nat.le_trans I.sz hb),fun x c e z => ?_,fun p hp z => ?_⟩
  · obtain ⟨v,q⟩:=I.cell x c e
    exact absurd (Nat.lt_of_lt_of_le q.lt (by rw [z];exact hb)) (Nat.lt_irrefl _)
  · exact absurd (Nat.lt_of_lt_of_le (Heap.lt_size (I.pin p hp).1) (by rw [z];exact hb)) (Nat.lt_irrefl _)
structure Turn (P:Program) (w:World) (K:PySem.W.Frag) (tg:Expr) (J:It) (fp:List Addr) (it:Addr) (tn:Nat→Heap→Prop):Prop where
  mem:it∈fp
  obj:∀ i h,tn i h→∀ b∈fp,∃ o,h.get? b=some o∧∀ v,o.data ≠ .cell v
  keep:∀ i h h',tn i h→(∀ b∈fp,∀ o,h.get? b=some o→h'.get? b=some o)→tn i h'
  item:∀ (X:Cx),X.prog=P→X.w=w→X.K=K→X.calm=true→∀ (i:Nat) (pins:List (Addr×Obj)) (s:Shared) (σ:St) (H:Hp) (E:Value→Shared→Prop),Inv X pins σ H s→(∀ b∈fp,FpOk X pins H b)→tn i s.heap→J.go i H →
    wpAny (model P w) X.A (pyNext (.ref it)) (fun r s1=>∃ u,r=some u ∧
      wpAny (model P w) X.A (letOwnedTupleGo tg (.ref it) u) (fun _ s2=>∃ x H',Inv X pins σ H' s2∧RelV x u∧J.yld i H x H'∧tn (i + 1) s2.heap∧∀ b∈fp,H' b=none) E s1) E s
  done:∀ (X:Cx),X.prog=P→X.w=w→X.K=K→X.calm=true→∀ (i:Nat) (pins:List (Addr×Obj)) (s:Shared) (σ:St) (H:Hp) (E:Value→Shared→Prop),Inv X pins σ H s→(∀ b∈fp,FpOk X pins H b)→tn i s.heap→J.stop i H →
    wpAny (model P w) X.A (pyNext (.ref it)) (fun r s1=>r=none∧Inv X pins σ H s1) E s
  self:∀ (A:Around) (i:Nat) (s:Shared) (Q:Value→Shared→Prop) (E:Value→Shared→Prop),tn i s.heap→Q (.ref it) s→wpAny (model P w) A (pyIter (.ref it)) Q E s
noncomputable abbrev TI:=St→Hp→(It→Hp→Prop)→Prop
noncomputable def PIE (X:Cx) (pins:List (Addr×Obj)) (σ:St) (tg:Expr) (R:It→Hp→Prop) (itv:Value) (s2:Shared):Prop :=
  ∃ (it:Addr) (fp:List Addr) (tn:Nat→Heap→Prop) (J:It) (H':Hp),itv = .ref it∧Inv X pins σ H' s2∧Turn X.prog X.w X.K tg J fp it tn∧tn 0 s2.heap∧(∀ b∈fp,FpOk X pins H' b)∧R J H'
noncomputable def PI (X:Cx) (tg iter:Expr) (wi:TI):Prop :=
  ∀ (pins:List (Addr×Obj)) (s:Shared) (σ:St) (H:Hp) (R:It→Hp→Prop),Inv X pins σ H s→wi σ H R →
    wpAny (model X.prog X.w) X.A (eval iter X.env) (fun v s1=>wpAny (model X.prog X.w) X.A (pyIter v) (PIE X pins σ tg R) X.xe s1) X.xe s

theorem QhF {M:Model} {A:Around} {E:Value→Shared→Prop} {s:Shared} {tg:Expr} {it:Addr} {u:Value} {o:Obj} {n:String} {vs:Array Value} {Q:Unit→Shared→Prop} (ho:s.heap.get? it=some o) (hc:o.cls = .type n) (hd:o.data = .fields vs)
    (hn:["enumerate","zip","dict_itemiterator","dict_reverseitemiterator","odict_iterator","itertools.zip_longest","itertools.pairwise"].contains n=false) (hQ:Q () s):wpAny M A (letOwnedTupleGo tg (.ref it) u) Q E s:=by
  unfold letOwnedTupleGo
  cases tg <;> first
    | exact wpAny_pure hQ
    | (cases u <;> first
        | exact wpAny_pure hQ
        | (refine wpAny_bind (wpAny_load ho ?_)
           rw [hc,hd]
           show wpAny M A (if (["enumerate","zip","dict_itemiterator","dict_reverseitemiterator","odict_iterator","itertools.zip_longest","itertools.pairwise"].contains n&&vs[0]?==some (rawInt _))=true then _ else _) Q E s
           rw [if_neg (by intro h;rw [hn,Bool.false_and] at h;cases h)]
           exact wpAny_pure hQ))

noncomputable def Itl (K:PySem.W.Frag) (a:Addr):It :=
  ⟨fun i H=>∃ xs x,SqL K H a xs∧xs[i]?=some x,fun i H x H'=>H'=H∧∀ xs,SqL K H a xs→xs[i]?=some x,fun i H=>∃ xs,SqL K H a xs∧xs.length≤i⟩
noncomputable def Itt (K:PySem.W.Frag) (a:Addr):It :=
  ⟨fun i H=>∃ xs x,SqT K H a xs∧xs[i]?=some x,fun i H x H'=>H'=H∧∀ xs,SqT K H a xs→xs[i]?=some x,fun i H=>∃ xs,SqT K H a xs∧xs.length≤i⟩
noncomputable def Itr (lo:Int) (n:Nat):It:=⟨fun i _=>i < n,fun i H x H'=>H'=H∧x = .int (lo + i),fun i _=>n≤i⟩
theorem QgF {P:Program} {w:World} {K:PySem.W.Frag} {tg:Expr} (a it:Addr):Turn P w K tg (Itl K a) [it] it (fun i h=>h.IsListIter it a i) where
  mem:=by simp
  obj:=fun i h st b hb=>by
    have e:b=it:=by simpa using hb
    subst e
    obtain ⟨o,e,c,d⟩:=st
    exact ⟨o,e,fun v z=>by rw [d] at z;cases z⟩
  keep:=fun i h h' st k=>st.at fun o e=>k it (by simp) o e
  item:=by
    intro X hP hw hK hc i pins s σ H E I hf st hg
    subst hP hw hK
    obtain ⟨xs,x,hq,hx⟩:=hg
    obtain ⟨its,rv,p,hz⟩:=I.list hq
    obtain ⟨u,hu,ru⟩:=rv.get hx
    obtain ⟨f0,f1,f2,f3,f4,f5⟩:=hf it (by simp)
    refine wpAny_pyNext_list_item st p.isList (x:=u) (by simpa using hu) fun h' st' sb => ?_
    have I1:Inv X pins σ H { s with heap:=h' }:=I.turned (t':=s.toks) (fun b o hb e=>(sb.2 b hb).trans e) f0 f1 f3 f4 f5
    obtain ⟨o,e,c,d⟩:=id st'
    exact ⟨u,rfl,QhF (s:={ s with heap:=h' }) e c d (by decide) ⟨x,H,I1,ru,⟨rfl,fun ys hy=>by rw [I.list_inj hy hq];exact hx⟩,st',fun b hb=>(hf b hb).1⟩⟩
  done:=by
    intro X hP hw hK hc i pins s σ H E I hf st hg
    subst hP hw hK
    obtain ⟨xs,hq,hx⟩:=hg
    obtain ⟨its,rv,p,hz⟩:=I.list hq
    obtain ⟨f0,f1,f2,f3,f4,f5⟩:=hf it (by simp)
    have hl:=rv.length
    exact wpAny_pyNext_list_end (I.ok.hd hc) st p.isList (by simp;omega) fun h' eb=>⟨rfl,I.turned (t':=s.toks) (fun b o hb e=>eb b o hb e) f0 f1 f3 f4 f5⟩
  self:=fun _ _ _ _ _ st h=>wpAny_pyIter_listiter st h
theorem QeX {P:Program} {w:World} {K:PySem.W.Frag} {tg:Expr} (a it:Addr):Turn P w K tg (Itt K a) [it] it (fun i h=>h.IsTupleIter it a i) where
  mem:=by simp
  obj:=fun i h st b hb=>by
    have e:b=it:=by simpa using hb
    subst e
    obtain ⟨o,e,c,d⟩:=st
    exact ⟨o,e,fun v z=>by rw [d] at z;cases z⟩
  keep:=fun i h h' st k=>st.at fun o e=>k it (by simp) o e
  item:=by
    intro X hP hw hK hc i pins s σ H E I hf st hg
    subst hP hw hK
    obtain ⟨xs,x,hq,hx⟩:=hg
    obtain ⟨its,rv,p,hz⟩:=I.tuple hq
    obtain ⟨u,hu,ru⟩:=rv.get hx
    obtain ⟨f0,f1,f2,f3,f4,f5⟩:=hf it (by simp)
    refine wpAny_pyNext_tuple_item st (show s.heap.IsTuple a its.toArray from p) (x:=u) (by simpa using hu) fun h' st' sb => ?_
    have I1:Inv X pins σ H { s with heap:=h' }:=I.turned (t':=s.toks) (fun b o hb e=>(sb.2 b hb).trans e) f0 f1 f3 f4 f5
    obtain ⟨o,e,c,d⟩:=id st'
    exact ⟨u,rfl,QhF (s:={ s with heap:=h' }) e c d (by decide) ⟨x,H,I1,ru,⟨rfl,fun ys hy=>by rw [I.tuple_inj hy hq];exact hx⟩,st',fun b hb=>(hf b hb).1⟩⟩
  done:=by
    intro X hP hw hK hc i pins s σ H E I hf st hg
    subst hP hw hK
    obtain ⟨xs,hq,hx⟩:=hg
    obtain ⟨its,rv,p,hz⟩:=I.tuple hq
    obtain ⟨f0,f1,f2,f3,f4,f5⟩:=hf it (by simp)
    have hl:=rv.length
    exact wpAny_pyNext_tuple_end (I.ok.hd hc) st (show s.heap.IsTuple a its.toArray from p) (by simp;omega) fun h' eb=>⟨rfl,I.turned (t':=s.toks) (fun b o hb e=>eb b o hb e) f0 f1 f3 f4 f5⟩
  self:=fun _ _ _ _ _ st h=>wpAny_pyIter_tupleiter st h
theorem QeY {P:Program} {w:World} {K:PySem.W.Frag} {tg:Expr} (it:Addr) (lo:Int) (n:Nat):Turn P w K tg (Itr lo n) [it] it (fun i h=>IsRangeIter h it (lo + (i:Nat) * 1) ((n:Int) - (i:Nat)) 1) where
  mem:=by simp
  obj:=fun i h st b hb=>by
    have e:b=it:=by simpa using hb
    subst e
    exact ⟨_,st,fun v z=>by
      have z':Data.fields _=Data.cell v:=z
      cases z'⟩
  keep:=fun i h h' st k=>k it (by simp) _ st
  item:=by
    intro X hP hw hK hc i pins s σ H E I hf st hg
    subst hP hw hK
    obtain ⟨f0,f1,f2,f3,f4,f5⟩:=hf it (by simp)
    have W:=Walks.range (prog:=X.prog) (w:=X.w) (I.ok.hd hc) it lo 1 n
    refine W.item i s _ _ hg st fun v h' tk hv st' kk => ?_
    obtain ⟨t,rfl⟩:=hv
    have I1:Inv X pins σ H { s with heap:=h',toks:=tk }:=I.turned (fun b o hb e=>kk b o (by simpa using hb) e) f0 f1 f3 f4 f5
    refine ⟨_,rfl,QhF (s:={ s with heap:=h',toks:=tk }) (n := "range_iterator") st' rfl rfl (by decide) ⟨.int (lo + i),H,I1,⟨t,?_⟩,⟨rfl,rfl⟩,st',fun b hb=>(hf b hb).1⟩⟩
    rw [Int.mul_one]
  done:=by
    intro X hP hw hK hc i pins s σ H E I hf st hg
    subst hP hw hK
    obtain ⟨f0,f1,f2,f3,f4,f5⟩:=hf it (by simp)
    exact wpAny_pyNext_range_end (I.ok.hd hc) st (by have:n≤i:=hg;omega) fun h' eb=>⟨rfl,I.turned (t':=s.toks) (fun b o hb e=>eb b o hb e) f0 f1 f3 f4 f5⟩
  self:=fun _ _ _ _ _ st h=>wpAny_pyIter_rangeiter st h
end L2

namespace L2
open PySem PySem.Spec PyProof.Rows
section
variable {X:Cx} {tg:Expr}
noncomputable def iList (K:PySem.W.Frag) (tl:TE):TI:=fun σ H R=>tl σ H fun x H1=>∃ a,x = .ref a∧(∃ xs,SqL K H1 a xs)∧R (Itl K a) H1
noncomputable def iTup (K:PySem.W.Frag) (tl:TE):TI:=fun σ H R=>tl σ H fun x H1=>∃ a,x = .ref a∧(∃ xs,SqT K H1 a xs)∧R (Itt K a) H1
theorem pi_list {l:Expr} {tl:TE} (hl:PE X l tl):PI X tg l (iList X.K tl):=by
  intro pins s σ H R I h
  refine thn (hl pins s σ H _ I h) fun v s1 ⟨x,H1,I1,r1,q1⟩ => ?_
  obtain ⟨a,e,⟨xs,hq⟩,q⟩:=q1
  subst e
  cases r1
  obtain ⟨its,rv,p,hz⟩:=I1.list hq
  refine wpAny_pyIter_list p.isList ?_
  refine ⟨s1.heap.objs.size,[s1.heap.objs.size],_,_,H1,rfl,I1.kept (t':=s1.toks) fun b o e=>Heap.get?_push_of_some _ e,QgF a _,⟨_,Heap.get?_push_size _ rfl,rfl,rfl⟩,fun b hb => ?_,q⟩
  have e:b=s1.heap.objs.size:=by simpa using hb
  subst e
  exact I1.fpOk (Nat.le_refl _) (I1.hok.fresh (Nat.le_refl _))
theorem pi_tup {l:Expr} {tl:TE} (hl:PE X l tl):PI X tg l (iTup X.K tl):=by
  intro pins s σ H R I h
  refine thn (hl pins s σ H _ I h) fun v s1 ⟨x,H1,I1,r1,q1⟩ => ?_
  obtain ⟨a,e,⟨xs,hq⟩,q⟩:=q1
  subst e
  cases r1
  obtain ⟨its,rv,p,hz⟩:=I1.tuple hq
  refine wpAny_pyIter_tuple (show s1.heap.IsTuple a its.toArray from p) ?_
  refine ⟨s1.heap.objs.size,[s1.heap.objs.size],_,_,H1,rfl,I1.kept (t':=s1.toks) fun b o e=>Heap.get?_push_of_some _ e,QeX a _,⟨_,Heap.get?_push_size _ rfl,rfl,rfl⟩,fun b hb => ?_,q⟩
  have e:b=s1.heap.objs.size:=by simpa using hb
  subst e
  exact I1.fpOk (Nat.le_refl _) (I1.hok.fresh (Nat.le_refl _))
theorem QeB {pins:List (Addr×Obj)} {σ:St} {H:Hp} {s:Shared} {R:It→Hp→Prop} {E:Value→Shared→Prop} {lo hi:Int} {t u v:Tok} {tk:Nat} (I:Inv X pins σ H s) (h1 : -(2 ^ 62)≤lo) (h2:lo < 2 ^ 62) (h3 : -(2 ^ 62)≤hi) (h4:hi < 2 ^ 62)
    (q:R (Itr lo (hi - lo).toNat) H):wpAny (model X.prog X.w) X.A (pyIter (.ref s.heap.objs.size)) (PIE X pins σ tg R) E { s with heap:=s.heap.push { cls := .type "range",data := .fields #[.int lo t,.int hi u,.int 1 v] },toks:=tk }:=by
  refine wpAny_pyIter_range (IsRange.new ..) (small_one h1 h2 h3 h4) ?_
  have I1:Inv X pins σ H { s with heap:=s.heap.push { cls := .type "range",data := .fields #[.int lo t,.int hi u,.int 1 v] },toks:=tk }:=I.kept fun b o e=>Heap.get?_push_of_some _ e
  refine ⟨(s.heap.push { cls := .type "range",data := .fields #[.int lo t,.int hi u,.int 1 v] }).objs.size,[(s.heap.push { cls := .type "range",data := .fields #[.int lo t,.int hi u,.int 1 v] }).objs.size],_,_,H,rfl,
    I1.kept (t':=tk) fun b o e=>Heap.get?_push_of_some _ e,QeY _ lo (hi - lo).toNat,?_,fun b hb => ?_,q⟩
  · have e1:lo + ((0:Nat):Int) * 1=lo:=by simp
    have e2:(((hi - lo).toNat:Nat):Int) - ((0:Nat):Int)=Builtin.Range.rangeSize lo hi 1:=by rw [rangeSize_one];split <;> omega
    show IsRangeIter _ _ (lo + ((0:Nat):Int) * 1) ((((hi - lo).toNat:Nat):Int) - ((0:Nat):Int)) 1
    rw [e1,e2]
    exact Heap.get?_push_size _ rfl
  · have e:b=(s.heap.push { cls := .type "range",data := .fields #[.int lo t,.int hi u,.int 1 v] }).objs.size:=by simpa using hb
    subst e
    exact I1.fpOk (Nat.le_refl _) (I1.hok.fresh (Nat.le_refl _))
noncomputable def iRng1 (ta:TA):TI:=fun σ H R=>ta σ H fun vs H1=>∃ j:Int,vs=[.int j] ∧ -(2 ^ 62)≤j∧j < 2 ^ 62∧R (Itr 0 j.toNat) H1
noncomputable def iRng2 (ta:TA):TI:=fun σ H R=>ta σ H fun vs H1=>∃ i j:Int,vs=[.int i,.int j]∧(-(2 ^ 62)≤i∧i < 2 ^ 62 ∧ -(2 ^ 62)≤j∧j < 2 ^ 62)∧R (Itr i (j - i).toNat) H1
theorem Qda {a:Expr} {ta:TA} {p pos:Pos} (hg:Gl X "range") (hm:X.mg "range"=none) (ha:PA X [a] ta) (hs:starEach [a] X.env=[(false,eval a X.env)]:=by rfl):PI X tg (.Call (.Name "range" p) [a] [] pos) (iRng1 ta):=by
  intro pins s σ H R I h
  refine Call_ (QcO I hg hm boot_range (PyProof.Rows.callWith_type1 (thn (ha pos pins s σ H _ I h) fun us s1 ⟨vs,H1,I1,r1,q1⟩ => ?_) hs rfl))
  obtain ⟨j,e,q1,q2,q⟩:=q1
  subst e
  cases r1 with
  | cons r rr =>
    cases rr
    obtain ⟨t,rfl⟩:=r
    exact call_range_1 (QeB I1 (by omega) (by omega) q1 q2 (by simpa using q))
theorem QgQ {a b:Expr} {ta:TA} {p pos:Pos} (hg:Gl X "range") (hm:X.mg "range"=none) (ha:PA X [a,b] ta) (hs:starEach [a,b] X.env=[(false,eval a X.env),(false,eval b X.env)]:=by rfl) (hs2:starEach [b] X.env=[(false,eval b X.env)]:=by rfl) :
    PI X tg (.Call (.Name "range" p) [a,b] [] pos) (iRng2 ta):=by
  intro pins s σ H R I h
  refine Call_ (QcO I hg hm boot_range (PyProof.Rows.callWith_type1 (thn (ha pos pins s σ H _ I h) fun us s1 ⟨vs,H1,I1,r1,q1⟩ => ?_) (by rw [hs,hs2]) (by rw [hs2];rfl)))
  obtain ⟨i,j,e,⟨q1,q2,q3,q4⟩,q⟩:=q1
  subst e
  cases r1 with
  | cons r rr =>
    cases rr with
    | cons r' rr =>
      cases rr
      obtain ⟨t,rfl⟩:=r
      obtain ⟨t',rfl⟩:=r'
      exact call_range_2 (QeB I1 q1 q2 q3 q4 q)

noncomputable def tFor (wi:TI) (g:TG) (tb:TS):TS:=fun D σ H=>wi σ H fun J H1=>∃ W:Nat→Nat→St→Hp→Prop,(∃ m,W 0 m σ H1)∧∀ i m σ H,W i m σ H →
  (J.stop i H∧D.nx σ H)∨(J.go i H∧∃ N:St→Hp→Prop,(∀ σ' H',N σ' H'→∃ m',m' < m∧W (i + 1) m' σ' H')∧∀ x H',J.yld i H x H'→g x σ H' fun σ2 H2=>tb { D with nx:=N,ct:=N,bk:=D.nx } σ2 H2)
noncomputable def QcM (fp:List Addr) (h:Heap):List (Addr×Obj):=fp.filterMap fun b=>(h.get? b).map fun o=>(b,o)
theorem Xf {fp:List Addr} {h:Heap} {b:Addr} {o:Obj} (hb:b∈fp) (e:h.get? b=some o):(b,o)∈QcM fp h:=List.mem_filterMap.mpr ⟨b,hb,by rw [e];rfl⟩
theorem QgU {fp:List Addr} {h:Heap} {p:Addr×Obj} (hp:p∈QcM fp h):p.1∈fp∧h.get? p.1=some p.2:=by
  obtain ⟨b,hb,e⟩:=List.mem_filterMap.mp hp
  cases q:h.get? b with
  | none=>rw [q] at e;cases e
  | some o =>
    rw [q] at e
    have e':(b,o)=p:=Option.some.inj e
    subst e'
    exact ⟨hb,q⟩
theorem Inv.pinned {pins:List (Addr×Obj)} {σ:St} {H:Hp} {s:Shared} {fp:List Addr} (I:Inv X pins σ H s) (hf:∀ b∈fp,FpOk X pins H b) (ho:∀ b∈fp,∃ o,s.heap.get? b=some o∧∀ v,o.data ≠ .cell v):Inv X (pins++QcM fp s.heap) σ H s :=
  I.pins_of fun p hp=>(List.mem_append.mp hp).elim (fun z=>I.pin p (List.mem_append_right _ z)) fun z=>by
    obtain ⟨hb,e⟩:=QgU z
    obtain ⟨f0,f1,f2,_⟩:=hf p.1 hb
    obtain ⟨o,e',d⟩:=ho p.1 hb
    rw [e] at e';cases e'
    exact ⟨e,f0,f1,f2,d⟩
theorem Inv.unpinned {pins pl:List (Addr×Obj)} {σ:St} {H:Hp} {s:Shared} (I:Inv X (pins++pl) σ H s):Inv X pins σ H s:=I.pins_of fun p hp=>I.pin p (List.mem_append_right _ (List.mem_append_left _ hp))
theorem ps_for {iter:Expr} {body:List Stmt} {wi:TI} {g:TG} {tb:TS} {pos:Pos} (hp:PassesOwn (model X.prog X.w) X.A X.env X.xe) (hc:X.calm=true) (hi:PI X tg iter wi) (hg:PG X tg g) (hb:PSs X body tb)
    (hs:∀ x,foldedSetIterable iter X.env x=pure x:=by intro _;rfl):PS X (.For tg iter body [] pos) (tFor wi g tb):=by
  intro pins s σ H D I h
  refine wpAny_For (thn (hi pins s σ H _ I h) fun v s1 h1=>thn h1 fun itv s2 h2 => ?_) hs
  obtain ⟨it,fp,tn,J,H2,e,I2,T,st2,f2,W,⟨m0,w0⟩,turn⟩:=h2
  subst e
  -- what stays true of the iterator's objects through the loop
  have stat:∀ {H':Hp},(∀ b∈fp,H' b=none)→∀ b∈fp,FpOk X pins H' b:=fun hn b hb=>⟨hn b hb,(f2 b hb).2⟩
  refine codeAny_forLoop_any (fun n s'=>∃ i σ' H',Inv X pins σ' H' s'∧tn i s'.heap∧(∀ b∈fp,H' b=none)∧W i n σ' H') ?_ m0 ⟨0,σ,H2,I2,st2,fun b hb=>(f2 b hb).1,w0⟩
  rintro n s3 ⟨i,σ3,H3,I3,st3,fr3,w3⟩
  rcases turn i n σ3 H3 w3 with ⟨stop,qn⟩ | ⟨go,N,hN,step⟩
  · refine wpAny_passesOwn hp (thn (T.done X rfl rfl rfl hc i pins s3 σ3 H3 X.xe I3 (stat fr3) st3 stop) fun r s4 ⟨hr,I4⟩ => ?_)
    subst hr
    exact wpAny_execs_nil ⟨σ3,H3,I4,qn⟩
  · refine wpAny_passesOwn hp (thn (T.item X rfl rfl rfl hc i pins s3 σ3 H3 X.xe I3 (stat fr3) st3 go) fun r s4 ⟨u,hr,h4⟩ => ?_)
    subst hr
    refine wpAny_passesOwn hp (thn h4 fun _ s5 ⟨x,H5,I5,r5,y5,st5,fr5⟩ => ?_)
    have I5':=I5.pinned (stat fr5) (T.obj _ _ st5)
    refine wpAny_passesOwn hp (thn (hg _ s5 σ3 H5 x u _ I5' r5 (step x H5 y5)) fun _ s6 ⟨σ6,H6,I6,q6⟩ => ?_)
    refine wpAny_passesOwn hp (thn (hb _ s6 σ6 H6 _ I6 q6) fun f s7 q7 => ?_)
    have again:∀ {σ7:St} {H7:Hp},Inv X (pins++QcM fp s5.heap) σ7 H7 s7→N σ7 H7→∃ m,m < n∧∃ i σ' H',Inv X pins σ' H' s7∧tn i s7.heap∧(∀ b∈fp,H' b=none)∧W i m σ' H':=fun {σ7 H7} I7 n7=>by
      obtain ⟨m',hm,w7⟩:=hN σ7 H7 n7
      refine ⟨m',hm,i + 1,σ7,H7,I7.unpinned,T.keep _ _ _ st5 fun b hb o e=>(I7.pin (b,o) (List.mem_append_right _ (List.mem_append_right _ (Xf hb e)))).1,fun b hb => ?_,w7⟩
      obtain ⟨o,e,d⟩:=T.obj _ _ st5 b hb
      exact (I7.pin (b,o) (List.mem_append_right _ (List.mem_append_right _ (Xf hb e)))).2.1
    cases f with
    | next=>obtain ⟨σ7,H7,I7,n7⟩:=q7;exact again I7 n7
    | cont=>obtain ⟨σ7,H7,I7,n7⟩:=q7;exact again I7 n7
    | brk=>obtain ⟨σ7,H7,I7,q7⟩:=q7;exact ⟨σ7,H7,I7.unpinned,q7⟩
    | ret v=>obtain ⟨x7,σ7,H7,I7,r7,q7⟩:=q7;exact ⟨x7,σ7,H7,I7.unpinned,r7,q7⟩
end

end L2

namespace L2
open PySem PySem.Spec PyProof.Rows

noncomputable abbrev R2:=V→V→Hp→VK→Prop
noncomputable def OpR (X:Cx) (f:Value→Value→Sem Value) (r:R2):Prop :=
  ∀ (pins:List (Addr×Obj)) (s:Shared) (σ:St) (H:Hp) (x y:V) (v u:Value) (Q:VK),Inv X pins σ H s→RelV x v→RelV y u→r x y H Q →
    wpAny (model X.prog X.w) X.A (f v u) (EP X pins σ Q) X.xe s
noncomputable def Xj (X:Cx) (f:Value) (r:List V→Hp→VK→Prop):Prop :=
  ∀ (pins:List (Addr×Obj)) (s:Shared) (σ:St) (H:Hp) (xs:List V) (us:List Value) (Q:VK),Inv X pins σ H s→Vals xs us→r xs H Q →
    wpAny (model X.prog X.w) X.A (call f us) (EP X pins σ Q) X.xe s
noncomputable def TruR (X:Cx) (r:V→Hp→(Bool→Hp→Prop)→Prop):Prop :=
  ∀ (pins:List (Addr×Obj)) (s:Shared) (σ:St) (H:Hp) (x:V) (v:Value) (Q:Bool→Hp→Prop),Inv X pins σ H s→RelV x v→r x H Q →
    wpAny (model X.prog X.w) X.A (truthy v) (TP X pins σ Q) X.xe s

noncomputable def tOp (r:R2) (ta tb:TE):TE:=fun σ H Q=>ta σ H fun x H1=>tb σ H1 fun y H2=>r x y H2 Q
noncomputable def rI (C:Int→Int→Prop) (g:Int→Int→V):R2:=fun x y H Q=>∃ i j,x = .int i∧y = .int j∧C i j∧Q (g i j) H
noncomputable def rI0 (g:Int→Int→V):R2:=fun x y H Q=>∃ i j,x = .int i∧y = .int j∧Q (g i j) H
section
variable {X:Cx} {a b c:Expr} {ta tb tc:TE} {pos:Pos}

theorem binT (ha:PE X a ta) (hb:PE X b tb) {pins:List (Addr×Obj)} {s:Shared} {σ:St} {H:Hp} {R:V→V→Hp→Prop} (I:Inv X pins σ H s)
    (h:ta σ H fun x H1=>tb σ H1 fun y H2=>R x y H2) {Q:Value→Shared→Prop} {f:Value→Value→Sem Value}
    (hf:∀ v u s2 x y H2,Inv X pins σ H2 s2→RelV x v→RelV y u→R x y H2→wpAny (model X.prog X.w) X.A (f v u) Q X.xe s2) :
    wpAny (model X.prog X.w) X.A (eval a X.env) (fun v s₁=>wpAny (model X.prog X.w) X.A (eval b X.env) (fun u s₂=>wpAny (model X.prog X.w) X.A (f v u) Q X.xe s₂) X.xe s₁) X.xe s:=by
  refine thn (ha pins s σ H _ I h) fun v s1 ⟨x,H1,I1,r1,q1⟩ => ?_
  refine thn (hb pins s1 σ H1 _ I1 q1) fun u s2 ⟨y,H2,I2,r2,q2⟩ => ?_
  exact hf v u s2 x y H2 I2 r1 r2 q2

theorem pe_op {op:Operator} {r:R2} (ho:OpR X (binaryOp op) r) (ha:PE X a ta) (hb:PE X b tb):PE X (.BinOp a op b pos) (tOp r ta tb):=by
  intro pins s σ H Q I h
  exact wpAny_BinOp (binT ha hb I h fun v u s2 x y H2 I2 rx ry q=>ho pins s2 σ H2 x y v u Q I2 rx ry q)
theorem opI {f:Value→Value→Sem Value} {C:Int→Int→Prop} {g:Int→Int→Int}
    (rule:∀ (i j:Int) (t u:Tok) (s:Shared) (Q:Value→Shared→Prop) (E:Value→Shared→Prop),C i j→Q (.int (g i j) s.toks) { s with toks:=s.toks + 1 }→wpAny (model X.prog X.w) X.A (f (.int i t) (.int j u)) Q E s) :
    OpR X f (rI C fun i j => .int (g i j)):=by
  intro pins s σ H x y v u Q I rx ry h
  obtain ⟨i,j,rfl,rfl,hc,q⟩:=h
  obtain ⟨t,rfl⟩:=rx
  obtain ⟨t',rfl⟩:=ry
  exact rule i j t t' s _ _ hc ⟨.int (g i j),H,I.tok _,⟨_,rfl⟩,q⟩
theorem opI0 {f:Value→Value→Sem Value} {g:Int→Int→Int}
    (rule:∀ (i j:Int) (t u:Tok) (s:Shared) (Q:Value→Shared→Prop) (E:Value→Shared→Prop),Q (.int (g i j) s.toks) { s with toks:=s.toks + 1 }→wpAny (model X.prog X.w) X.A (f (.int i t) (.int j u)) Q E s) :
    OpR X f (rI0 fun i j => .int (g i j)):=by
  intro pins s σ H x y v u Q I rx ry h
  obtain ⟨i,j,rfl,rfl,q⟩:=h
  obtain ⟨t,rfl⟩:=rx
  obtain ⟨t',rfl⟩:=ry
  exact rule i j t t' s _ _ ⟨.int (g i j),H,I.tok _,⟨_,rfl⟩,q⟩
theorem opB0 {f:Value→Value→Sem Value} {g:Int→Int→Bool}
    (rule:∀ (i j:Int) (t u:Tok) (s:Shared) (Q:Value→Shared→Prop) (E:Value→Shared→Prop),Q (.bool (g i j)) s→wpAny (model X.prog X.w) X.A (f (.int i t) (.int j u)) Q E s) :
    OpR X f (rI0 fun i j => .bl (g i j)):=by
  intro pins s σ H x y v u Q I rx ry h
  obtain ⟨i,j,rfl,rfl,q⟩:=h
  obtain ⟨t,rfl⟩:=rx
  obtain ⟨t',rfl⟩:=ry
  exact rule i j t t' s _ _ ⟨.bl (g i j),H,I,rfl,q⟩

noncomputable def CPow (i j:Int):Prop:=0≤j∧j≤1000000∧i.natAbs < 2 ^ 64
noncomputable def CMul (i j:Int):Prop:=(-(2 ^ 64) < i∧i < 2 ^ 64)∨(-(2 ^ 64) < j∧j < 2 ^ 64)
theorem CMul.ok {i j:Int} (h:CMul i j):IntMulOk i j:=by
  rcases h with ⟨h1,h2⟩ | ⟨h1,h2⟩
  · exact .of_left (intBits_le_64 h1 h2)
  · exact .of_right (intBits_le_64 h1 h2)
theorem op_add:OpR X (binaryOp .Add) (rI0 fun i j => .int (i + j)):=opI0 fun _ _ _ _ _ _ _ q=>add_int q
theorem op_sub:OpR X (binaryOp .Sub) (rI0 fun i j => .int (i - j)):=opI0 fun _ _ _ _ _ _ _ q=>sub_int q
theorem op_mul:OpR X (binaryOp .Mult) (rI CMul fun i j => .int (i * j)):=opI fun _ _ _ _ _ _ _ hc q=>mul_int q hc.ok
theorem op_mod:OpR X (binaryOp .Mod) (rI (fun _ j=>0 < j) fun i j => .int (i % j)):=opI fun i j _ _ _ _ _ hc q=>by
  have h1:(0:Int) < j:=hc
  exact mod_int' (by omega) (by rw [Int.fmod_eq_emod_of_nonneg i (by omega)];exact q)
theorem op_pow:OpR X (binaryOp .Pow) (rI CPow fun i j => .int (i ^ j.toNat)):=opI fun _ _ _ _ _ _ _ hc q=>pow_int_small hc.1 hc.2.1 hc.2.2 q
end

section
variable {X:Cx} {a b c:Expr} {ta tb tc:TE} {pos:Pos}
theorem fin_bl {pins:List (Addr×Obj)} {σ:St} {H:Hp} {s:Shared} {Q:VK} {k k':Bool} (I:Inv X pins σ H s) (q:Q (.bl k) H) (e:k=k'):EP X pins σ Q (.bool k') s:=by
  subst e
  exact ⟨.bl k,H,I,rfl,q⟩
theorem op_lt:OpR X (compareOp .Lt) (rI0 fun i j => .bl (decide (i < j))):=opB0 fun _ _ _ _ _ _ _ q=>lt_int q
theorem op_le:OpR X (compareOp .LtE) (rI0 fun i j => .bl (decide (i≤j))):=opB0 fun _ _ _ _ _ _ _ q=>le_int q
theorem op_gt:OpR X (compareOp .Gt) (rI0 fun i j => .bl (decide (j < i))):=opB0 fun _ _ _ _ _ _ _ q=>gt_int q
theorem OpR.or {f:Value→Value→Sem Value} {r r':R2} (h:OpR X f r) (h':OpR X f r'):OpR X f (fun x y H Q=>r x y H Q∨r' x y H Q):=by
  intro pins s σ H x y v u Q I rx ry q
  rcases q with q | q
  · exact h pins s σ H x y v u Q I rx ry q
  · exact h' pins s σ H x y v u Q I rx ry q

theorem Qu (b:Expr) {op:CmpOp} (h:op ≠ .In:=by decide) (h2:op ≠ .NotIn:=by decide):behindInMarks op b=false:=by
  have e1:(op==CmpOp.In)=false:=by cases op <;> first | rfl | exact absurd rfl h
  have e2:(op==CmpOp.NotIn)=false:=by cases op <;> first | rfl | exact absurd rfl h2
  cases b <;> simp [behindInMarks,e1,e2]
theorem pe_cmpR {op:CmpOp} {r:R2} (ho:OpR X (compareOp op) r) (ha:PE X a ta) (hb:PE X b tb) (hm:behindInMarks op b=false):PE X (.Compare a [op] [b] pos) (tOp r ta tb):=by
  intro pins s σ H Q I h
  exact wpAny_Compare1 (binT ha hb I h fun v u s2 x y H2 I2 rx ry q=>ho pins s2 σ H2 x y v u Q I2 rx ry q) hm
noncomputable def tTest (t:TE):TT:=fun σ H Q=>t σ H fun x H'=>∃ k,x = .bl k∧Q k H'
theorem pt_cmpR {op:CmpOp} {r:R2} (ho:OpR X (compareOp op) r) (ha:PE X a ta) (hb:PE X b tb) (hm:behindInMarks op b=false):PT X (.Compare a [op] [b] pos) (tTest (tOp r ta tb)):=by
  intro pins s σ H Q I h
  refine wpAny_isTrue_Compare1 (thn (ha pins s σ H _ I h) fun v s1 ⟨x,H1,I1,r1,q1⟩=>thn (hb pins s1 σ H1 _ I1 q1) fun u s2 ⟨y,H2,I2,r2,q2⟩ =>
    thn (ho pins s2 σ H2 x y v u _ I2 r1 r2 q2) fun c s3 ⟨z,H3,I3,r3,k,e,q3⟩ => ?_) hm
  subst e
  cases r3
  exact wpAny_truthy_bool ⟨H3,I3,q3⟩
noncomputable def QfI (r r':R2) (ta tb tc:TE):TE:=fun σ H Q=>ta σ H fun x H1=>tb σ H1 fun y H2=>r x y H2 fun z H3=>∃ k,z = .bl k ∧
  (if k=true then tc σ H3 fun w' H4=>r' y w' H4 Q else Q (.bl false) H3)
theorem pe_chain {op op':CmpOp} {r r':R2} (ho:OpR X (compareOp op) r) (ho':OpR X (compareOp op') r') (ha:PE X a ta) (hb:PE X b tb) (hc:PE X c tc)
    (hm:lastMarks [op,op'] [b,c]=false:=by with_unfolding_all rfl):PE X (.Compare a [op,op'] [b,c] pos) (QfI r r' ta tb tc):=by
  intro pins s σ H Q I h
  refine Compare_chain (thn (ha pins s σ H _ I h) fun v s1 ⟨x,H1,I1,r1,q1⟩=>chain_link (thn (hb pins s1 σ H1 _ I1 q1) fun u s2 ⟨y,H2,I2,r2,q2⟩ =>
    thn (ho pins s2 σ H2 x y v u _ I2 r1 r2 q2) fun d s3 ⟨z,H3,I3,r3,k,e,q3⟩ => ?_)) hm
  subst e
  cases r3
  refine wpAny_truthy_bool ?_
  cases k with
  | false=>exact ite_ff ⟨.bl false,H3,I3,rfl,q3⟩
  | true=>exact ite_tt (chain_last (thn (hc pins s3 σ H3 _ I3 q3) fun w' s4 ⟨z',H4,I4,r4,q4⟩=>ho' pins s4 σ H4 y z' u w' Q I4 r2 r4 q4))
theorem pt_chain {op op':CmpOp} {r r':R2} (ho:OpR X (compareOp op) r) (ho':OpR X (compareOp op') r') (ha:PE X a ta) (hb:PE X b tb) (hc:PE X c tc)
    (hm:lastMarks [op,op'] [b,c]=false:=by with_unfolding_all rfl):PT X (.Compare a [op,op'] [b,c] pos) (tTest (QfI r r' ta tb tc)):=by
  intro pins s σ H Q I h
  refine isTrue_chain (thn (ha pins s σ H _ I h) fun v s1 ⟨x,H1,I1,r1,q1⟩=>test_link (thn (hb pins s1 σ H1 _ I1 q1) fun u s2 ⟨y,H2,I2,r2,q2⟩ =>
    thn (ho pins s2 σ H2 x y v u _ I2 r1 r2 q2) fun d s3 ⟨z,H3,I3,r3,k,e,q3⟩ => ?_)) hm
  subst e
  cases r3
  refine wpAny_truthy_bool ?_
  cases k with
  | false =>
    obtain ⟨k',e',q'⟩:=q3
    cases e'
    exact ite_ff ⟨H3,I3,q'⟩
  | true =>
    refine ite_tt (test_last (thn (hc pins s3 σ H3 _ I3 q3) fun w' s4 ⟨z',H4,I4,r4,q4⟩=>thn (ho' pins s4 σ H4 y z' u w' _ I4 r2 r4 q4) fun d' s5 ⟨z2,H5,I5,r5,k2,e2,q5⟩ => ?_))
    subst e2
    cases r5
    exact wpAny_truthy_bool ⟨H5,I5,q5⟩

noncomputable def TruV (K:PySem.W.Frag) (x:V) (H:Hp) (k:Bool):Prop :=
  match x with
  | .non=>k=false
  | .bl b=>k=b
  | .int i=>k=(i != 0)
  | .str y=>y.length≤sizeLine∧k=((y.length:Int) != 0)
  | .byt y=>y.size≤sizeLine∧k=((y.size:Int) != 0)
  | .ref p=>(∃ xs,SqL K H p xs∧k = !xs.isEmpty)∨(∃ xs,SqT K H p xs∧k = !xs.isEmpty)∨∃ kvs,H p=some (.dK kvs)∧k = !kvs.isEmpty
  | _=>False
theorem Qfm {κ:Type} {kvs:List (κ×V)} {vs:List (κ×Value)} (r:KV kvs vs):(!vs.isEmpty) = !kvs.isEmpty:=by
  cases r <;> rfl
theorem QbT {xs:List V} {its:List Value} (r:Vals xs its):(!its.toArray.isEmpty) = !xs.isEmpty:=by
  cases r <;> simp
theorem QaH:(sizeLine:Nat) < 2 ^ 63:=by rw [sizeLine_eq];decide
theorem tru_ok:TruR X (fun x H Q=>∃ k,TruV X.K x H k∧Q k H):=by
  intro pins s σ H x v Q I rx h
  obtain ⟨k,e,q⟩:=h
  have hl:=QaH
  have hs:sizeLine=16777216:=sizeLine_eq
  cases x with
  | non =>
    cases rx
    have e':k=false:=e
    subst e'
    exact truthy_none ⟨H,I,q⟩
  | bl b =>
    cases rx
    have e':k=b:=e
    subst e'
    exact wpAny_truthy_bool ⟨H,I,q⟩
  | int i =>
    obtain ⟨t,rfl⟩:=rx
    have e':k=(i != 0):=e
    subst e'
    exact PySem.P.truthy_int ⟨H,I,q⟩
  | str y =>
    obtain ⟨t,rfl⟩:=rx
    obtain ⟨hy,e'⟩:y.length≤sizeLine∧k=((y.length:Int) != 0):=e
    subst e'
    exact PySem.P.truthy_str (by omega) ⟨H,I.tok _,q⟩
  | byt y =>
    obtain ⟨t,rfl⟩:=rx
    obtain ⟨hy,e'⟩:y.size≤sizeLine∧k=((y.size:Int) != 0):=e
    subst e'
    exact PySem.W.truthy_bytes (by omega) ⟨H,I.tok _,q⟩
  | ref p =>
    cases rx
    have e':(∃ xs,SqL X.K H p xs∧k = !xs.isEmpty)∨(∃ xs,SqT X.K H p xs∧k = !xs.isEmpty)∨∃ kvs,H p=some (.dK kvs)∧k = !kvs.isEmpty:=e
    rcases e' with ⟨xs,hx,e'⟩ | ⟨xs,hx,e'⟩ | ⟨kvs,hx,e'⟩
    · subst e'
      obtain ⟨its,r,pl,hz⟩:=I.list hx
      have hlen:=r.length
      exact wpAny_truthy_list pl.isList (by simp only [List.size_toArray];omega) ⟨H,I.tok _,by rw [QbT r];exact q⟩
    · subst e'
      obtain ⟨its,r,pl,hz⟩:=I.tuple hx
      have hlen:=r.length
      exact truthy_tuple pl (by simp only [List.size_toArray];omega) ⟨H,I.tok _,by rw [QbT r];exact q⟩
    · subst e'
      obtain ⟨hz,hS,vs,r,m⟩:kvs.length≤sizeLine∧(p==sysModules)=false∧∃ vs,KV kvs vs∧s.heap.DictOf (QdL X.prog X.w) p vs:=I.hok p _ hx
      have hlen:kvs.length=vs.length:=Paired.length r
      exact wpAny_truthy_dict hS m (by omega) ⟨H,I.tok _,by rw [Qfm r];exact q⟩
  | _=>exact (show False from e).elim
theorem pt_truth (ha:PE X a ta) (he:∀ whole,isTrue a X.env whole=(do let v ← whole;standAt a.pos;holding [v] (truthy v))) :
    PT X a (fun σ H Q=>ta σ H fun x H'=>∃ k,TruV X.K x H' k∧Q k H'):=by
  intro pins s σ H Q I h
  exact isTrue_plain (thn (ha pins s σ H _ I h) fun v s1 ⟨x,H1,I1,r1,q1⟩=>tru_ok pins s1 σ H1 x v Q I1 r1 q1) (he _)

theorem Qfd:OpR X (binaryOp .Add) (fun x y H Q=>∃ i j,x = .str i∧y = .str j∧i.length + j.length≤sizeLine∧Q (.str (i++j)) H):=by
  intro pins s σ H x y v u Q I rx ry h
  obtain ⟨i,j,rfl,rfl,hz,q⟩:=h
  obtain ⟨t,rfl⟩:=rx
  obtain ⟨t',rfl⟩:=ry
  exact add_str (fun t' tk=>⟨.str (i++j),H,I.tok _,⟨_,rfl⟩,q⟩) hz
theorem Qds {x:V} {us:List Value} (r:Vals [x] us):∃ u,us=[u]∧RelV x u:=by
  cases r with
  | cons r1 r2=>cases r2;exact ⟨_,rfl,r1⟩
theorem vals2 {x y:V} {us:List Value} (r:Vals [x,y] us):∃ u w',us=[u,w']∧RelV x u∧RelV y w':=by
  cases r with
  | cons r1 r2 =>
    cases r2 with
    | cons r3 r4=>cases r4;exact ⟨_,_,rfl,r1,r3⟩
noncomputable def LenV (K:PySem.W.Frag) (x:V) (H:Hp) (n:Nat):Prop :=
  match x with
  | .str y=>y.length≤sizeLine∧n=y.length
  | .byt y=>y.size≤sizeLine∧n=y.size
  | .ref p=>(∃ xs,SqL K H p xs∧n=xs.length)∨∃ xs,SqT K H p xs∧n=xs.length
  | _=>False
theorem call_len:Xj X (.builtin "len") (fun xs H Q=>∃ x n,xs=[x]∧LenV X.K x H n∧Q (.int n) H):=by
  intro pins s σ H xs us Q I r h
  obtain ⟨x,n,rfl,e,q⟩:=h
  obtain ⟨u,rfl,rx⟩:=Qds r
  have hl:=QaH
  have hs:sizeLine=16777216:=sizeLine_eq
  cases x with
  | str y =>
    obtain ⟨t,rfl⟩:=rx
    obtain ⟨hy,e'⟩:y.length≤sizeLine∧n=y.length:=e
    subst e'
    exact len_str (by omega) ⟨.int _,H,I.tok _,⟨_,rfl⟩,q⟩
  | byt y =>
    obtain ⟨t,rfl⟩:=rx
    obtain ⟨hy,e'⟩:y.size≤sizeLine∧n=y.size:=e
    subst e'
    exact PySem.W.len_bytes (by omega) ⟨.int _,H,I.tok _,⟨_,rfl⟩,q⟩
  | ref p =>
    cases rx
    have e':(∃ xs,SqL X.K H p xs∧n=xs.length)∨∃ xs,SqT X.K H p xs∧n=xs.length:=e
    rcases e' with ⟨xs,hx,e'⟩ | ⟨xs,hx,e'⟩
    · subst e'
      obtain ⟨its,r',pl,hz⟩:=I.list hx
      have hlen:=r'.length
      exact Calls.call_len_list pl.isList (by simp only [List.size_toArray];omega) ⟨.int xs.length,H,I.tok _,⟨_,by simp only [List.size_toArray];rw [hlen]⟩,q⟩
    · subst e'
      obtain ⟨its,r',pl,hz⟩:=I.tuple hx
      have hlen:=r'.length
      exact len_tuple pl (by simp only [List.size_toArray];omega) ⟨.int xs.length,H,I.tok _,⟨_,by simp only [List.size_toArray];rw [hlen]⟩,q⟩
  | _=>exact (show False from e).elim
end
end L2

namespace L2
open PySem PySem.Spec PyProof.Rows

structure ObjM (h:Heap) (x dx C:Addr) (mA:Str→Option Value):Prop where
  obj:h.get? x=some (PySem.W.instObj C dx)
  ns:h.Ns1 dx mA
  ne:dx≠x

theorem Qde {h:Heap} {dx:Addr} {mA:Str→Option Value} (n:h.Ns1 dx mA):∃ od,h.get? dx=some od∧∀ name,PySem.W.lookIn name od=some (mA name):=by
  obtain ⟨o,es,ep,ho,hd,hk,_,hm⟩:=n
  refine ⟨o,ho,fun name => ?_⟩
  have e:=hm name
  unfold nsFind findBy at e
  rw [← Array.find?_toList] at e
  unfold PySem.W.lookIn
  rw [hd]
  dsimp only
  split
  · rename_i y q
    rw [q] at e
    exact congrArg some e
  · rename_i q
    rw [q] at e
    have a:es.toList.any (·.refKey)=false:=by
      rw [List.any_eq_false]
      intro y hy
      obtain ⟨z,t,hkey⟩:=hk y (Array.mem_toList_iff.mp hy)
      simp [DictEntry.refKey,hkey]
    have a':¬ es.toList.any (·.refKey)=true:=by rw [a];exact Bool.false_ne_true
    rw [if_neg a']
    exact congrArg some e

theorem ObjM.look {h:Heap} {x dx C:Addr} {mA:Str→Option Value} (I:ObjM h x dx C mA):∃ od,PySem.W.InstAt h x (PySem.W.instObj C dx) C (some od)∧∀ name,PySem.W.lookIn name od=some (mA name) :=
  let ⟨od,ho,hl⟩:=Qde I.ns
  ⟨od,⟨I.obj,rfl,rfl,ho⟩,hl⟩

section
variable {prog:Program} {w:World} {A:Around} {E:Value→Shared→Prop} {s:Shared} {K:PySem.W.Frag} {x dx C f:Addr} {mA:Str→Option Value} {name:Str} {v:Value}

end

theorem RelO.some_of {v:V} {o:Option Value} (r:RelO (some v) o):∃ u,o=some u∧RelV v u:=by
  cases o with
  | none=>exact (show False from r).elim
  | some u=>exact ⟨u,rfl,r⟩
theorem Qhf {v:V} {u:Value} (r:RelV v u):PySem.W.handedIn u=true:=by
  cases v with
  | non=>cases (show u=Value.none from r);rfl
  | bl b=>cases (show u=Value.bool b from r);rfl
  | int i=>obtain ⟨t,e⟩:=(show ∃ t,u=Value.int i t from r);cases e;rfl
  | str x=>obtain ⟨t,e⟩:=(show ∃ t,u=Value.str x t from r);cases e;rfl
  | byt b=>obtain ⟨t,e⟩:=(show ∃ t,u=Value.bytes b t from r);cases e;rfl
  | flt b=>obtain ⟨t,e⟩:=(show ∃ t,u=Value.float b t from r);cases e;rfl
  | ref a=>cases (show u=Value.ref a from r);rfl
  | ty n=>cases (show u=Value.type n from r);rfl

section
variable {P:Program} {w:World} {H H':Hp} {h h':Heap} {a C dx:Addr} {fs fs':List (Str×V)}
theorem ins_get (hok:HOk P w H h) (e:H a=some (.ins C dx fs)):∃ mA,ObjM h a dx C mA∧(∀ f,RelO (fs.lookup f) (mA f))∧PySem.Within mA (fs.map (·.1))∧fs.length≤1000∧H dx=some (.own a):=by
  obtain ⟨d,z,ne,ob,mA,n,r,q⟩:=(show Ym P w H h a (.ins C dx fs) from hok a _ e)
  exact ⟨mA,⟨ob,n,ne⟩,r,q,z,d⟩
end

structure Cls (K:PySem.W.Frag) (C:Addr):Prop where
  pg:PySem.W.plainGet K C Str.empty=true
  hd:PySem.W.hasDictIn K C=true
  po:PySem.W.plainOver K C=true
  sa:PySem.W.findIn K (.ref C) "__setattr__"=some (some (.builtin "object.__setattr__"))
theorem Cls.get {K:PySem.W.Frag} {C:Addr} (c:Cls K C) (f:Str):PySem.W.plainGet K C f=true:=c.pg
section
variable {X:Cx} {pins:List (Addr×Obj)} {σ:St} {H:Hp} {s:Shared} {a C dx:Addr} {fs:List (Str×V)} {f:Str} {v:V} {A:Around} {E:Value→Shared→Prop}

theorem Inv.made (I:Inv X pins σ H s):Inv X pins σ (upd (upd H s.heap.objs.size (.own (s.heap.objs.size + 1))) (s.heap.objs.size + 1) (.ins C s.heap.objs.size []))
    { s with heap:=(s.heap.push PySem.W.emptyDict).push (PySem.W.instObj C s.heap.objs.size) }:=by
  have e1:(s.heap.push PySem.W.emptyDict).get? s.heap.objs.size=some PySem.W.emptyDict:=Heap.get?_push_size s.heap rfl
  have e2:((s.heap.push PySem.W.emptyDict).push (PySem.W.instObj C s.heap.objs.size)).get? (s.heap.objs.size + 1)=some (PySem.W.instObj C s.heap.objs.size):=by
    have:=Heap.get?_push_size (s.heap.push PySem.W.emptyDict) (o:=PySem.W.instObj C s.heap.objs.size) rfl
    rwa [Heap.size_push] at this
  have e3:(s.heap.push PySem.W.emptyDict).Ns s.heap.objs.size (fun _=>none):=⟨PySem.W.emptyDict,#[],_,e1,rfl,(fun e he=>absurd he (by simp)),fun _=>rfl⟩
  have I1:=I.laid (a:=s.heap.objs.size) (o := .own (s.heap.objs.size + 1)) (h':=s.heap.push PySem.W.emptyDict) (t':=s.toks) (fun b u q=>Heap.get?_push_of_some _ q) (Nat.le_refl _) ⟨_,e1⟩
  refine I1.laid (a:=s.heap.objs.size + 1) (o := .ins C s.heap.objs.size []) (t':=s.toks) (fun b u q=>Heap.get?_push_of_some _ q) (Nat.le_of_eq (Heap.size_push _ _)) ?_
  have ne:s.heap.objs.size≠s.heap.objs.size + 1:=Nat.ne_of_lt (Nat.lt_succ_self _)
  refine ⟨by rw [Qk ne,Qp],Nat.zero_le _,ne,e2,fun _=>none,(Heap.Ns1.of_empty e3).at fun o q=>Heap.get?_push_of_some _ q,fun _=>True.intro,fun y hy=>absurd rfl hy⟩

theorem attr_of {prog:Program} {w:World} {env:Env} {e:Expr} {f:Str} {pos:Pos} {s:Shared} {Q:Value→Shared→Prop} (hb:attributeBase e f env (eval e env)=eval e env)
    (h:wpAny (model prog w) A (eval e env) (fun o s₁=>wpAny (model prog w) A (getAttr o f true) Q E s₁) E s):wpAny (model prog w) A (eval (.Attribute e f pos) env) Q E s :=
  Attribute_any_ h (by rw [arm_eval_Attribute,hb])
end

section
variable {X:Cx} {o e value:Expr} {f:Str} {pos pos' tpos:Pos} {ta tv:TE}
end

section
variable {X:Cx} {pins:List (Addr×Obj)} {σ:St} {H:Hp} {s:Shared} {A:Around} {E:Value→Shared→Prop} {Q:Value→Shared→Prop} {c:Value} {b:Bool}
end
end L2

namespace L2
open PySem PySem.Spec PyProof.Rows

structure Room (k:Nat) (A:Around):Prop where
  hd:A.handled=none
  dp:A.depth + 3 * k + 5 < recursionLimit
  un:A.units + 16 * k + 200 < cLine
theorem Room.mono {j k:Nat} {A:Around} (r:Room k A) (h:j≤k):Room j A:=⟨r.hd,by have:=r.dp;omega,by have:=r.un;omega⟩
theorem Room.deeper {k:Nat} {A:Around} (r:Room (k + 1) A) (env:Env):Room k (A.deeper env) :=
  ⟨r.hd,by have:=r.dp;show A.depth + 1 + 3 * k + 5 < _;omega,by have:=r.un;show A.units + 3 + 16 * k + 200 < _;omega⟩
theorem Room.in1 {k:Nat} {A:Around} (r:Room (k + 1) A):Room k A.in1 :=
  ⟨r.hd,by have:=r.dp;show A.depth + 3 * k + 5 < _;omega,by have:=r.un;show A.units + 1 + 16 * k + 200 < _;omega⟩
theorem Qfh {A:Around} {C:Addr} {us:List Value} {kw:List (Str×Value)}:(A.under (.builtin "type.__call__" ⟨.ref C :: us,kw⟩)).depth=A.depth + 1:=by
  first | rfl | simp [Around.under,Code.weight,Code.isCreation,Code.isGuard,Code.isCaller,Code.frames,Code.isFrame,guardIds]
theorem Qfg {A:Around} {C:Addr} {us:List Value} {kw:List (Str×Value)}:(A.under (.builtin "type.__call__" ⟨.ref C :: us,kw⟩)).units=A.units + 1:=by
  first | rfl | simp [Around.under,Code.cUnits,Code.frames,Code.isFrame]
theorem Room.make {k:Nat} {A:Around} (r:Room (k + 1) A) (C:Addr) (us:List Value) (kw:List (Str×Value)):Room k (A.under (.builtin "type.__call__" ⟨.ref C :: us,kw⟩)) :=
  ⟨r.hd,by have:=r.dp;rw [Qfh];omega,by have:=r.un;rw [Qfg];omega⟩
theorem Room.depth {k:Nat} {A:Around} (r:Room k A):A.depth < recursionLimit:=by have:=r.dp;omega
theorem Room.units {k:Nat} {A:Around} (r:Room k A):A.units + 64 < cLine:=by have:=r.un;omega
noncomputable def tNil:TA:=fun _ H Q=>Q [] H
noncomputable def Qec (ta:TE) (tr:TA):TA:=fun σ H Q=>ta σ H fun x H1=>tr σ H1 fun xs H2=>Q (x :: xs) H2
section
variable {X:Cx} {e:Expr} {es:List Expr} {te:TE} {t:TA} {pos:Pos}
theorem Qbz:PA X [] tNil:=fun _ _ _ _ H Q I h=>Calls.spliced_nil ⟨[],H,I,.nil,h⟩
theorem ZX (ha:PE X e te) (hr:PA X es t) (hs:starEach (e :: es) X.env=(false,eval e X.env) :: starEach es X.env:=by rfl):PA X (e :: es) (Qec te t):=by
  intro pos pins s σ H Q I h
  rw [hs]
  show wpAny _ _ (spliced ((false,eval e X.env) :: backTo pos (starEach es X.env))) _ _ s
  refine Calls.spliced_cons (thn (ha pins s σ H _ I h) fun u s1 ⟨x,H1,I1,r1,q1⟩ => ?_)
  exact thn (hr pos pins s1 σ H1 _ I1 q1) fun us s2 ⟨xs,H2,I2,r2,q2⟩=>⟨x :: xs,H2,I2,.cons r1 r2,q2⟩

noncomputable def tTup (t:TA):TE:=fun σ H Q=>t σ H fun xs H1=>xs.length≤sizeLine∧∀ p,H1 p=none→Q (.ref p) (upd H1 p (.tup xs))
noncomputable def tLst (t:TA):TE:=fun σ H Q=>t σ H fun xs H1=>xs.length≤sizeLine∧∀ p,H1 p=none→Q (.ref p) (upd H1 p (.lst xs))
theorem pe_tup {x1} (h:PA X es t):PE X (.Tuple es x1 pos) (tTup t):=by
  intro pins s σ H Q I hq
  refine wpAny_Tuple_spliced (thn (h pos pins s σ H _ I hq) fun us s1 ⟨xs,H1,I1,r,z,q⟩=>⟨by rw [← r.length];exact z,?_⟩)
  have hf:H1 s1.heap.objs.size=none:=I1.hok.fresh (Nat.le_refl _)
  refine ⟨.ref s1.heap.objs.size,upd H1 s1.heap.objs.size (.tup xs),I1.laid (t':=s1.toks) (fun b u e=>Heap.get?_push_of_some _ e) (Nat.le_refl _) ?_,rfl,q _ hf⟩
  exact ⟨z,us,r,⟨_,Heap.get?_push_size _ rfl,rfl,.inl rfl,_,rfl⟩⟩
theorem pe_lst (h:PA X es t):PE X (.List es pos) (tLst t):=by
  intro pins s σ H Q I hq
  refine wpAny_List_spliced (thn (h pos pins s σ H _ I hq) fun us s1 ⟨xs,H1,I1,r,z,q⟩=>⟨by rw [← r.length];exact z,?_⟩)
  have hf:H1 s1.heap.objs.size=none:=I1.hok.fresh (Nat.le_refl _)
  refine ⟨.ref s1.heap.objs.size,upd H1 s1.heap.objs.size (.lst xs),I1.laid (t':=s1.toks) (fun b u e=>Heap.get?_push_of_some _ e) (Nat.le_refl _) ?_,rfl,q _ hf⟩
  exact ⟨z,us,0,r,Heap.get?_push_size _ rfl⟩
end

noncomputable abbrev Sp:=List V→Hp→VK→XK→Prop
noncomputable abbrev CXT:=List Env→Hp→Shared→XK→Value→Shared→Prop

structure Env0 (P:Program) (w:World) (K:PySem.W.Frag) (mg:Str→Option Value) (base:Heap) (A:Around) (outer:List Env) (s:Shared) (H:Hp):Prop where
  frames:A.frames=some outer
  mod:Mod K mg base
  bs:∀ b o,base.get? b=some o→s.heap.get? b=some o∧H b=none
  bsz:base.objs.size≤s.heap.objs.size
  funs:s.heap.FunFrames base outer
  frf:∀ b∈frs outer,H b=none
  hok:HOk P w H s.heap
  bare:AllBare s.gens
noncomputable def CE (outer:List Env) (P:Program) (w:World) (H:Hp) (s:Shared) (Q:VK) (u:Value) (s':Shared):Prop :=
  ∃ v H',s'.os=s.os∧AllBare s'.gens∧Un (frs outer) [] H H' s.heap s'.heap∧HOk P w H' s'.heap∧RelV v u∧Q v H'
noncomputable def CR (CX:CXT) (outer:List Env) (P:Program) (w:World) (H:Hp) (s:Shared) (Q:VK) (E:XK) (r:Result) (s':Shared):Prop :=
  match r with
  | .ok (.ret u)=>CE outer P w H s Q u s'
  | .ok _=>False
  | .error e=>CX outer H s E e s'
structure FnOk (P:Program) (w:World) (K:PySem.W.Frag) (mg:Str→Option Value) (base:Heap) (CX:CXT) (k:Nat) (f:Addr) (fd:FuncData) (ps:List Str) (sp:Sp):Prop where
  len:∀ vs H Q E,sp vs H Q E→vs.length=ps.length
  run:∀ (A:Around) (outer:List Env) (s:Shared) (H:Hp) (args:Args) (us:List Value) (vs:List V) (Q:VK) (E:XK),Room k A→Env0 P w K mg base A outer s H→BindsTo s fd args (ps.zip us)→Vals vs us→sp vs H Q E →
    codeAny (model P w) A (.call (.ref f) args) (CR CX outer P w H s Q E) s
theorem FnOk.mono {P:Program} {w:World} {K:PySem.W.Frag} {mg:Str→Option Value} {base:Heap} {CX:CXT} {j k:Nat} {f:Addr} {fd:FuncData} {ps:List Str} {sp:Sp} (F:FnOk P w K mg base CX j f fd ps sp) (h:j≤k) :
    FnOk P w K mg base CX k f fd ps sp:=⟨F.len,fun A outer s H args us vs Q E hr=>F.run A outer s H args us vs Q E (hr.mono h)⟩
theorem FnOk.imp {P:Program} {w:World} {K:PySem.W.Frag} {mg:Str→Option Value} {base:Heap} {CX:CXT} {k:Nat} {f:Addr} {fd:FuncData} {ps:List Str} {sp sp':Sp} (F:FnOk P w K mg base CX k f fd ps sp)
    (h:∀ vs H Q E,sp' vs H Q E→sp vs H Q E):FnOk P w K mg base CX k f fd ps sp' :=
  ⟨fun vs H Q E q=>F.len vs H Q E (h _ _ _ _ q),fun A outer s H args us vs Q E hr he hb hv hs=>F.run A outer s H args us vs Q E hr he hb hv (h _ _ _ _ hs)⟩

theorem Env0.make {P:Program} {w:World} {K:PySem.W.Frag} {mg:Str→Option Value} {base:Heap} {A:Around} {outer:List Env} {s:Shared} {H:Hp} (e:Env0 P w K mg base A outer s H) (C:Addr) (us:List Value) (kw:List (Str×Value)) :
    Env0 P w K mg base (A.under (.builtin "type.__call__" ⟨.ref C :: us,kw⟩)) outer s H:=⟨by first | exact e.frames | (simpa [Around.under,Code.envs,Code.isFrame,pushEnvs] using e.frames),e.mod,e.bs,e.bsz,e.funs,e.frf,e.hok,e.bare⟩
theorem Env0.in1 {P:Program} {w:World} {K:PySem.W.Frag} {mg:Str→Option Value} {base:Heap} {A:Around} {outer:List Env} {s:Shared} {H:Hp} (e:Env0 P w K mg base A outer s H) :
    Env0 P w K mg base A.in1 outer s H:=⟨e.frames,e.mod,e.bs,e.bsz,e.funs,e.frf,e.hok,e.bare⟩

section
variable {X:Cx} {pins:List (Addr×Obj)} {σ:St} {H:Hp} {s s':Shared}
theorem Inv.env0 (I:Inv X pins σ H s):Env0 X.prog X.w X.K X.mg X.base X.A X.stack s H :=
  ⟨I.ok.frames,I.ok.mod,I.bs,Nat.le_trans I.ok.bsz I.sz,I.stack,I.stkFree,I.hok,I.bare⟩
theorem Inv.after {Q:VK} {u:Value} (I:Inv X pins σ H s) (h:CE X.stack X.prog X.w H s Q u s'):EP X pins σ Q u s':=by
  obtain ⟨v,H',os,bare,un,hok,r,q⟩:=h
  obtain ⟨hh,g,d,t,os'⟩:=s'
  obtain rfl:os'=s.os:=os
  exact ⟨v,H',I.call (h':=hh) (g':=g) (d':=d) (t':=t) (ch:=[]) un hok bare (fun b z=>absurd z (by simp)),r,q⟩
end

noncomputable def Qhw (sp:Sp) (dvs:List V) (E:XK) (t:TA):TE:=fun σ H Q=>t σ H fun vs H1=>sp (vs++dvs) H1 Q E
noncomputable def Yz (K:PySem.W.Frag) (fd:FuncData) (ps:List Str) (ds:List Value):Prop :=
  ∀ (s:Shared) (us:List Value),K.In s.heap→(us++ds).length=ps.length→BindsTo s fd ⟨us,[]⟩ (ps.zip (us++ds))
theorem Yz.all {K:PySem.W.Frag} {fd:FuncData} {ps:List Str} (h:∀ us:List Value,us.length=ps.length→bindArgs fd ⟨us,[]⟩=pure (ps.zip us)):Yz K fd ps []:=fun s us _ hl=>by
  rw [List.append_nil] at hl ⊢
  exact .of_eq (h us hl)

noncomputable def QfX (CX:CXT) (X:Cx) (E:XK):Prop:=∀ (pins:List (Addr×Obj)) (σ:St) (H:Hp) (s:Shared) (e:Value) (s':Shared),Inv X pins σ H s→CX X.stack H s E e s'→X.xe e s'

section
variable {X:Cx} {CX:CXT} {k:Nat} {f C:Addr} {fd:FuncData} {ps:List Str} {sp:Sp} {dvs:List V} {ds:List Value} {E:XK} {x m:Str} {p pos apos:Pos} {e o:Expr} {es:List Expr} {ta:TE} {t:TA}

theorem run_fn {pins:List (Addr×Obj)} {σ:St} {H:Hp} {s:Shared} {Q:VK} {us:List Value} {vs:List V} (F:FnOk X.prog X.w X.K X.mg X.base CX k f fd ps sp) (hr:Room k X.A) (hb:Yz X.K fd ps ds) (hd:Vals dvs ds) (hx:QfX CX X E)
    (I:Inv X pins σ H s) (r:Vals vs us) (h:sp (vs++dvs) H Q E):wpAny (model X.prog X.w) X.A (call (.ref f) us) (EP X pins σ Q) X.xe s:=by
  have r2:Vals (vs++dvs) (us++ds):=r.append hd
  have hl:(us++ds).length=ps.length:=by rw [← r2.length];exact F.len _ _ _ _ h
  refine wpAny_call (codeAny_mono (F.run X.A X.stack s H ⟨us,[]⟩ (us++ds) (vs++dvs) Q E hr I.env0 (hb s us I.kIn hl) r2 h) fun r s' hq => ?_)
  cases r with
  | error e=>exact hx pins σ H s e s' I hq
  | ok fl =>
    cases fl with
    | ret u=>exact I.after hq
    | next=>exact False.elim hq
    | brk=>exact False.elim hq
    | cont=>exact False.elim hq

theorem QdI (F:FnOk X.prog X.w X.K X.mg X.base CX k f fd ps sp) (hr:Room k X.A) (hg:Gl X x) (hm:X.mg x=some (.ref f)) (hk:PySem.W.keepIn X.K (.ref f)=true) (hb:Yz X.K fd ps ds) (hd:Vals dvs ds) (hx:QfX CX X E)
    (ha:PA X (e :: es) t) (hdb:(x==("__debug__":Str))=false:=by decide) (he:starEach (e :: es) X.env=(false,eval e X.env) :: starEach es X.env:=by rfl) (hpl:(backTo pos (starEach es X.env)).any (·.1)=false:=by rfl) :
    PE X (.Call (.Name x p) (e :: es) [] pos) (Qhw sp dvs E t):=by
  intro pins s σ H Q I h
  refine wpAny_Call_Name_kw (Xm I hg hm ?_ hdb)
  refine PySem.W.callWith_K (h₀:=X.base) I.ok.mod.kin hk (thn (ha pos pins s σ H _ I h) fun us s1 ⟨vs,H1,I1,r,q⟩=>⟨I1.kIn,?_⟩) he hpl
  exact run_fn F hr hb hd hx I1 r q
end

noncomputable def PK (X:Cx) (kws:List Keyword) (t:TA):Prop :=
  ∀ (pos:Pos) (pins:List (Addr×Obj)) (s:Shared) (σ:St) (H:Hp) (Q:List V→Hp→Prop),Inv X pins σ H s→t σ H Q→wpAny (model X.prog X.w) X.A (evalAll ((backToKw pos (keywordEach kws X.env)).map (·.2))) (AP X pins σ Q) X.xe s
section
variable {X:Cx} {CX:CXT} {k:Nat} {f C:Addr} {fd:FuncData} {ps ks:List Str} {sp:Sp} {E:XK} {x m:Str} {p pos apos kpos:Pos} {e o:Expr} {es:List Expr} {kws:List Keyword} {te ta:TE} {t tk:TA} {nm:Option Str}
theorem pk_nil:PK X [] tNil:=fun _ _ _ _ H Q I h=>wpAny_evalAll_nil ⟨[],H,I,.nil,h⟩
theorem pk_cons (ha:PE X e te) (hr:PK X kws t):PK X (⟨nm,e,kpos⟩ :: kws) (Qec te t):=by
  intro pos pins s σ H Q I h
  show wpAny _ _ (evalAll ((do let v ← eval e X.env;standAt pos;pure v) :: (backToKw pos (keywordEach kws X.env)).map (·.2))) _ _ s
  refine wpAny_evalAll_cons (wpAny_bind (thn (ha pins s σ H _ I h) fun u s1 ⟨x,H1,I1,r1,q1⟩=>wpAny_bind (wpAny_standAt (wpAny_pure ?_))))
  exact thn (hr pos pins s1 σ H1 _ I1 q1) fun us s2 ⟨xs,H2,I2,r2,q2⟩=>⟨x :: xs,H2,I2,.cons r1 r2,q2⟩

structure KBinds (K:PySem.W.Frag) (fd:FuncData) (ps ks:List Str) (g:List Value→List Value→List Value) (gV:List V→List V→List V):Prop where
  to:∀ (s:Shared) (us ws:List Value),K.In s.heap→(g us ws).length=ps.length→BindsTo s fd ⟨us,ks.zip ws⟩ (ps.zip (g us ws))
  rel:∀ {vs:List V} {us:List Value} {zs:List V} {ws:List Value},Vals vs us→Vals zs ws→Vals (gV vs zs) (g us ws)
noncomputable def tCallK (sp:Sp) (gV:List V→List V→List V) (E:XK) (t tk:TA):TE:=fun σ H Q=>t σ H fun vs H1=>tk σ H1 fun zs H2=>sp (gV vs zs) H2 Q E
variable {g:List Value→List Value→List Value} {gV:List V→List V→List V}
end

structure FnScope (N P:List Str) (sc:Scope):Prop where
  kind:sc.kind = .function
  co:sc.isCoroutine=false
  gen:sc.isGenerator=false
  nd:N.Nodup
  pre:N.take P.length=P
  par:∀ x∈P,sc.names.lookup x=some .local∨sc.names.lookup x=some .cell
  nofree:∀ y∈sc.names,y.2 ≠ .free

theorem Qdo {kindOf:Str→Option NameKind} {x:Str}:∀ {binds:List (Str×Value)} {m:Str→Option Value},(∀ v,(x,v)∉binds)→bindL kindOf binds m x=m x
  | [],_,_=>rfl
  | (n,v) :: r,m,h=>by
    unfold bindL
    rw [Qdo fun w hw=>h w (List.mem_cons_of_mem _ hw)]
    split
    · have:x≠n:=by rintro rfl;exact h v List.mem_cons_self
      simp [this]
    · rfl
theorem Qdq {kindOf:Str→Option NameKind} {x:Str}:∀ {binds:List (Str×Value)} {m:Str→Option Value},(∀ v,(x,v)∉binds)→bindC kindOf binds m x=m x
  | [],_,_=>rfl
  | (n,v) :: r,m,h=>by
    unfold bindC
    rw [Qdq fun w hw=>h w (List.mem_cons_of_mem _ hw)]
    split
    · rfl
    · have:x≠n:=by rintro rfl;exact h v List.mem_cons_self
      simp [this]
theorem Qdp {kindOf:Str→Option NameKind} {x:Str} {v:Value}:∀ {P:List Str} {vs:List Value} {i:Nat} {m:Str→Option Value},P.Nodup→P[i]?=some x→vs[i]?=some v→kindOf x=some .local →
    bindL kindOf (P.zip vs) m x=some v
  | [],_,_,_,_,h,_,_=>by simp at h
  | _ :: _,[],_,_,_,_,h,_=>by simp at h
  | p :: P,w :: vs,0,m,nd,h1,h2,hk=>by
    simp at h1 h2;subst h1;subst h2
    show bindL kindOf ((p,w) :: P.zip vs) m p=_
    unfold bindL
    rw [Qdo fun v hv=>(List.nodup_cons.mp nd).1 (List.of_mem_zip hv).1,if_pos hk]
    simp
  | p :: P,w :: vs,i + 1,m,nd,h1,h2,hk=>by
    show bindL kindOf ((p,w) :: P.zip vs) m x=_
    unfold bindL
    exact Qdp (i:=i) (List.nodup_cons.mp nd).2 (by simpa using h1) (by simpa using h2) hk
theorem Qdr {kindOf:Str→Option NameKind} {x:Str} {v:Value}:∀ {P:List Str} {vs:List Value} {i:Nat} {m:Str→Option Value},P.Nodup→P[i]?=some x→vs[i]?=some v→kindOf x≠some .local →
    bindC kindOf (P.zip vs) m x=some v
  | [],_,_,_,_,h,_,_=>by simp at h
  | _ :: _,[],_,_,_,_,h,_=>by simp at h
  | p :: P,w :: vs,0,m,nd,h1,h2,hk=>by
    simp at h1 h2;subst h1;subst h2
    show bindC kindOf ((p,w) :: P.zip vs) m p=_
    unfold bindC
    rw [Qdq fun v hv=>(List.nodup_cons.mp nd).1 (List.of_mem_zip hv).1,if_neg hk]
    simp
  | p :: P,w :: vs,i + 1,m,nd,h1,h2,hk=>by
    show bindC kindOf ((p,w) :: P.zip vs) m x=_
    unfold bindC
    exact Qdr (i:=i) (List.nodup_cons.mp nd).2 (by simpa using h1) (by simpa using h2) hk

noncomputable def Yq (N:List Str) (vs:List V):St:=vs.map some++List.replicate (N.length - vs.length) none

noncomputable def cxOf (CX:CXT) (P:Program) (w:World) (K:PySem.W.Frag) (mg:Str→Option Value) (base:Heap) (N:List Str) (qual:Str) (scope:Scope) (f:Addr) (cd:Value) (A:Around) (outer:List Env) (s:Shared) (H:Hp) (E:XK):Cx where
  prog:=P
  w:=w
  K:=K
  mg:=mg
  base:=base
  A:=A.deeper (envOfC qual scope s.heap.objs.size f cd)
  N:=N
  s₀:=s
  H₀:=H
  env:=envOfC qual scope s.heap.objs.size f cd
  outer:=outer
  stack:=envOfC qual scope s.heap.objs.size f cd :: outer
  ex:=[]
  calm:=true
  fn:=fun _=>true
  pn:=[]
  xe:=fun e s'=>wpAny (model P w) (A.deeper (envOfC qual scope s.heap.objs.size f cd)) (leaving (envOfC qual scope s.heap.objs.size f cd) e) (fun _ s''=>CX outer H s E e s'') (fun e' s''=>CX outer H s E e' s'') s'

theorem QeS {sc:Scope} {n:Nat} {x:Str} (h:sc.names.lookup x=some .cell):∃ c,(cellsFrom n sc.names []).lookup x=some c:=by
  have q:=PySem.W.cellsFrom_some sc.names n [] (.inl h)
  exact Option.isSome_iff_exists.mp q

theorem Qhb {CX:CXT} {P:Program} {w:World} {K:PySem.W.Frag} {mg:Str→Option Value} {base:Heap} {N ps:List Str} {qual:Str} {scope:Scope} {f:Addr} {cd:Value} {A:Around} {outer:List Env} {s s1:Shared} {H:Hp} {E:XK} {us:List Value} {vs:List V}
    (S:FnScope N ps scope) (hd:A.handled=none) (e0:Env0 P w K mg base A outer s H) (hl:vs.length=ps.length) (r:Vals vs us)
    (x:InCallC s s.heap.objs.size (bindL (envOfC qual scope s.heap.objs.size f cd).kindOf (ps.zip us) fun _=>none) (cellsFrom (s.heap.objs.size + 1) scope.names []) (bindC (envOfC qual scope s.heap.objs.size f cd).kindOf (ps.zip us) fun _=>none) s1) :
    Inv (cxOf CX P w K mg base N qual scope f cd A outer s H E) [] (Yq N vs) H s1:=by
  have hpl:ps.length≤N.length:=by have:=congrArg List.length S.pre;rw [List.length_take] at this;omega
  obtain ⟨h1,tk,rfl,hk⟩:=x.done
  have noA:∀ b:Addr,b∉(cxOf CX P w K mg base N qual scope f cd A outer s H E).ex:=fun b z=>absurd (show b∈([]:List Addr) from z) (by simp)
  refine ⟨⟨e0.mod,S.kind,rfl,rfl,Nat.le_refl _,fun y z c h1 h2 => ?_,fun y hy => ?_,fun y c _ h => ?_,fun _=>hd,Around.frames_deeper e0.frames,.inr ⟨rfl,rfl⟩,fun b z=>absurd z (noA b),e0.bs,e0.bsz,fun b _ _=>noA b,fun b z=>absurd z (noA b),e0.funs,e0.frf⟩,
    rfl,e0.bare,Un.kept hk,⟨_,x.toInCall.ns,fun i y v h1 h2 h3 => ?_⟩,fun y c h=>⟨_,x.cell y c h⟩,e0.hok.fresh (Nat.le_refl _),fun y c h => ?_,fun p hp=>absurd (show p∈([]:List (Addr×Obj)) from hp) (by simp),e0.hok.kept hk,?_⟩
  · exact name_of_addr x.apart (PySem.mem_of_lookup h1) (PySem.mem_of_lookup h2)
  · have hy:scope.names.lookup y=some .cell∨scope.names.lookup y=some .free:=hy
    rcases hy with hy | hy
    · exact QeS hy
    · exact absurd rfl (S.nofree _ (PySem.mem_of_lookup hy))
  · exact Nat.le_of_lt (x.above y c (PySem.mem_of_lookup h))
  · have hi:i < vs.length:=by
      unfold Yq at h2
      by_cases hi:i < vs.length
      · exact hi
      · rw [List.getElem?_append_right (by simpa using hi)] at h2
        rw [List.getElem?_replicate] at h2
        split at h2 <;> cases h2
    have ha:vs[i]?=some v:=by
      unfold Yq at h2
      rw [List.getElem?_append_left (by simpa using hi),List.getElem?_map] at h2
      cases e:vs[i]? with
      | none=>rw [e] at h2;cases h2
      | some a=>rw [e] at h2;cases h2;rfl
    obtain ⟨u,hu,rv⟩:=r.get ha
    have hp:ps[i]?=some y:=by
      rw [← S.pre,List.getElem?_take_of_lt (by omega)];exact h1
    have ndP:ps.Nodup:=by rw [← S.pre];exact S.nd.sublist (List.take_sublist _ _)
    refine ⟨u,rv,?_⟩
    rcases S.par y (List.mem_of_getElem? hp) with k | k
    · exact .inl ⟨k,Qdp ndP hp hu k⟩
    · obtain ⟨c,e⟩:=QeS (n:=s.heap.objs.size + 1) k
      refine .inr ⟨.inl k,c,e,?_⟩
      have q:=x.cell y c e
      rw [Qdr ndP hp hu (by show scope.names.lookup y≠_;rw [k];decide)] at q
      exact q
  · exact e0.hok.fresh (Nat.le_of_lt (x.above y c (PySem.mem_of_lookup h)))
  · unfold Yq
    show _=N.length
    rw [List.length_append,List.length_map,List.length_replicate]
    omega

theorem fn_of {CX:CXT} {P:Program} {w:World} {K:PySem.W.Frag} {mg:Str→Option Value} {base:Heap} {k:Nat} {f:Addr} {name qual:Str} {params:Arguments} {body:List Stmt} {scope:Scope} {dV kV doc pm cdv ct oc:Value} {an od:Option Addr}
    {osl:Array (Option Value)} {N ps:List Str} {sp:Sp} (lk:K.lookup f=some ⟨oc,od,.func (PySem.W.fnOf name qual params body scope dV kV doc pm an cdv ct),osl⟩) (hcd:PySem.W.codeIn K cdv qual=true) (S:FnScope N ps scope)
    (len:∀ vs H Q E,sp vs H Q E→vs.length=ps.length)
    (hbody:∀ (A:Around) (outer:List Env) (s:Shared) (H:Hp) (vs:List V) (Q:VK) (E:XK),Room k (A.deeper (envOfC qual scope s.heap.objs.size f cdv))→sp vs H Q E →
      ∃ t,PSs (cxOf CX P w K mg base N qual scope f cdv A outer s H E) body t∧t { nx:=fun _ H'=>Q .non H',rt:=Q } (Yq N vs) H) :
    FnOk P w K mg base CX (k + 1) f (PySem.W.fnOf name qual params body scope dV kV doc pm an cdv ct) ps sp:=by
  refine ⟨len,fun A outer s H args us vs Q E hr e0 hb r hsp => ?_⟩
  have hl:=len _ _ _ _ hsp
  have KX:K.In s.heap:=e0.mod.kin.keeps fun b o e=>(e0.bs b o e).1
  have lim:s.heap.NoLimit:=e0.mod.nolimit.keeps fun b o e=>(e0.bs b o e).1
  have hkind:∀ y∈ps.zip us,scope.names.lookup y.1=some .local∨(scope.names.lookup y.1=some .cell∧((cellsFrom (s.heap.objs.size + 1) scope.names []).lookup y.1).isSome=true):=fun ⟨n,v⟩ hy=>by
    rcases S.par n (List.of_mem_zip hy).1 with q | q
    · exact .inl q
    · exact .inr ⟨q,PySem.W.cellsFrom_some _ _ _ (.inl q)⟩
  refine codeAny_call_function hr.depth (KX _ _ lk) rfl S.co S.gen rfl (PySem.W.codeRec_of KX hcd) (hb _ _ _ _ ?_)
  refine wpAny_newFunctionEnv_cells S.kind hkind fun env he s1 x => ?_
  subst he
  refine ⟨lim.keeps x.toInCall.keep,codeAny_func ?_⟩
  obtain ⟨t,ht,hq⟩:=hbody A outer s H vs Q E (hr.deeper _) hsp
  have I:Inv (cxOf CX P w K mg base N qual scope f cdv A outer s H E) [] (Yq N vs) H s1:=Qhb S hr.hd e0 hl r x
  refine wpAny_mono (ht [] s1 (Yq N vs) H _ I hq) (fun fl s' hs => ?_) fun e s' hs=>hs
  have fin:∀ {σ':St} {H':Hp} {v:V} {u:Value},Inv (cxOf CX P w K mg base N qual scope f cdv A outer s H E) [] σ' H' s'→RelV v u→Q v H'→CE outer P w H s Q u s' :=
    fun {σ' H' v u} J rv q=>⟨v,H',J.os,J.bare,J.base,J.hok,rv,q⟩
  cases fl with
  | ret u =>
    obtain ⟨v,σ',H',J,rv,q⟩:=hs
    exact fin J rv q
  | next =>
    obtain ⟨σ',H',J,q⟩:=hs
    exact fin (v:=V.non) (u:=Value.none) J rfl q
  | brk =>
    obtain ⟨_,_,_,q⟩:=hs
    exact False.elim q
  | cont =>
    obtain ⟨_,_,_,q⟩:=hs
    exact False.elim q
end L2

namespace L2
open PySem PySem.Spec PyProof.Rows
section
variable {X:Cx} {x:Str} {p pos:Pos} {e:Expr} {es:List Expr} {t:TA} {id T:String} {r:List V→Hp→VK→Prop}

noncomputable def tCB (r:List V→Hp→VK→Prop) (t:TA):TE:=fun σ H Q=>t σ H fun vs H1=>r vs H1 Q
theorem XE (hc:Xj X (.builtin id) r) (hg:Gl X x) (hm:X.mg x=none) (hv:bootBuiltins x=some (.builtin id)) (ha:PA X (e :: es) t) (hn:x ≠ "__name__":=by decide) (hdb:(x==("__debug__":Str))=false:=by decide)
    (he:starEach (e :: es) X.env=(false,eval e X.env) :: starEach es X.env:=by rfl) (hpl:(backTo pos (starEach es X.env)).any (·.1)=false:=by rfl):PE X (.Call (.Name x p) (e :: es) [] pos) (tCB r t):=by
  intro pins s σ H Q I h
  refine wpAny_Call_Name_kw (QcO I hg hm hv ?_ hn hdb)
  exact PyProof.Rows.callWith_builtin1 (thn (ha pos pins s σ H _ I h) fun us s1 ⟨vs,H1,I1,r1,q1⟩=>hc pins s1 σ H1 vs us Q I1 r1 q1) he hpl
theorem Qdb (hc:Xj X (.type T) r) (hg:Gl X x) (hm:X.mg x=none) (hv:bootBuiltins x=some (.type T)) (ha:PA X (e :: es) t) (hn:x ≠ "__name__":=by decide) (hdb:(x==("__debug__":Str))=false:=by decide)
    (he:starEach (e :: es) X.env=(false,eval e X.env) :: starEach es X.env:=by rfl) (hpl:(backTo pos (starEach es X.env)).any (·.1)=false:=by rfl):PE X (.Call (.Name x p) (e :: es) [] pos) (tCB r t):=by
  intro pins s σ H Q I h
  refine wpAny_Call_Name_kw (QcO I hg hm hv ?_ hn hdb)
  exact PyProof.Rows.callWith_type1 (thn (ha pos pins s σ H _ I h) fun us s1 ⟨vs,H1,I1,r1,q1⟩=>hc pins s1 σ H1 vs us Q I1 r1 q1) he hpl
end
end L2

namespace HT
open PySem PyProof.Rows

section
open PySem.SeqAt
open PySem.AutoSeq1 (wpAny_loadPart')
open PySem.MeetsSeq PySem.MeetsSeq2 PySem.MeetsSeq3

end

section
variable {prog:Program} {w:World} {A:Around} {E:Value→Shared→Prop} {s:Shared}

noncomputable def sIx (n d:Nat):Option Int→Nat
  | none=>d
  | some v=>if v < 0 then (v + (n:Int)).toNat else min v.toNat n
theorem sIx_none (n d:Nat):sIx n d none=d:=rfl
theorem sIx_nat (n d k:Nat):sIx n d (some (k:Int))=min k n:=by
  show (if (k:Int) < 0 then ((k:Int) + (n:Int)).toNat else min (k:Int).toNat n)=min k n
  rw [if_neg (by omega),Int.toNat_natCast]
end
end HT

namespace L2
open PySem PySem.Spec PyProof.Rows

noncomputable abbrev TO:=St→Hp→(Option Int→Hp→Prop)→Prop
noncomputable def PO (X:Cx) (e:Option Expr) (t:TO):Prop :=
  ∀ (pins:List (Addr×Obj)) (s:Shared) (σ:St) (H:Hp) (Q:Option Int→Hp→Prop),Inv X pins σ H s→t σ H Q →
    wpAny (model X.prog X.w) X.A (evalPart e X.env) (fun u s'=>∃ o H',Inv X pins σ H' s'∧IsPart u o∧Q o H') X.xe s
noncomputable def tNoPart:TO:=fun _ H Q=>Q none H
noncomputable def tPart (t:TE):TO:=fun σ H Q=>t σ H fun x H1=>∃ i,x = .int i∧Q (some i) H1

section
variable {X:Cx} {e:Expr} {te:TE} {lo hi:Option Expr} {tl th:TO} {pos p2:Pos}

theorem po_none:PO X none tNoPart:=by
  intro pins s σ H Q I h
  rw [evalPart_none]
  exact wpAny_pure ⟨none,H,I,.none,h⟩
theorem po_some (h:PE X e te):PO X (some e) (tPart te):=by
  intro pins s σ H Q I hw
  rw [evalPart_some]
  refine thn (h pins s σ H _ I hw) fun u s1 ⟨x,H1,I1,r1,q1⟩ => ?_
  obtain ⟨i,rfl,q⟩:=q1
  obtain ⟨t,rfl⟩:=r1
  exact ⟨some i,H1,I1,.int i t,q⟩

noncomputable def SlR (X:Cx) (r:V→Option Int→Option Int→Hp→VK→Prop):Prop :=
  ∀ (pins:List (Addr×Obj)) (s:Shared) (σ:St) (H:Hp) (x:V) (v vl vu:Value) (lo hi:Option Int) (sl:Addr) (Q:VK),Inv X pins σ H s→RelV x v→s.heap.IsSliceOf sl vl vu .none→IsPart vl lo→IsPart vu hi→r x lo hi H Q →
    ∃ T id,typeLookup (.type T) "__getitem__"=pure (some (.builtin id))∧s.TypeIs v T∧wpAny (model X.prog X.w) X.A (getItem v (.ref sl)) (EP X pins σ Q) X.xe s
theorem SlR.or {r r':V→Option Int→Option Int→Hp→VK→Prop} (h:SlR X r) (h':SlR X r'):SlR X (fun x lo hi H Q=>r x lo hi H Q∨r' x lo hi H Q):=by
  intro pins s σ H x v vl vu lo hi sl Q I rx hs pl pu q
  rcases q with q | q
  · exact h pins s σ H x v vl vu lo hi sl Q I rx hs pl pu q
  · exact h' pins s σ H x v vl vu lo hi sl Q I rx hs pl pu q
noncomputable def tSl (r:V→Option Int→Option Int→Hp→VK→Prop) (te:TE) (tl th:TO):TE:=fun σ H Q=>te σ H fun x H1=>tl σ H1 fun l H2=>th σ H2 fun u H3=>r x l u H3 Q
theorem QeD {r:V→Option Int→Option Int→Hp→VK→Prop} (hr:SlR X r) (he:PE X e te) (hl:PO X lo tl) (hu:PO X hi th):PE X (.Subscript e (.Slice lo hi none p2) pos) (tSl r te tl th):=by
  intro pins s σ H Q I h
  refine Subscript_ (thn (he pins s σ H _ I h) fun v s1 ⟨x,H1,I1,r1,q1⟩ => ?_)
  refine wpAny_Slice (thn (hl pins s1 σ H1 _ I1 q1) fun vl s2 ⟨l,H2,I2,pl,q2⟩=>thn (hu pins s2 σ H2 _ I2 q2) fun vu s3 ⟨u,H3,I3,pu,q3⟩ => ?_)
  rw [evalPart_none]
  refine wpAny_pure ?_
  have I4:Inv X pins σ H3 { s3 with heap:=s3.heap.push { cls := .type "slice",data := .fields #[vl,vu,.none] } }:=I3.kept (t':=s3.toks) fun b ob q=>Heap.get?_push_of_some _ q
  obtain ⟨T,id,hT,ht,hg⟩:=hr pins { s3 with heap:=s3.heap.push { cls := .type "slice",data := .fields #[vl,vu,.none] } } σ H3 x v vl vu l u s3.heap.objs.size Q I4 r1 (Heap.IsSliceOf.new ..) pl pu q3
  show wpAny (model X.prog X.w) X.A (subscriptTail e (.Slice lo hi none p2) v (.ref s3.heap.objs.size)) (EP X pins σ Q) X.xe { s3 with heap:=s3.heap.push { cls := .type "slice",data := .fields #[vl,vu,.none] } }
  exact tail_any (ops:=[.ref s3.heap.objs.size,v]) ht hT hg (by with_unfolding_all rfl)

noncomputable def cutV (xs:List V) (lo hi:Option Int):List V:=(xs.drop (HT.sIx xs.length 0 lo)).take (HT.sIx xs.length xs.length hi - HT.sIx xs.length 0 lo)
theorem Qem (xs:List V) (lo hi:Option Int):(cutV xs lo hi).length≤xs.length:=by
  unfold cutV
  rw [List.length_take,List.length_drop]
  omega
end
end L2

namespace L2
open PySem PySem.Spec PyProof.Rows

noncomputable def ixN (n:Nat) (i:Int):Option Nat:=if 0≤i then (if i < n then some i.toNat else none) else if -(n:Int)≤i then some (i + n).toNat else none
noncomputable def atI {α:Type} (xs:List α) (i:Int):Option α:=(ixN xs.length i).bind fun j=>xs[j]?
theorem Qgo {n:Nat} {i:Int} {j:Nat} (h:ixN n i=some j):seqIndex? i n=some j∧j < n ∧ -(n:Int)≤i∧i < n:=by
  unfold ixN at h
  by_cases h0:0≤i
  · rw [if_pos h0] at h
    by_cases h1:i < n
    · rw [if_pos h1] at h
      have e:i.toNat=j:=Option.some.inj h
      exact ⟨by rw [seqIndex_of h0 h1,e],by omega,by omega,h1⟩
    · rw [if_neg h1] at h;cases h
  · rw [if_neg h0] at h
    by_cases h1 : -(n:Int)≤i
    · rw [if_pos h1] at h
      have e:(i + n).toNat=j:=Option.some.inj h
      exact ⟨by rw [seqIndex_neg (by omega) h1,e],by omega,h1,by omega⟩
    · rw [if_neg h1] at h;cases h
theorem QdU {α:Type} {xs:List α} {i:Int} {v:α} (h:atI xs i=some v):∃ j,seqIndex? i xs.length=some j∧xs[j]?=some v∧j < xs.length ∧ -(xs.length:Int)≤i∧i < xs.length:=by
  unfold atI at h
  cases e:ixN xs.length i with
  | none=>rw [e] at h;cases h
  | some j =>
    rw [e] at h
    obtain ⟨h1,h2,h3,h4⟩:=Qgo e
    exact ⟨j,h1,h,h2,h3,h4⟩
theorem QgA {α:Type} {xs:List α} {j:Nat} {v:α} (h:xs[j]?=some v):atI xs (j:Int)=some v:=by
  have hj:j < xs.length:=(List.getElem?_eq_some_iff.mp h).1
  have e:ixN xs.length (j:Int)=some j:=by
    unfold ixN
    rw [if_pos (by omega),if_pos (by omega)];simp
  unfold atI;rw [e];exact h
theorem atI_last {α:Type} (xs:List α) (v:α):atI (xs++[v]) (-1)=some v:=by
  have hl:(xs++[v]).length=xs.length + 1:=by simp
  have e:ixN (xs++[v]).length (-1)=some xs.length:=by
    unfold ixN
    rw [hl,if_neg (by decide),if_pos (by omega)]
    congr 1
    omega
  unfold atI
  rw [e]
  show (xs++[v])[xs.length]?=some v
  simp

noncomputable def QgC (b:Expr):Prop:=∀ o i,subscripted b false o i=operate [o,i] (getItem o i)
noncomputable def IxR (X:Cx) (r:R2):Prop :=
  ∀ (value slice:Expr) (pins:List (Addr×Obj)) (s:Shared) (σ:St) (H:Hp) (x y:V) (v u:Value) (Q:VK),Inv X pins σ H s→RelV x v→RelV y u→r x y H Q →
    subscripted slice false v u=operate [v,u] (getItem v u)→wpAny (model X.prog X.w) X.A (subscriptTail value slice v u) (EP X pins σ Q) X.xe s
noncomputable def MtR (X:Cx) (id:String) (r:V→List V→Hp→VK→Prop):Prop :=
  ∀ (pins:List (Addr×Obj)) (s:Shared) (σ:St) (H:Hp) (x:V) (xs:List V) (v:Value) (us:List Value) (Q:VK),Inv X pins σ H s→RelV x v→Vals xs us→r x xs H Q →
    wpAny (model X.prog X.w) X.A (call (.builtin id) (v :: us)) (EP X pins σ Q) X.xe s
section
variable {X:Cx} {a b:Expr} {ta tb:TE} {pos:Pos}
theorem IxR.or {r r':R2} (h:IxR X r) (h':IxR X r'):IxR X (fun x y H Q=>r x y H Q∨r' x y H Q):=by
  intro value slice pins s σ H x y v u Q I rx ry q hs
  rcases q with q | q
  · exact h value slice pins s σ H x y v u Q I rx ry q hs
  · exact h' value slice pins s σ H x y v u Q I rx ry q hs
theorem MtR.or {id:String} {r r':V→List V→Hp→VK→Prop} (h:MtR X id r) (h':MtR X id r'):MtR X id (fun x xs H Q=>r x xs H Q∨r' x xs H Q):=by
  intro pins s σ H x xs v us Q I rx rs q
  rcases q with q | q
  · exact h pins s σ H x xs v us Q I rx rs q
  · exact h' pins s σ H x xs v us Q I rx rs q
theorem pe_ix {r:R2} (hr:IxR X r) (ha:PE X a ta) (hb:PE X b tb) (hs:QgC b):PE X (.Subscript a b pos) (tOp r ta tb):=by
  intro pins s σ H Q I h
  exact Subscript_ (binT ha hb I h fun v u s2 x y H2 I2 rx ry q=>hr a b pins s2 σ H2 x y v u Q I2 rx ry q (hs _ _))

noncomputable def rIxL (K:PySem.W.Frag):R2:=fun x y H Q=>∃ p xs i v,x = .ref p∧y = .int i∧SqL K H p xs∧atI xs i=some v∧Q v H
noncomputable def rIxT (K:PySem.W.Frag):R2:=fun x y H Q=>∃ p xs i v,x = .ref p∧y = .int i∧SqT K H p xs∧atI xs i=some v∧Q v H
noncomputable def rIxS:R2:=fun x y H Q=>∃ z i c,x = .str z∧y = .int i∧z.length≤sizeLine∧atI z.cps.toList i=some c∧Q (.str ⟨#[c]⟩) H
theorem ix_list:IxR X (rIxL X.K):=by
  intro value slice pins s σ H x y v u Q I rx ry h hs
  obtain ⟨p,xs,i,z,rfl,rfl,hq,he,q⟩:=h
  cases rx
  obtain ⟨t,rfl⟩:=ry
  obtain ⟨its,r,pl,hz⟩:=I.list hq
  obtain ⟨j,h1,h2,h3,h4,h5⟩:=QdU he
  obtain ⟨w,ew,rw'⟩:=r.get h2
  have hl:=r.length
  have hn:=QaH
  have fin:EP X pins σ Q w s:=⟨z,H,I,rw',q⟩
  by_cases h0:0≤i
  · have hj:i.toNat=j:=by
      rw [seqIndex_of h0 h5] at h1
      exact Option.some.inj h1
    exact item_listR pl.isList h0 (by omega) (by rw [hj];simpa using ew) fin hs
  · have hj:(i + (its.toArray.size:Int)).toNat=j:=by
      rw [seqIndex_neg (by omega) h4] at h1
      rw [List.size_toArray,← hl]
      exact Option.some.inj h1
    exact subscriptTail_builtinR (x:=w) pl.isList.typeIs slot_list_getitem.lookup
      (wpAny_getItem_list_neg (Q:=fun r s'=>r=w∧EP X pins σ Q r s') pl.isList (by omega) (by rw [List.size_toArray] <;> omega) (by omega) (by rw [hj];simpa using ew) ⟨rfl,fin⟩) hs
theorem ix_tup:IxR X (rIxT X.K):=by
  intro value slice pins s σ H x y v u Q I rx ry h hs
  obtain ⟨p,xs,i,z,rfl,rfl,hq,he,q⟩:=h
  cases rx
  obtain ⟨t,rfl⟩:=ry
  obtain ⟨its,r,pl,hz⟩:=I.tuple hq
  obtain ⟨j,h1,h2,h3,h4,h5⟩:=QdU he
  obtain ⟨w,ew,rw'⟩:=r.get h2
  have hl:=r.length
  have hn:=QaH
  have fin:EP X pins σ Q w s:=⟨z,H,I,rw',q⟩
  exact subscriptTail_builtinR (x:=w) pl.typeIs slot_tuple_getitem.lookup
    (getItem_tuple (j:=j) (Q:=fun r s'=>r=w∧EP X pins σ Q r s') pl (by omega) (by omega) (by rw [List.size_toArray,← hl];exact h1) (by simpa using ew) ⟨rfl,fin⟩) hs
theorem ix_str:IxR X rIxS:=by
  intro value slice pins s σ H x y v u Q I rx ry h hs
  obtain ⟨z,i,c,rfl,rfl,hz,he,q⟩:=h
  obtain ⟨t,rfl⟩:=rx
  obtain ⟨t',rfl⟩:=ry
  obtain ⟨j,h1,h2,h3,h4,h5⟩:=QdU he
  have hl:z.cps.toList.length=z.length:=by simp [Str.length]
  rw [hl] at h1 h4 h5
  have hn:=QaH
  exact tail_any (typeIs_str s z t) slot_str_getitem.lookup (getItem_str (c:=c) (by
    have e1:decide (i < -(2 ^ 63:Int))=false:=decide_eq_false (by omega)
    have e2:decide (i ≥ 2 ^ 63)=false:=decide_eq_false (by omega)
    rw [e1,e2,Bool.or_false]) (by rw [h1];simpa using h2) ⟨.str ⟨#[c]⟩,H,I.tok _,⟨_,rfl⟩,q⟩) hs
theorem Qff (its:List Value) (n j:Nat) (u:Value):Obj.mapSeq (·.setIfInBounds j u) { cls := .type "list",data := .seq its.toArray n }={ cls := .type "list",data := .seq (its.set j u).toArray n }:=by
  simp [Obj.mapSeq]
theorem Inv.lst {pins:List (Addr×Obj)} {σ:St} {H:Hp} {s:Shared} {p:Addr} {xs:List V} (I:Inv X pins σ H s) (h:H p=some (.lst xs)) :
    ∃ (its:List Value) (n:Nat),Vals xs its∧s.heap.get? p=some { cls := .type "list",data := .seq its.toArray n }∧xs.length≤sizeLine:=by
  obtain ⟨z,its,n,r,e⟩:=I.hok p _ h
  exact ⟨its,n,r,e,z⟩
theorem Inv.lstUpd {pins:List (Addr×Obj)} {σ:St} {H:Hp} {s:Shared} {p:Addr} {xs ys:List V} {its its':List Value} {n n':Nat} {f:Obj→Obj} (I:Inv X pins σ H s) (h:H p=some (.lst xs))
    (ho:s.heap.get? p=some { cls := .type "list",data := .seq its.toArray n }) (hf:f { cls := .type "list",data := .seq its.toArray n }={ cls := .type "list",data := .seq its'.toArray n' }) (r:Vals ys its') (hz:ys.length≤sizeLine) (t:Nat) :
    Inv X pins σ (upd H p (.lst ys)) { s with heap:=s.heap.update p f,toks:=t }:=by
  have e:(s.heap.update p f).get? p=some { cls := .type "list",data := .seq its'.toArray n' }:=by
    rw [Heap.get?_update_self f ho (by rw [hf] <;> rfl),hf]
  refine I.write (x:=p) (e:=p) (by rw [h];trivial) (.inl rfl) (fun b u hb q=>(Heap.get?_update_other _ _ (Ne.symm hb)).trans q) ⟨_,e⟩ ?_
  exact ⟨hz,its',n',r,e⟩
noncomputable def rSetL:V→V→V→Hp→(Hp→Prop)→Prop:=fun o i v H Q=>∃ p xs k j,o = .ref p∧i = .int k∧H p=some (.lst xs)∧ixN xs.length k=some j∧Q (upd H p (.lst (xs.set j v)))
theorem set_list:PSet X rSetL:=by
  intro pins s σ H o i v ov iv u Q I ro ri rv h
  obtain ⟨p,xs,k,j,rfl,rfl,hp,hj,q⟩:=h
  cases ro
  obtain ⟨t,rfl⟩:=ri
  obtain ⟨its,n,r,ho,hz⟩:=I.lst hp
  obtain ⟨h1,h2,h3,h4⟩:=Qgo hj
  have hl:=r.length
  have hn:=QaH
  have I':Inv X pins σ (upd H p (.lst (xs.set j v))) { s with heap:=s.heap.update p (Obj.mapSeq (·.setIfInBounds j u)) } :=
    I.lstUpd hp ho (Qff its n j u) (r.set rv j) (by rw [List.length_set];exact hz) s.toks
  by_cases h0:0≤k
  · have hk:k.toNat=j:=by
      rw [seqIndex_of h0 h4] at h1
      exact Option.some.inj h1
    exact PySem.W.ki_setAt ho h0 (by omega) (by rw [List.size_toArray,← hl];exact h4) (by rw [hk];exact ⟨_,I',q⟩)
  · have hk:(k + (its.toArray.size:Int)).toNat=j:=by
      rw [seqIndex_neg (by omega) h3] at h1
      rw [List.size_toArray,← hl]
      exact Option.some.inj h1
    exact PySem.W.ki_setBack ho (by omega) (by rw [List.size_toArray,← hl];exact h3) (by omega) (by rw [hk];exact ⟨_,I',q⟩)

theorem QdA (lo hi:Option Int) (n:Nat):(sliceBounds lo hi none n).1=((HT.sIx n 0 lo:Nat):Int)∧(sliceBounds lo hi none n).2.1=((HT.sIx n n hi:Nat):Int)∧(sliceBounds lo hi none n).2.2=1:=by
  refine ⟨?_,?_,rfl⟩
  · cases lo with
    | none=>simp [sliceBounds,HT.sIx]
    | some i =>
      simp only [sliceBounds,HT.sIx,Option.getD_none,show (1:Int) > 0 by decide,if_true]
      by_cases h:i < 0
      · simp only [h,if_true] <;> omega
      · simp only [h,if_false] <;> omega
  · cases hi with
    | none=>simp [sliceBounds,HT.sIx]
    | some i =>
      simp only [sliceBounds,HT.sIx,Option.getD_none,show (1:Int) > 0 by decide,if_true]
      by_cases h:i < 0
      · simp only [h,if_true] <;> omega
      · simp only [h,if_false] <;> omega
theorem Qcy (its:List Value) (lo hi:Option Int):slicePick its.toArray lo hi none=((its.drop (HT.sIx its.length 0 lo)).take (HT.sIx its.length its.length hi - HT.sIx its.length 0 lo)).toArray:=by
  obtain ⟨h1,h2,h3⟩:=QdA lo hi its.toArray.size
  unfold slicePick
  rw [h1,h2,h3]
  simp only [sliceRange_one,pick_run,List.size_toArray] <;> rfl
noncomputable def rSlL (K:PySem.W.Frag):V→Option Int→Option Int→Hp→VK→Prop:=fun x lo hi H Q=>∃ a xs,x = .ref a∧SqL K H a xs∧∀ p,H p=none→Q (.ref p) (upd H p (.lst (cutV xs lo hi)))
theorem sl_list:SlR X (rSlL X.K):=by
  intro pins s σ H x v vl vu lo hi sl Q I rx hs pl pu h
  obtain ⟨a,xs,rfl,hx,q⟩:=h
  cases rx
  obtain ⟨its,r,ht,hz⟩:=I.list hx
  have hlen:=r.length
  refine ⟨"list",_,slot_list_getitem.lookup,ht.isList.typeIs,?_⟩
  refine wpAny_getItem_list_slice ht.isList hs pl pu .none (by simp) ?_ (by rw [List.size_toArray] <;> omega)
  rw [Qcy,← hlen]
  refine ⟨.ref s.heap.objs.size,_,I.laid (t':=s.toks) (o := .lst (cutV xs lo hi)) (fun b ob q=>Heap.get?_push_of_some _ q) (Nat.le_refl _) ?_,rfl,q _ (I.hok.fresh (Nat.le_refl _))⟩
  exact ⟨Nat.le_trans (Qem xs lo hi) hz,_,0,(r.drop (HT.sIx xs.length 0 lo)).take (HT.sIx xs.length xs.length hi - HT.sIx xs.length 0 lo),Heap.get?_push_size _ rfl⟩

theorem Qao:OpR X (compareOp .NotIn) (fun x y H Q=>∃ i j,x = .str i∧y = .str j∧Q (.bl (!(!(Builtin.Str.occurrences j i 0 j.length 1).isEmpty))) H):=by
  intro pins s σ H x y v u Q I rx ry h
  obtain ⟨i,j,rfl,rfl,q⟩:=h
  obtain ⟨t,rfl⟩:=rx
  obtain ⟨t',rfl⟩:=ry
  exact notIn_str ⟨.bl _,H,I,rfl,q⟩

theorem Xj.or {f:Value} {r r':List V→Hp→VK→Prop} (h:Xj X f r) (h':Xj X f r'):Xj X f (fun xs H Q=>r xs H Q∨r' xs H Q):=by
  intro pins s σ H xs us Q I rs q
  rcases q with q | q
  · exact h pins s σ H xs us Q I rs q
  · exact h' pins s σ H xs us Q I rs q
theorem QcJ:Xj X (.type "tuple") (fun xs H Q=>∃ p ys,xs=[.ref p]∧((SqL X.K H p ys∧∀ l,H l=none→Q (.ref l) (upd H l (.tup ys)))∨(SqT X.K H p ys∧Q (.ref p) H))):=by
  intro pins s σ H xs us Q I r h
  obtain ⟨p,ys,rfl,h⟩:=h
  obtain ⟨u,rfl,rx⟩:=Qds r
  cases rx
  rcases h with ⟨hq,q⟩ | ⟨hq,q⟩
  · obtain ⟨its,r',pl,hz⟩:=I.list hq
    have hlen:=r'.length
    refine call_tuple_list pl.isList (fun h' kp => ?_) (by simp only [List.size_toArray] <;> omega)
    have I1:Inv X pins σ H { s with heap:=h' }:=I.kept (t':=s.toks) kp
    have I2:Inv X pins σ (upd H h'.objs.size (.tup ys)) { s with heap:=h'.push { cls := .type "tuple",data := .seq its.toArray } } :=
      I1.laid (t':=s.toks) (fun b o e=>Heap.get?_push_of_some _ e) (Nat.le_refl _) (show Ym X.prog X.w _ _ _ (.tup ys) from ⟨hz,its,r',QaI.new _ _ _⟩)
    exact ⟨.ref h'.objs.size,_,I2,rfl,q _ (I1.hok.fresh (Nat.le_refl _))⟩
  · obtain ⟨its,r',pl,hz⟩:=I.tuple hq
    exact call_tuple_same pl ⟨.ref p,H,I,rfl,q⟩

noncomputable def tyV (K:PySem.W.Frag) (T:String) (x:V) (H:Hp):Prop:=match x with
  | .str _=>T = "str"
  | .int _=>T = "int"
  | .ref p=>(T = "list"∧∃ xs,SqL K H p xs)∨(T = "tuple"∧∃ o,K.lookup p=some o∧o.cls = .type "tuple"∧o.dict=none) ∨
      (T = "dict"∧((∃ kvs,H p=some (.dK kvs))∨∃ kvs,H p=some (.dT kvs)))∨(T = "set"∧∃ S n,H p=some (.set S n))
  | _=>False
theorem tyV_is {pins:List (Addr×Obj)} {σ:St} {H:Hp} {s:Shared} {T:String} {x:V} {v:Value} (I:Inv X pins σ H s) (r:RelV x v) (ty:tyV X.K T x H) :
    s.TypeIs v T∧∀ a,v = .ref a→∃ ob,s.heap.get? a=some ob∧ob.dict=none:=by
  cases x with
  | str z =>
    obtain ⟨t,rfl⟩:=r
    cases (show T = "str" from ty)
    exact ⟨typeIs_str s z t,fun _ e=>nomatch e⟩
  | int i =>
    obtain ⟨t,rfl⟩:=r
    cases (show T = "int" from ty)
    exact ⟨typeIs_int s i t,fun _ e=>nomatch e⟩
  | ref p =>
    cases r
    rcases ty with ⟨rfl,xs,hq⟩ | ⟨rfl,o,hk,hc,hd⟩ | ⟨rfl,hk⟩ | ⟨rfl,S,n,hk⟩
    · obtain ⟨its,_,pl,_⟩:=I.list hq
      refine ⟨pl.isList.typeIs,fun a e => ?_⟩
      cases e
      obtain ⟨o,n,e,c,hd,_⟩:=pl
      exact ⟨o,e,hd⟩
    · refine ⟨⟨o,I.kIn p o hk,hc⟩,fun a e => ?_⟩
      cases e
      exact ⟨o,I.kIn _ o hk,hd⟩
    · have z:∃ o,s.heap.get? p=some o∧o.ExactDict:=by
        rcases hk with ⟨kvs,hk⟩ | ⟨kvs,hk⟩
        · obtain ⟨_,_,_,_,o,_,_,e,ex,_⟩:=I.hok p _ hk
          exact ⟨o,e,ex⟩
        · obtain ⟨_,_,_,_,o,_,_,e,ex,_⟩:=I.hok p _ hk
          exact ⟨o,e,ex⟩
      obtain ⟨o,e,ex⟩:=z
      refine ⟨⟨o,e,ex.1⟩,fun a e2 => ?_⟩
      cases e2
      exact ⟨o,e,ex.2.1⟩
    · obtain ⟨o,_,_,_,e,ex,_⟩:=I.hok p _ hk
      refine ⟨⟨o,e,ex.1⟩,fun a e2 => ?_⟩
      cases e2
      exact ⟨o,e,ex.2.1⟩
  | _=>exact False.elim ty
noncomputable def tBM (K:PySem.W.Frag) (T:String) (r:V→List V→Hp→VK→Prop) (to:TE) (t:TA):TE:=fun σ H Q=>to σ H fun x H1=>tyV K T x H1∧t σ H1 fun xs H2=>r x xs H2 Q
variable {o e:Expr} {es:List Expr} {to:TE} {t:TA} {name:Str} {apos cpos:Pos} {T id:String} {r:V→List V→Hp→VK→Prop}
theorem Qdt (pa:PlainAttrs T) (slot:Slot T name id) (hty:typeOf (.builtin id)=pure (.type "method_descriptor")) (hm:MtR X id r) (ho:PE X o to) (ha:PA X (e :: es) t)
    (hbase:attributeBase o name X.env (eval o X.env)=eval o X.env:=by rfl)
    (hfew:((backTo cpos (starEach (e :: es) X.env)).all (fun x => !x.1)&&(backToKw cpos (keywordEach [] X.env)).all (fun x=>x.1.isSome)
      && decide ((e :: es).length + ([]:List Keyword).length + (if ([]:List Keyword).isEmpty then 0 else 1) < 30))=true:=by rfl)
    (hline:(apos.endLine==cpos.line)=true:=by rfl) (hs:starEach (e :: es) X.env=(false,eval e X.env) :: starEach es X.env:=by rfl) (hplain:(backTo cpos (starEach es X.env)).any (·.1)=false:=by rfl) :
    PE X (.Call (.Attribute o name apos) (e :: es) [] cpos) (tBM X.K T r to t):=by
  intro pins s σ H Q I h
  refine wpAny_Call_method_late hbase hfew hline rfl (thn (ho pins s σ H _ I h) fun v s1 ⟨x,H1,I1,r1,ty,q1⟩ => ?_)
  obtain ⟨h1,h2⟩:=tyV_is I1 r1 ty
  refine ⟨T,id,pa,slot,hty,h1,h2,?_⟩
  have hA:=ha cpos pins s1 σ H1 _ I1 q1
  rw [hs] at hA ⊢
  refine Calls.callWith_builtin (by show (false||(backTo cpos (starEach es X.env)).any (·.1))=false;rw [hplain] <;> rfl) (Calls.evalArgs_plain ?_)
  exact thn hA fun us s2 ⟨vs,H2,I2,r2,q2⟩=>hm pins s2 σ H2 x vs v us Q I2 r1 r2 q2
/- xs.append(e),list.index on a module's tuple .. are MtR facts of 06m -/
end
end L2

namespace L2
open PySem PySem.Spec PyProof.Rows

noncomputable def MtM (X:Cx) (id:String) (r:V→List V→Hp→VK→Prop):Prop :=
  ∀ (pins:List (Addr×Obj)) (s:Shared) (σ:St) (H:Hp) (x:V) (xs:List V) (v:Value) (us:List Value) (Q:VK),Inv X pins σ H s→RelV x v→Vals xs us→r x xs H Q →
    wpAny (model X.prog X.w) X.A (call (.builtin id) (v :: us)) (EP X pins σ Q) X.xe s

theorem Vals.one:∀ {x:V} {us:List Value},Vals [x] us→∃ u,us=[u]∧RelV x u
  | _,_,.cons r .nil=>⟨_,rfl,r⟩
theorem Vals.zero:∀ {us:List Value},Vals [] us→us=[]
  | _,.nil=>rfl
theorem Vals.eraseIdx:∀ {xs:List V} {us:List Value} (i:Nat),Vals xs us→Vals (xs.eraseIdx i) (us.eraseIdx i)
  | _,_,_,.nil => .nil
  | _,_,0,.cons _ t=>t
  | _,_,i + 1,.cons r t => .cons r (Vals.eraseIdx i t)
theorem Vals.reverse {xs:List V} {us:List Value} (h:Vals xs us):Vals xs.reverse us.reverse:=by
  induction h with
  | nil=>exact .nil
  | cons r t ih=>rw [List.reverse_cons,List.reverse_cons];exact Vals.append ih (.cons r .nil)
theorem Vals.rep {xs:List V} {us:List Value} (h:Vals xs us):∀ k:Nat,Vals (List.replicate k xs).flatten (List.replicate k us).flatten
  | 0 => .nil
  | k + 1=>by
    rw [List.replicate_succ,List.replicate_succ,List.flatten_cons,List.flatten_cons]
    exact Vals.append h (Vals.rep h k)
theorem Qdf {α:Type}:∀ (l:List α) (i:Nat),(l.eraseIdx i).length≤l.length
  | [],_=>Nat.le_refl _
  | _ :: _,0=>Nat.le_succ _
  | _ :: r,i + 1=>Nat.succ_le_succ (Qdf r i)
section
variable {X:Cx} {pins:List (Addr×Obj)} {σ:St} {H:Hp} {s:Shared} {l b:Addr} {xs ys zs:List V}

theorem Inv.lset {its its':List Value} {n:Nat} {f:Array Value→Array Value} {t':Nat} (I:Inv X pins σ H s) (hH:H l=some (.lst xs))
    (e:s.heap.get? l=some { cls := .type "list",data := .seq its.toArray n }) (hf:f its.toArray=its'.toArray) (hv:Vals ys its') (hz:ys.length≤sizeLine) :
    Inv X pins σ (upd H l (.lst ys)) { s with heap:=s.heap.update l (Obj.mapSeq f),toks:=t' }:=by
  have q:=PySem.IsL.update e f
  rw [hf] at q
  refine I.write (x:=l) (e:=l) (by rw [hH];exact trivial) (.inl rfl) (fun b' u hb hu=>(Heap.get?_update_other s.heap (Obj.mapSeq f) (Ne.symm hb)).trans hu) ⟨_,q⟩ ?_
  exact ⟨hz,its',_,hv,q⟩
theorem Inv.lnew {its:List Value} {t':Nat} (I:Inv X pins σ H s) (hv:Vals ys its) (hz:ys.length≤sizeLine) :
    Inv X pins σ (upd H s.heap.objs.size (.lst ys)) { s with heap:=s.heap.push { cls := .type "list",data := .seq its.toArray },toks:=t' } :=
  I.laid (fun _ _ q=>Heap.get?_push_of_some _ q) (Nat.le_refl _) ⟨hz,its,0,hv,Heap.get?_push_size _ rfl⟩
theorem Inv.fresh (I:Inv X pins σ H s):H s.heap.objs.size=none:=I.hok.fresh (Nat.le_refl _)
theorem Inv.lstM (I:Inv X pins σ H s) (hH:H l=some (.lst xs)):xs.length≤sizeLine∧∃ (its:List Value) (n:Nat),Vals xs its∧xs.length=its.length∧s.heap.get? l=some { cls := .type "list",data := .seq its.toArray n }:=by
  obtain ⟨z,its,n,r,e⟩:=I.hok l _ hH
  exact ⟨z,its,n,r,r.length,e⟩

end

section
variable {X:Cx}

noncomputable def Qgg:V→List V→Hp→VK→Prop:=fun x vs H Q=>∃ l xs y,x = .ref l∧vs=[y]∧H l=some (.lst xs)∧xs.length < sizeLine∧Q .non (upd H l (.lst (xs++[y])))
theorem XH:MtM X "list.append" Qgg:=by
  intro pins s σ H x vs v us Q I rx rv h
  obtain ⟨l,xs,y,rfl,rfl,hH,hz,q⟩:=h
  cases rx
  obtain ⟨u,rfl,ru⟩:=rv.one
  obtain ⟨z,its,n,r,hl,e⟩:=I.lstM hH
  refine call_meets F.slot_list_append ⟨_,e,rfl⟩ F.entry_list_append (F.args_list_append_2 _ _) (PySem.list_append l its.toArray n u (by rw [List.size_toArray];omega)) ⟨e,?_⟩
  refine ⟨.non,_,I.lset (its':=its++[u]) hH e (by simp) (r.append (.cons ru .nil)) ?_,rfl,q⟩
  rw [List.length_append,List.length_singleton]
  omega

noncomputable def rPopAt:V→List V→Hp→VK→Prop:=fun x vs H Q=>∃ l xs i k y,x = .ref l∧vs=[.int i]∧H l=some (.lst xs) ∧ -(2 ^ 63)≤i∧i < 2 ^ 63∧seqIndex? i xs.length=some k∧xs[k]?=some y∧Q y (upd H l (.lst (xs.eraseIdx k)))
theorem mt_popAt:MtM X "list.pop" rPopAt:=by
  intro pins s σ H x vs v us Q I rx rv h
  obtain ⟨l,xs,i,k,y,rfl,rfl,hH,h1,h2,hk,hy,q⟩:=h
  cases rx
  obtain ⟨u,rfl,ru⟩:=rv.one
  obtain ⟨t,rfl⟩:=ru
  obtain ⟨z,its,n,r,hl,e⟩:=I.lstM hH
  obtain ⟨w,hw,rw'⟩:=r.get hy
  refine call_meets F.slot_list_pop ⟨_,e,rfl⟩ F.entry_list_pop (F.args_list_pop_2 _ _)
    (MeetsSeq.list_pop_at l its.toArray n i t k w (fitsIndex_both h1 h2) (by rw [List.size_toArray,← hl];exact hk) (by rw [← Array.getElem?_toList];exact hw) (by rw [List.size_toArray];omega)) ⟨e,?_⟩
  refine ⟨y,_,I.lset (its':=its.eraseIdx k) hH e ?_ (r.eraseIdx k) ?_,rw',q⟩
  · show its.toArray.eraseIdxIfInBounds k=(its.eraseIdx k).toArray
    rw [List.eraseIdxIfInBounds_toArray]
  · have:=Qdf xs k
    omega

theorem len_rep {α:Type} (xs:List α) (k:Nat):(List.replicate k xs).flatten.length=k * xs.length:=by
  induction k with
  | zero=>simp
  | succ k ih=>rw [List.replicate_succ,List.flatten_cons,List.length_append,ih,Nat.succ_mul,Nat.add_comm]
end

section
variable {prog:Program} {w:World} {A:Around} {E:Value→Shared→Prop} {s:Shared}
end

section
variable {X:Cx}
end
end L2

namespace Att
open PySem PySem.W PySem.Calls PyProof.Rows

theorem Qbu {P:Params} {h:Heap}:∀ (ns:List Int) (vs:List Value),WellAll P h vs (ns.map WData.int)→IntsAre vs ns:=by
  intro ns
  induction ns with
  | nil =>
    intro vs w
    rw [List.map_nil] at w
    cases w
    exact .nil
  | cons n ns ih =>
    intro vs w
    rw [List.map_cons] at w
    cases w with
    | cons a b =>
      cases a
      exact .cons _ _ (ih _ b)

theorem QgL {l:OpenLaw} {n:Nat} (hn:l.most=some n) {P:Params} {h:Heap} {args:List WData} {vals:List Value}
    (hpre:l.row.toRowW.claim.pre args=true) (hwl:WellAll P h vals args) :
    ∃ a vs ns,vals=[Value.ref a]∧args=[WData.list (ns.map WData.int)]∧h.get? a=some { cls := .type "list",data := .seq vs.toArray }∧IntsAre vs ns∧ns.length≤n:=by
  have hsh:WShape.hasAll [] args [.list .int]=true:=(pre_splitW hpre).1
  have hc:l.pre.holds [] { args:=args }=true:=(pre_splitW hpre).2
  obtain ⟨d,r,rfl,h1,h2⟩:=hasAllW_cons hsh
  obtain rfl:=hasAllW_nil h2
  obtain ⟨xs,rfl,h3⟩:=hasW_list h1
  obtain ⟨ns,rfl⟩:=items_int h3
  have hlen:ns.length≤n:=by
    unfold OpenLaw.pre at hc
    have h4:(WTm.not (.lt (.lit (.int (n:Int))) (.len (.arg 0)))).holds [] { args:=[.list (ns.map .int)] }=true:=by
      have h4:=(holds_andW hc).1
      rw [hn] at h4
      exact h4
    have h5:=condW_of h4 (w_not (w_lt w_lit (w_len_list (w_arg rfl))))
    rw [List.length_map] at h5
    refine Nat.le_of_not_lt fun q => ?_
    have q':(n:Int) < ((ns.length:Nat):Int):=by omega
    first
      | (rw [decide_eq_true q'] at h5;exact absurd h5 (by decide))
      | (simp at h5;omega)
  cases hwl with
  | cons w1 w2 =>
    cases w2
    cases w1 with
    | list ho hall=>exact ⟨_,_,ns,rfl,rfl,ho,Qbu ns _ hall,hlen⟩

theorem QgP (l:OpenLaw) (args:List WData):l.row.toRowW.claim.post args (.bool true) args=true :=
  postW_of (r:=l.row.toRowW) (X:=(true==true))
    (show WShape.has [] (.bool true) .bool=true by first | rfl | decide | simp [WShape.has,WShape.arms,WShape.armsAll])
    (show (WTm.eq .res (.lit (.bool true))).value [] { args:=args,res:=some (.bool true),after:=args }=some (.bool (true==true)) from w_eq_bool (w_res rfl) w_lit) rfl

theorem attach_call {l:OpenLaw} {n:Nat} {q:Program} {loose:List Str} {XP:(Str→Option Value)→Heap→Prop} {YP:World→Heap→Prop} {d:DefRec}
    (hn:l.most=some n) (hdf:d.params.defaults=[])
    (call:∀ (w:World) (s₀ s₁:Shared) (mg mb:Str→Option Value) (fa:Addr) (o:Obj) (pm cd doc:Value) (a:Addr) (vs:List Value) (ns:List Int),
      Ground q loose [] XP w s₀ mg mb s₁.heap→YP w s₁.heap →
      s₁.heap.get? fa=some o→o.data = .func (docDef d.name d.params d.body d.scope pm cd doc)→s₁.heap.CodeRec cd d.name→mg d.name=some (.ref fa) →
      s₁.heap.get? a=some { cls := .type "list",data := .seq vs.toArray }→IntsAre vs ns→ns.length≤n→s₁.gens = #[] →
      codeAny (model l.prog w) callerA (.call (.ref fa) ⟨[.ref a],[]⟩) (fun r s'=>r = .ok (.ret (.bool true))∧OldK s₁.heap s'.heap∧s'.os=s₁.os∧AllBare s'.gens) s₁) :
    WalkO q loose XP YP l.row.toRowW d [] (fun f vs=>PySem.call f vs):=by
  intro w s₀ s₁ mg mb G Y fa o pm cd doc dV kV ho hd hcd hD hmg hg args vals as hpre hlay hrd hwl hlo
  obtain rfl:dV = .none:=Dflts.none hD hdf
  obtain rfl:kV = .none:=Dflts.noKw hD
  obtain ⟨a,vs,ns,rfl,rfl,hobj,hints,hlen⟩:=QgL hn hpre hwl
  refine enter_call (codeAny_mono (call w s₀ s₁ mg mb fa o pm cd doc a vs ns G Y ho (fd_plain hd) hcd hmg hobj hints hlen hg) fun r s' hq => ?_)
  obtain ⟨rfl,h2,h3,h4⟩:=hq
  exact ⟨.inl ⟨.bool true,.bool true,[],rfl,fun _=>rfl,.bool true,QgP l _,fun _=>⟨List.Pairwise.nil,fun _ hm=>(nomatch hm)⟩⟩,h2,h3,h4⟩

section
variable {prog:Program} {w:World} {A:Around} {E:Value→Shared→Prop} {s:Shared} {K:Frag}

end
end Att

namespace L2
open PySem PySem.Spec PyProof.Rows

theorem QcS:∀ {vs:List Value} {ns:List Int},IntsAre vs ns→Vals (ns.map V.int) vs
  | _,_,.nil => .nil
  | _,_,.cons n t h => .cons ⟨t,rfl⟩ (QcS h)

noncomputable def Only (H:Hp):Prop:=∀ b,H b=none∨∃ o xs,H b=some (.frz o (.lst xs))

theorem law_call {P:Program} {w:World} {K:PySem.W.Frag} {mg mb:Str→Option Value} {CX:CXT} {k:Nat} {fa a:Addr} {fd:FuncData} {x:Str} {sp:Sp} {s₁:Shared} {vs:List Value} {ns:List Int}
    (KX:K.In s₁.heap) (hns:s₁.heap.Ns mainGlobals mg) (hb:s₁.heap.Ns builtinsNs mb) (hbb:∀ x:Str,x ≠ "__name__"→mb x=bootBuiltins x) (hlim:s₁.heap.NoLimit) (hg:s₁.gens = #[])
    (ha:s₁.heap.get? a=some { cls := .type "list",data := .seq vs.toArray }) (hi:IntsAre vs ns) (hl:ns.length≤sizeLine) (hr:Room k callerA)
    (F:∀ base:Heap,K.In base→base.Ns mainGlobals mg→FnOk P w K mg base CX k fa fd [x] sp) (hbind:∀ (s:Shared) (u:Value),BindsTo s fd ⟨[u],[]⟩ [(x,u)])
    (hsp:∀ H:Hp,Only H→SqL K H a (ns.map V.int)→sp [.ref a] H (fun v _=>v = .bl true) fun _ _ _=>False)
    (hCX:∀ H e s',CX [] H s₁ (fun _ _ _=>False) e s'→False) :
    codeAny (model P w) callerA (.call (.ref fa) ⟨[.ref a],[]⟩) (fun r s'=>r = .ok (.ret (.bool true))∧OldK s₁.heap s'.heap∧s'.os=s₁.os∧AllBare s'.gens) s₁:=by
  have rv:=QcS hi
  have lenV:=hi.length
  -- from an abstract heap in which nothing but the script may be tracked
  have core:∀ H:Hp,Only H→SqL K H a (ns.map V.int)→HOk P w H s₁.heap→(∀ b,H b≠none→b=a)→(H a≠none→K.lookup a=none) →
      codeAny (model P w) callerA (.call (.ref fa) ⟨[.ref a],[]⟩) (fun r s'=>r = .ok (.ret (.bool true))∧OldK s₁.heap s'.heap∧s'.os=s₁.os∧AllBare s'.gens) s₁:=by
    intro H hO hS hok hA hK
    have base_of:∀ {b:Addr} {o:Obj},s₁.heap.get? b=some o→H b=none→(hidT s₁.heap H).get? b=some o:=fun e n=>hidT_get e n
    have noA:∀ {b:Addr} {o:Obj} {es:Array DictEntry} {ep:Nat},s₁.heap.get? b=some o→o.data = .dict es ep→H b=none:=fun {b o es ep} e d=>by
      cases q:H b with
      | none=>rfl
      | some u =>
        have e':b=a:=hA b (by rw [q];simp)
        subst e'
        rw [ha] at e;cases e
        have d':Data.seq vs.toArray _=Data.dict es ep:=d
        cases d'
    have nsK:∀ {b:Addr} {m:Str→Option Value},s₁.heap.Ns b m→(hidT s₁.heap H).Ns b m:=fun {b m} ⟨o,es,ep,e,d,r⟩=>⟨o,es,ep,base_of e (noA e d),d,r⟩
    have hKb:K.In (hidT s₁.heap H):=fun b o e=>base_of (KX b o e) (by
      cases q:H b with
      | none=>rfl
      | some u =>
        have e':b=a:=hA b (by rw [q];simp)
        subst e'
        rw [hK (by rw [q];simp)] at e;cases e)
    have hM:Mod K mg (hidT s₁.heap H):=⟨hKb,nsK hns,⟨mb,nsK hb,hbb⟩,let ⟨mc,h1,h2⟩:=hlim;⟨mc,nsK h1,h2⟩⟩
    have e0:Env0 P w K mg (hidT s₁.heap H) callerA [] s₁ H:=⟨rfl,hM,fun b o e=>of_hidT e,Nat.le_of_eq (Qhe _ _),trivial,fun b hb=>absurd (show b∈([]:List Addr) from hb) (by simp),hok,.of_eq hg⟩
    refine codeAny_mono ((F _ hKb (nsK hns)).run callerA [] s₁ H ⟨[.ref a],[]⟩ [.ref a] [.ref a] _ _ hr e0 (hbind s₁ (.ref a)) (.cons rfl .nil) (hsp H hO hS)) fun r s' h => ?_
    cases r with
    | error e=>exact (hCX H e s' h).elim
    | ok fl =>
      cases fl with
      | next=>exact False.elim h
      | brk=>exact False.elim h
      | cont=>exact False.elim h
      | ret u =>
        obtain ⟨v,H',os,bare,un,hok',r',q⟩:=h
        have q':v = .bl true:=q
        subst q'
        obtain rfl:u=Value.bool true:=r'
        refine ⟨rfl,OldK.of_keep fun b o e => ?_,os,bare⟩
        cases q:H b with
        | none=>exact un.keep b o e q (by intro z;exact absurd (show b∈([]:List Addr) from z) (by simp)) (by simp)
        | some u =>
          rcases hO b with z | ⟨ob,xs,z⟩
          · rw [q] at z;cases z
          · have z2:=un.frzs b ob _ z
            obtain ⟨e1,_⟩:=hok b _ z
            obtain ⟨e2,_⟩:=hok' b _ z2
            rw [e] at e1;cases e1
            exact e2
  cases hk:K.lookup a with
  | some o =>
    -- the script is one of the module's own objects
    have e:=KX a o hk
    rw [ha] at e
    cases e
    refine core (fun _=>none) (fun _ => .inl rfl) (.inr ⟨_,vs.toArray,_,hk,rfl,rfl,rfl,by rw [List.size_toArray,lenV];exact hl,by simpa using rv⟩) (fun b u z=>by have z':(none:Option HO)=some u:=z;cases z') (fun b z=>absurd rfl z) fun z=>absurd rfl z
  | none =>
    refine core (fun b=>if b=a then some (.frz { cls := .type "list",data := .seq vs.toArray } (.lst (ns.map V.int))) else none) (fun b => ?_) (.inl (.inr ⟨{ cls := .type "list",data := .seq vs.toArray },if_pos rfl⟩)) (fun b u z => ?_) (fun b z => ?_) fun _=>hk
    · by_cases hb:b=a
      · exact .inr ⟨_,_,if_pos hb⟩
      · exact .inl (if_neg hb)
    · by_cases hb:b=a
      · have z':=(if_pos hb).symm.trans z
        cases z'
        subst hb
        exact ⟨ha,by rw [List.length_map];exact hl,vs,_,rv,ha⟩
      · have z':=(if_neg hb).symm.trans z
        cases z'
    · by_cases hb:b=a
      · exact hb
      · exact absurd (if_neg hb) z
end L2

namespace L2
open PySem PySem.Spec PyProof.Rows

noncomputable abbrev KOf {K:PySem.W.Frag} {h:Heap} (_:K.In h):PySem.W.Frag:=K

theorem walk_of {l:PySem.W.OpenLaw} {n k:Nat} {q:Program} {loose:List Str} {XP:(Str→Option Value)→Heap→Prop} {YP:World→Heap→Prop} {d:DefRec} {K:Params→PySem.W.Frag} {CX:World→CXT} {sp:World→Sp} {x:Str}
    (hn:l.most=some n) (hn2:n≤sizeLine) (hdf:d.params.defaults=[]) (hr:Room k callerA)
    (hY:∀ (w:World) (h:Heap),YP w h→(K w.params).In h)
    (F:∀ (w:World) (mg:Str→Option Value) (fa:Addr) (h:Heap),(K w.params).In h→h.Ns mainGlobals mg→mg d.name=some (.ref fa) →
      ∃ fd:FuncData,(∀ (s:Shared) (u:Value),BindsTo s fd ⟨[u],[]⟩ [(x,u)]) ∧
        ∀ base:Heap,(K w.params).In base→base.Ns mainGlobals mg→FnOk l.prog w (K w.params) mg base (CX w) k fa fd [x] (sp w))
    (hsp:∀ (w:World) (H:Hp) (a:Addr) (ns:List Int),ns.length≤n→Only H→SqL (K w.params) H a (ns.map V.int)→sp w [.ref a] H (fun v _=>v = .bl true) fun _ _ _=>False)
    (hCX:∀ (w:World) (H:Hp) (s:Shared) (e:Value) (s':Shared),CX w [] H s (fun _ _ _=>False) e s'→False) :
    PySem.W.WalkO q loose XP YP l.row.toRowW d [] (fun f vs=>PySem.call f vs):=by
  refine Att.attach_call hn hdf fun w s₀ s₁ mg mb fa o pm cd doc a vs ns G Y ho hd hcd hmg hobj hints hlen hg => ?_
  have KX:=hY w _ Y
  obtain ⟨fd,hb,hF⟩:=F w mg fa _ KX G.T.g hmg
  exact law_call KX G.T.g G.T.b G.T.builtins G.T.nolimit hg hobj hints (Nat.le_trans hlen hn2) hr hF hb (fun H hO hS=>hsp w H a ns hlen hO hS) fun H e s'=>hCX w H s₁ e s'
end L2

/- THE LAST THEOREM (shape;LID,My.* are yours):
   My.Adr: a structure of the addresses that your layer names (classes,functions);My.Txt K t: a structure (Prop) of the equations over K;
   My.txt_mk:{K} {implicit addresses ..} (e1:nsIn K mainGlobals "law"=some (some (.ref f))) (e2:K.lookup f=some ⟨oc,od,.func (fnOf "law" "law" params body scope dV kV doc pm an cdv ct),sl⟩) (e3:codeIn K cdv "law"=true) ..:∃ t,My.Txt K t

set_option maxRecDepth 100000 in
set_option maxHeartbeats 0 in
theorem PySem.Challenge.cw_LID_holds : PySem.Challenge.rw_LID.Holds := by
  w_on;o_law;k_head;(case hw=>w_witness2)
  k_fill
  refine L2.walk_of (l:=PySem.Challenge.rw_LID) (n:=63) (k:=40) (x := "script") (CX:=fun w => ..) (sp:=fun _=>My.sp_law) rfl (by decide) rfl ⟨rfl,by decide,by decide⟩ (fun w h Y=>PySem.W.kIn_of Y) ?F ?S ?C
  case F =>
    intro w mg fa h KX G hmg
    have T:∃ t,My.Txt (L2.KOf KX) t:=by
      dsimp only [L2.KOf]                          -- K must stand as «<heap const> w.params» for k_is
      refine' My.txt_mk ?e1 ?e2 ?e3 ..
      (case e1=>PySem.W.k_is)                    -- in the order: a name -> its address -> its object -> its parts
      (case e2=>PySem.W.k_is)
      ..
    obtain ⟨t,T⟩:=T
    have e0:=hmg.symm.trans (PySem.W.mg_of KX G T.law)
    cases e0                                       -- fa is the law's own address
    exact ⟨_,fun s u => .of_eq rfl,fun base kb nb=>My.law_fn T kb nb⟩     -- if «.of_eq rfl» comes too early: refine' ⟨_,?b,fun base kb nb=>My.law_fn T kb nb⟩;exact fun s u => .of_eq rfl
  case S=>exact fun w H a ns hl hO hS => ..
  case C=>exact ..
(the tactic k_is has no namespace: write k_is) -/

namespace L2
open PySem PySem.Spec PyProof.Rows

noncomputable def Qgs (s:Stmt) (j:Nat):Stmt:=match s with
  | .ClassDef _ _ _ body _ _ _ _ _ _ _=>body.getD j (.Pass ⟨0,0,0,0⟩)
  | _ => .Pass ⟨0,0,0,0⟩
noncomputable def Qq (s:Stmt):Arguments:=match s with
  | .FunctionDef _ a _ _ _ _ _ _ _ _=>a
  | _=>{ posonlyargs:=[],args:=[],vararg:=none,kwonlyargs:=[],kw_defaults:=[],kwarg:=none,defaults:=[] }
noncomputable def Qm (s:Stmt):List Stmt:=match s with
  | .FunctionDef _ _ b _ _ _ _ _ _ _=>b
  | _=>[]
noncomputable def Qf (s:Stmt):Scope:=match s with
  | .FunctionDef _ _ _ _ _ _ sc _ _ _=>sc
  | _=>{ kind := .function,names:=[],isGenerator:=false,isCoroutine:=false }

noncomputable abbrev CX0:CXT:=fun _ _ _ _ _ _=>False
noncomputable abbrev E0:XK:=fun _ _ _=>False
theorem pass0 {X:Cx}:QfX CX0 X E0:=fun _ _ _ _ _ _ _ h=>h.elim

structure Fun (K:PySem.W.Frag) (x qual:Str) (st:Stmt) (f:Addr) (fd:FuncData):Prop where
  ex:∃ (oc:Value) (od:Option Addr) (kV doc pm:Value) (an:Option Addr) (cdv ct:Value) (osl:Array (Option Value)),
    fd=PySem.W.fnOf x qual (Qq st) (Qm st) (Qf st) .none kV doc pm an cdv ct∧K.lookup f=some ⟨oc,od,.func fd,osl⟩∧PySem.W.codeIn K cdv qual=true
  kp:PySem.W.keepIn K (.ref f)=true
section
variable {P:Program} {w:World} {K:PySem.W.Frag} {mg:Str→Option Value} {base:Heap}
theorem Fun.ok {x qual:Str} {st:Stmt} {f:Addr} {fd:FuncData} {N ps:List Str} {k:Nat} {sp:Sp} (F:Fun K x qual st f fd) (S:FnScope N ps (Qf st)) (len:∀ vs H Q E,sp vs H Q E→vs.length=ps.length)
    (hbody:∀ (cdv:Value) (A:Around) (outer:List Env) (s:Shared) (H:Hp) (vs:List V) (Q:VK) (E:XK),Room k (A.deeper (envOfC qual (Qf st) s.heap.objs.size f cdv))→sp vs H Q E →
      ∃ t,PSs (cxOf CX0 P w K mg base N qual (Qf st) f cdv A outer s H E).nox (Qm st) t∧t { nx:=fun _ H'=>Q .non H',rt:=Q } (Yq N vs) H):FnOk P w K mg base CX0 (k + 1) f fd ps sp:=by
  obtain ⟨oc,od,kV,doc,pm,an,cdv,ct,osl,rfl,lk,hcd⟩:=F.ex
  refine fn_of lk hcd S len fun A outer s H vs Q E hr hsp => ?_
  obtain ⟨t,h,q⟩:=hbody cdv A outer s H vs Q E hr hsp
  exact ⟨t,h.nox,q⟩
theorem Fun.binds {x qual:Str} {st:Stmt} {f:Addr} {fd:FuncData} {ps:List Str} (F:Fun K x qual st f fd)
    (h:∀ (kV doc pm:Value) (an:Option Addr) (cdv ct:Value) (us:List Value),us.length=ps.length→bindArgs (PySem.W.fnOf x qual (Qq st) (Qm st) (Qf st) .none kV doc pm an cdv ct) ⟨us,[]⟩=pure (ps.zip us)):Yz K fd ps []:=by
  obtain ⟨oc,od,kV,doc,pm,an,cdv,ct,osl,rfl,lk,hcd⟩:=F.ex
  exact .all (h kV doc pm an cdv ct)
theorem Zv {x qual:Str} {st:Stmt} {f:Addr} {oc:Value} {od an:Option Addr} {osl:Array (Option Value)} {kV doc pm cdv ct:Value} (l:K.lookup f=some ⟨oc,od,.func (PySem.W.fnOf x qual (Qq st) (Qm st) (Qf st) .none kV doc pm an cdv ct),osl⟩)
    (c:PySem.W.codeIn K cdv qual=true) (k:PySem.W.keepIn K (.ref f)=true):Fun K x qual st f (PySem.W.fnOf x qual (Qq st) (Qm st) (Qf st) .none kV doc pm an cdv ct):=⟨⟨oc,od,kV,doc,pm,an,cdv,ct,osl,rfl,l,c⟩,k⟩
end
section
variable {X:Cx}
theorem pv (i:Nat) {x:Str} {pos:Pos} (hN:X.N[i]?=some x:=by rfl) (hv:Vis X.env.scope x:=by first | exact Or.inl rfl | exact Or.inr (Or.inl rfl) | exact Or.inr (Or.inr rfl)) (hd:(x==("__debug__":Str))=false:=by decide)
    (hcd:(x==("__classdict__":Str))=false:=by decide):PE X (.Name x pos) (tVar i):=pe_var hN hv hd hcd
end

noncomputable def Same (H H':Hp):Prop:=∀ b o,H b=some o→H' b=some o
theorem Same.refl (H:Hp):Same H H:=fun _ _ h=>h
theorem Same.trans {H H1 H2:Hp} (a:Same H H1) (b:Same H1 H2):Same H H2:=fun c o h=>b c o (a c o h)
theorem Same.free {H H':Hp} (e:Same H H') {l:Addr} (h:H' l=Option.none):H l=Option.none:=by
  cases q:H l with
  | none=>rfl
  | some o =>
    rw [e l o q] at h
    cases h
theorem Same.seq {K:PySem.W.Frag} {H H':Hp} {a:Addr} {xs:List V} (e:Same H H') (h:SqL K H a xs):SqL K H' a xs:=by
  rcases h with (h | ⟨o,h⟩) | h
  · exact .inl (.inl (e _ _ h))
  · exact .inl (.inr ⟨o,e _ _ h⟩)
  · exact .inr h

end L2

noncomputable section
namespace L2.PM
open PySem PySem.Spec PyProof.Rows

noncomputable def clos (env:Env):List (Str×NameKind)→List (Str×Addr)→List (Str×Addr)
  | [],acc=>acc
  | (n,k) :: r,acc=>if k==NameKind.free then clos env r ((n,(env.cells.lookup n).getD 0) :: acc) else clos env r acc

theorem Qct {env:Env}:∀ (l:List (Str×NameKind)) (acc:List (Str×Addr)),(∀ x∈l,x.2=NameKind.free→∃ c,env.cells.lookup x.1=some c) →
    (forIn l acc fun (x:Str×NameKind) (cs:List (Str×Addr))=>if (x.2==NameKind.free)=true then (do let a ← cellOf env x.1;pure (ForInStep.yield ((x.1,a) :: cs)):Sem _) else pure (ForInStep.yield cs))=(pure (clos env l acc):Sem _)
  | [],acc,_=>rfl
  | (n,k) :: r,acc,h=>by
    have hr:∀ x∈r,x.2=NameKind.free→∃ c,env.cells.lookup x.1=some c:=fun x hx=>h x (List.mem_cons_of_mem _ hx)
    by_cases hk:k=NameKind.free
    · subst hk
      obtain ⟨c,hc⟩:=h (n,NameKind.free) List.mem_cons_self rfl
      have hcell:cellOf env n=pure c:=by unfold cellOf;rw [hc]
      simp only [List.forIn_cons,beq_self_eq_true,if_true,clos,hcell,hc,Option.getD_some]
      rw [show ((pure c:Sem Addr) >>= fun a=>(pure (ForInStep.yield ((n,a) :: acc)):Sem _))=pure (ForInStep.yield ((n,c) :: acc)) from rfl]
      exact Qct r ((n,c) :: acc) hr
    · have hb:(k==NameKind.free)=false:=by simpa using hk
      simp only [List.forIn_cons,hb,Bool.false_eq_true,if_false,clos]
      exact Qct r acc hr
theorem QcI {scope:Scope} {env:Env} (h:∀ x∈scope.names,x.2=NameKind.free→∃ c,env.cells.lookup x.1=some c):closureFor scope env=pure (clos env scope.names []):=by
  have e:=Qct scope.names [] h
  have f:(fun (x:Str×NameKind) (cs:List (Str×Addr))=>(match x with
      | (name,kind)=>if (kind==NameKind.free)=true then (do let a ← cellOf env name;pure (ForInStep.yield ((name,a) :: cs)):Sem _) else pure (ForInStep.yield cs))) =
      (fun (x:Str×NameKind) (cs:List (Str×Addr))=>if (x.2==NameKind.free)=true then (do let a ← cellOf env x.1;pure (ForInStep.yield ((x.1,a) :: cs)):Sem _) else pure (ForInStep.yield cs)):=by
    funext x cs
    cases x
    rfl
  unfold closureFor
  dsimp only
  rw [f,e]
  rfl
theorem QaO {env:Env} {x:Str}:∀ (l:List (Str×NameKind)) (acc:List (Str×Addr)),(x,NameKind.free)∈l∨acc.lookup x=env.cells.lookup x→(∀ y∈l,y.2=NameKind.free→∃ c,env.cells.lookup y.1=some c) →
    (clos env l acc).lookup x=env.cells.lookup x
  | [],acc,h,_=>by
    rcases h with h | h
    · cases h
    · exact h
  | (n,k) :: r,acc,h,hc=>by
    have hr:∀ y∈r,y.2=NameKind.free→∃ c,env.cells.lookup y.1=some c:=fun y hy=>hc y (List.mem_cons_of_mem _ hy)
    by_cases hk:k=NameKind.free
    · subst hk
      obtain ⟨c,hcn⟩:=hc (n,NameKind.free) List.mem_cons_self rfl
      have hcn:env.cells.lookup n=some c:=hcn
      simp only [clos,beq_self_eq_true,if_true]
      refine QaO r _ ?_ hr
      by_cases hx:x=n
      · subst hx
        right
        simp [hcn]
      · have hb:(x==n)=false:=by simpa using hx
        rcases h with h | h
        · rcases List.mem_cons.mp h with h | h
          · injection h with h1 _
            exact absurd h1 hx
          · exact .inl h
        · right
          simp only [List.lookup_cons,hb]
          exact h
    · have hb:(k==NameKind.free)=false:=by simpa using hk
      simp only [clos,hb,Bool.false_eq_true,if_false]
      refine QaO r acc ?_ hr
      rcases h with h | h
      · rcases List.mem_cons.mp h with h | h
        · injection h with _ h2
          exact absurd h2.symm hk
        · exact .inl h
      · exact .inr h
theorem QdT {env:Env} {x:Str} {c:Addr}:∀ (l:List (Str×NameKind)) (acc:List (Str×Addr)),(acc.lookup x=some c→env.cells.lookup x=some c)→(∀ y∈l,y.2=NameKind.free→∃ c,env.cells.lookup y.1=some c) →
    (clos env l acc).lookup x=some c→env.cells.lookup x=some c
  | [],acc,h,_,e=>h e
  | (n,k) :: r,acc,h,hc,e=>by
    have hr:∀ y∈r,y.2=NameKind.free→∃ c,env.cells.lookup y.1=some c:=fun y hy=>hc y (List.mem_cons_of_mem _ hy)
    by_cases hk:k=NameKind.free
    · subst hk
      obtain ⟨d,hcn⟩:=hc (n,NameKind.free) List.mem_cons_self rfl
      have hcn:env.cells.lookup n=some d:=hcn
      simp only [clos,beq_self_eq_true,if_true] at e
      refine QdT r _ (fun q => ?_) hr e
      by_cases hx:x=n
      · subst hx
        simp [hcn] at q
        rw [hcn,q]
      · have hb:(x==n)=false:=by simpa using hx
        simp only [List.lookup_cons,hb] at q
        exact h q
    · have hb:(k==NameKind.free)=false:=by simpa using hk
      simp only [clos,hb,Bool.false_eq_true,if_false] at e
      exact QdT r acc h hr e

noncomputable def blkEnv (env:Env) (sc':Scope) (cl:List (Str×Addr)) (C:Addr):Env :=
  { scope:=sc',locals:=C,globals:=env.globals,cells:=cl,qual:=env.qual,func:=none,code:=env.code,frame:=env.frame,builtins:=env.builtins }
noncomputable def Qan (X:Cx) (pins:List (Addr×Obj)) (N':List Str) (sc':Scope) (cl:List (Str×Addr)) (C:Addr) (s:Shared) (H:Hp) (fp:List Addr):Cx where
  prog:=X.prog
  w:=X.w
  K:=X.K
  mg:=X.mg
  base:=X.base
  A:=X.A
  N:=N'
  s₀:=s
  H₀:=H
  env:=blkEnv X.env sc' cl C
  outer:=X.stack
  stack:=X.stack
  ex:=fp
  fn:=fun _=>false
  calm:=X.calm
  pn:=X.pn++pins
  xe:=fun _ _=>False

noncomputable def ZL (osc scope:Scope):Scope :=
  { scope with names:=scope.names.map fun (n,k)=>if (k == .free&&osc.kind == .function&&osc.names.lookup n==some .cell) then (n,.cell) else (n,k) }
structure CompOk (N:List Str) (osc scope:Scope) (N':List Str) (nt:Nat) (caps:List Nat):Prop where
  kind:scope.kind = .function
  nocell:∀ x∈scope.names,x.2≠NameKind.cell
  locs:∀ x∈scope.names,x.2=NameKind.local→scope.names.lookup x.1=some .local
  free:∀ x∈scope.names,x.2=NameKind.free→osc.names.lookup x.1=some .cell∨osc.names.lookup x.1=some .free
  len:N'.length=nt + caps.length
  cap:∀ p∈caps.zip (N'.drop nt),N[p.1]?=some p.2∧scope.names.lookup p.2=some NameKind.free

noncomputable def YJ (nt:Nat) (caps:List Nat) (σ:St):St:=List.replicate nt none++caps.map fun j=>(σ[j]?).getD none

section
variable {X:Cx} {pins:List (Addr×Obj)} {σ:St} {H:Hp} {s:Shared} {scope:Scope} {N':List Str} {nt:Nat} {caps:List Nat} {fp:List Addr}
theorem Qhj (I:Inv X pins σ H s) (ck:CompOk X.N X.env.scope scope N' nt caps):∀ x∈scope.names,x.2=NameKind.free→∃ c,X.env.cells.lookup x.1=some c:=fun x hx hf =>
  I.ok.has x.1 (ck.free x hx hf)
theorem Qac {osc:Scope} {x:Str} {k:NameKind}:∀ {names:List (Str×NameKind)},names.lookup x=some NameKind.free →
    (names.map fun (p:Str×NameKind)=>if (p.2==NameKind.free&&osc.kind == .function&&osc.names.lookup p.1==some .cell) then (p.1,NameKind.cell) else (p.1,p.2)).lookup x=some k→k = .cell∨k = .free
  | [],h,_=>by cases h
  | (n,q) :: r,h,e=>by
    by_cases hx:x=n
    · subst hx
      simp at h
      subst h
      simp only [List.map_cons] at e
      split at e <;> simp at e <;> simp [e.symm]
    · have hb:(x==n)=false:=by simpa using hx
      simp only [List.lookup_cons,hb] at h
      simp only [List.map_cons] at e
      split at e
      · simp only [List.lookup_cons,hb] at e
        exact Qac h e
      · simp only [List.lookup_cons,hb] at e
        exact Qac h e

end
end L2.PM

noncomputable section
namespace L2.PM
open PySem PySem.Spec PyProof.Rows

noncomputable def PIfs (X:Cx) (ifs:List Expr) (t:TT):Prop :=
  ∀ (pins:List (Addr×Obj)) (s:Shared) (σ:St) (H:Hp) (Q:Bool→Hp→Prop),Inv X pins σ H s→t σ H Q →
    wpAny (model X.prog X.w) X.A (forIn ifs true fun c r=>if r=true then do let ok ← isTrue c X.env (eval c X.env);pure (ForInStep.yield ok) else pure (ForInStep.yield r)) (TP X pins σ Q) X.xe s
noncomputable def tYes:TT:=fun _ H Q=>Q true H
theorem pifs_nil {X:Cx}:PIfs X [] tYes:=fun _ _ _ H _ I h=>wpAny_tests_nil ⟨H,I,h⟩
theorem Qen {prog:Program} {w:World} {A:Around} {R:Result→Shared→Prop} {s:Shared} {elt target iter:Expr} {ifs:List Expr} {scope:Scope} {pos:Pos} {it acc:Value} {env:Env} (I:Nat→Shared→Prop)
    (turn:∀ n s,I n s→wpAny (model prog w) A (pyNext it) (fun r s₁=>match r with
      | none=>R (.ok .next) s₁
      | some v=>wpAny (model prog w) A (letOwnedTupleGo target it v) (fun _ s₁'=>wpAny (model prog w) A (assign target env v) (fun _ s₂ =>
          wpAny (model prog w) A (forIn ifs true fun c r=>if r=true then do let ok ← isTrue c env (eval c env);pure (ForInStep.yield ok) else pure (ForInStep.yield r)) (fun ok s₃ =>
            if ok=true then wpAny (model prog w) A (eval elt env) (fun x s₄ =>
              wpAny (model prog w) A (call (.builtin "list.append") [acc,x]) (fun _ s₅=>∃ m,m < n∧I m s₅) (fun _ _=>False) s₄) (fun _ _=>False) s₃
            else ∃ m,m < n∧I m s₃) (fun _ _=>False) s₂) (fun _ _=>False) s₁') (fun _ _=>False) s₁) (fun _ _=>False) s)
    (n:Nat) (h:I n s) :
    codeAny (model prog w) A (.compLoop (.ListComp elt [⟨target,iter,ifs,0⟩] scope pos) 0 it acc env) R s:=by
  refine codeAny_loop rfl I (fun n s hI => ?_) n h
  show wpAny _ A ((compTurn (.ListComp elt [⟨target,iter,ifs,0⟩] scope pos) 0 it acc env).onRaise (fun x=>do noteFrame x env;theTreesLotGoes x)) _ _ s
  refine wpAny_noted ?_
  rw [compTurn_list]
  refine wpAny_bind (wpAny_standAt (wpAny_bind (wpAny_mono (turn n s hI) (fun r s₁ h₁ => ?_) fun _ _ h'=>h'.elim)))
  cases r with
  | none=>exact wpAny_pure h₁
  | some v =>
    refine wpAny_bind (wpAny_mono h₁ (fun _ s₁' h₁' => ?_) fun _ _ h'=>h'.elim)
    refine wpAny_bind (wpAny_mono h₁' (fun _ s₂ h₂=>wpAny_bind (wpAny_mono h₂ (fun ok s₃ h₃ => ?_) fun _ _ h'=>h'.elim)) fun _ _ h'=>h'.elim)
    cases ok with
    | false=>exact wpAny_pure ⟨rfl,h₃⟩
    | true =>
      exact wpAny_bind (wpAny_bind (wpAny_mono h₃ (fun x s₄ h₄=>wpAny_bind (wpAny_mono h₄ (fun _ s₅ h₅=>wpAny_pure (wpAny_pure ⟨rfl,h₅⟩)) fun _ _ h'=>h'.elim)) fun _ _ h'=>h'.elim))

noncomputable def StExt (σ σ':St):Prop:=σ'.length=σ.length∧∀ (i:Nat) (v:V),σ[i]?=some (some v)→σ'[i]?=some (some v)
noncomputable def Qeb (J:It) (nt:Nat) (caps:List Nat) (g:TG) (tc:TT) (te:TE) (σ:St) (H1:Hp) (Qd:Addr→Hp→Prop):Prop :=
  ∀ D,H1 D=none→∃ W:Nat→Nat→List V→Hp→Prop,(∃ m,W 0 m [] (upd H1 D (.lst []))) ∧
    ∀ i m xs H2,W i m xs H2→(J.stop i H2∧Qd D H2)∨(J.go i H2∧∀ x H3,J.yld i H2 x H3→g x (YJ nt caps σ) H3 fun σ4 H4=>StExt (YJ nt caps σ) σ4 ∧
      tc σ4 H4 fun b H5=>if b=true then te σ4 H5 fun v H6=>H6 D=some (.lst xs)∧xs.length < sizeLine∧∃ m',m' < m∧W (i + 1) m' (xs++[v]) (upd H6 D (.lst (xs++[v]))) else ∃ m',m' < m∧W (i + 1) m' xs H5)

theorem QfT {x:Str}:∀ (names:List (Str×NameKind)) (n:Nat) (acc:List (Str×Addr)),(x,NameKind.cell)∉names→(cellsFrom n names acc).lookup x=acc.lookup x
  | [],_,_,_=>rfl
  | (y,k) :: r,n,acc,h=>by
    have hr:(x,NameKind.cell)∉r:=fun z=>h (List.mem_cons_of_mem _ z)
    unfold cellsFrom
    split
    · rename_i hk
      have hk:k=NameKind.cell:=beq_iff_eq.mp hk
      subst hk
      rw [QfT r _ _ hr,List.lookup_cons]
      have:(x==y)=false:=by
        rw [beq_eq_false_iff_ne]
        rintro rfl
        exact h List.mem_cons_self
      rw [this]
    · exact QfT r _ _ hr
theorem QfV {x:Str} {c:Addr}:∀ (names:List (Str×NameKind)) (h:Heap) (acc:List (Str×Addr)),(cellsFrom h.objs.size names acc).lookup x=some c→acc.lookup x=some c∨(h.objs.size≤c∧(pushCells h names).IsCell c none)
  | [],_,_,e => .inl e
  | (y,k) :: r,h,acc,e=>by
    unfold cellsFrom at e
    unfold pushCells
    split at e
    · rename_i hk
      rw [if_pos hk]
      have e:(cellsFrom (h.push { cls := .type "cell",data := .cell none }).objs.size r ((y,h.objs.size) :: acc)).lookup x=some c:=by rw [Heap.size_push];exact e
      rcases QfV r _ _ e with z | ⟨z1,z2⟩
      · rw [List.lookup_cons] at z
        cases q:x==y with
        | true =>
          rw [q] at z
          cases z
          exact .inr ⟨Nat.le_refl _,_,pushCells_keeps r _ _ _ (Heap.get?_push_size _ rfl),rfl⟩
        | false=>rw [q] at z;exact .inl z
      · rw [Heap.size_push] at z1
        exact .inr ⟨by omega,z2⟩
    · rename_i hk
      rw [if_neg hk]
      exact QfV r h acc e
theorem QfU:∀ (names:List (Str×NameKind)) (n:Nat) (acc:List (Str×Addr)),(∀ x c,acc.lookup x=some c→c < n)→(∀ x y c,acc.lookup x=some c→acc.lookup y=some c→x=y)→∀ x y c,(cellsFrom n names acc).lookup x=some c→(cellsFrom n names acc).lookup y=some c→x=y
  | [],_,_,_,h2,x,y,c,e1,e2=>h2 x y c e1 e2
  | (z,k) :: r,n,acc,h1,h2,x,y,c,e1,e2=>by
    unfold cellsFrom at e1 e2
    split at e1
    · rename_i hk
      rw [if_pos hk] at e2
      refine QfU r (n + 1) ((z,n) :: acc) (fun x c e => ?_) (fun x y c e1 e2 => ?_) x y c e1 e2
      · rw [List.lookup_cons] at e
        cases q:x==z with
        | true=>rw [q] at e;cases e;exact Nat.lt_succ_self _
        | false=>rw [q] at e;exact Nat.lt_succ_of_lt (h1 x c e)
      · rw [List.lookup_cons] at e1 e2
        cases q1:x==z with
        | true =>
          cases q2:y==z with
          | true=>rw [beq_iff_eq.mp q1,beq_iff_eq.mp q2]
          | false =>
            rw [q1] at e1;rw [q2] at e2
            cases e1
            exact absurd (h1 y _ e2) (Nat.lt_irrefl _)
        | false =>
          cases q2:y==z with
          | true =>
            rw [q1] at e1;rw [q2] at e2
            cases e2
            exact absurd (h1 x _ e1) (Nat.lt_irrefl _)
          | false =>
            rw [q1] at e1;rw [q2] at e2
            exact h2 x y c e1 e2
    · rename_i hk
      rw [if_neg hk] at e2
      exact QfU r n acc h1 h2 x y c e1 e2
theorem newEnvC {M:Model} {A:Around} {E:Value→Shared→Prop} {s:Shared} {scope:Scope} {globals:Addr} {closure:List (Str×Addr)} {qual:Str} {func:Option Addr} {code:Value} {outer:Env} {builtins:Addr} {Q:Env→Shared→Prop}
    (hQ:Q (newEnv scope s.heap.objs.size globals (cellsFrom (s.heap.objs.size + 1) scope.names closure) qual func code (some outer) builtins) { s with heap:=pushCells (s.heap.push { cls := .type "dict",data := .dict #[] }) scope.names }) :
    wpAny M A (newFunctionEnv scope globals closure [] qual func code (some outer) builtins) Q E s:=by
  simp only [newFunctionEnv,Option.isSome_some,if_true]
  refine wpAny_bind (wpAny_alloc ?_)
  refine wpAny_bind (wpAny_layCells _ (fun name kind cells=>by cases hkc:kind==NameKind.cell <;> simp [hkc]) _ _ _ _ ?_)
  rw [show ({ s with heap:=s.heap.push { cls := .type "dict",data := .dict #[] } }:Shared).heap.objs.size=s.heap.objs.size + 1 from Heap.size_push ..]
  simp only [List.forIn_nil]
  exact wpAny_bind (wpAny_pure (wpAny_pure hQ))
noncomputable def ownC (scope:Scope):Str→Bool:=fun x=>scope.names.lookup x==some NameKind.cell
noncomputable def QbH (X:Cx) (fn:Str→Bool) (pins:List (Addr×Obj)) (N':List Str) (sc':Scope) (cl:List (Str×Addr)) (C:Addr) (s:Shared) (H:Hp) (fp:List Addr):Cx:={ Qan X pins N' sc' cl C s H fp with fn:=fn }
structure CompOkC (N:List Str) (osc scope:Scope) (N':List Str) (nt:Nat) (caps:List Nat):Prop where
  kind:scope.kind = .function
  nd:∀ x,(x,NameKind.cell)∈scope.names→(x,NameKind.free)∉scope.names
  locs:∀ x∈scope.names,x.2=NameKind.local→scope.names.lookup x.1=some .local
  free:∀ x∈scope.names,x.2=NameKind.free→osc.names.lookup x.1=some .cell∨osc.names.lookup x.1=some .free
  len:N'.length=nt + caps.length
  cap:∀ p∈caps.zip (N'.drop nt),N[p.1]?=some p.2∧scope.names.lookup p.2=some NameKind.free
section
variable {X:Cx} {pins:List (Addr×Obj)} {σ:St} {H:Hp} {s:Shared} {scope:Scope} {N':List Str} {nt:Nat} {caps:List Nat} {fp:List Addr}
theorem Qfp (I:Inv X pins σ H s) (ck:CompOkC X.N X.env.scope scope N' nt caps):∀ x∈scope.names,x.2=NameKind.free→∃ c,X.env.cells.lookup x.1=some c:=fun x hx hf =>
  I.ok.has x.1 (ck.free x hx hf)
theorem Qcu {env:Env} {x:Str} {c:Addr}:∀ (l:List (Str×NameKind)) (acc:List (Str×Addr)),(clos env l acc).lookup x=some c→(x,NameKind.free)∈l∨acc.lookup x=some c
  | [],_,e => .inr e
  | (n,k) :: r,acc,e=>by
    by_cases hk:k=NameKind.free
    · subst hk
      simp only [clos,beq_self_eq_true,if_true] at e
      rcases Qcu r _ e with z | z
      · exact .inl (List.mem_cons_of_mem _ z)
      · rw [List.lookup_cons] at z
        cases q:x==n with
        | true=>exact .inl (by rw [beq_iff_eq.mp q];exact List.mem_cons_self)
        | false=>rw [q] at z;exact .inr z
    · have hb:(k==NameKind.free)=false:=by simpa using hk
      simp only [clos,hb,Bool.false_eq_true,if_false] at e
      rcases Qcu r acc e with z | z
      · exact .inl (List.mem_cons_of_mem _ z)
      · exact .inr z
theorem Qbc {osc:Scope} {x:Str}:∀ (names:List (Str×NameKind)) (k:NameKind),(k=NameKind.cell∨k=NameKind.free) →
    (names.map fun (p:Str×NameKind)=>if (p.2==NameKind.free&&osc.kind == .function&&osc.names.lookup p.1==some .cell) then (p.1,NameKind.cell) else (p.1,p.2)).lookup x=some k→names.lookup x=some NameKind.cell∨names.lookup x=some NameKind.free
  | [],_,_,e=>by cases e
  | (n,q) :: r,k,hk,e=>by
    by_cases hx:x=n
    · subst hx
      simp only [List.map_cons] at e
      split at e
      · rename_i hcnd
        simp only [Bool.and_eq_true,beq_iff_eq] at hcnd
        exact .inr (by simp [hcnd.1.1])
      · simp at e
        subst e
        rcases hk with hk | hk
        · exact .inl (by simp [hk])
        · exact .inr (by simp [hk])
    · have hb:(x==n)=false:=by simpa using hx
      simp only [List.lookup_cons,hb]
      refine Qbc (osc:=osc) r k hk ?_
      simp only [List.map_cons] at e
      split at e <;> (simp only [List.lookup_cons,hb] at e;exact e)
theorem blk_invC (I:Inv X pins σ H s) (hc:X.calm=true) (ck:CompOkC X.N X.env.scope scope N' nt caps) (hf:∀ b∈fp,FpOk X pins H b) (hlt:∀ b∈fp,b < s.heap.objs.size) {tk:Nat} :
    Inv (QbH X (ownC scope) pins N' (ZL X.env.scope scope) (cellsFrom (s.heap.objs.size + 1) scope.names (clos X.env scope.names [])) s.heap.objs.size s H fp) [] (YJ nt caps σ) H { s with heap:=pushCells (s.heap.push { cls := .type "dict",data := .dict #[] }) scope.names,toks:=tk }:=by
  have fc:=Qfp I ck
  have cof:∀ x c,(clos X.env scope.names []).lookup x=some c→X.env.cells.lookup x=some c:=fun x c e=>QdT scope.names [] (fun q=>by cases q) fc e
  have old:∀ b u,s.heap.get? b=some u→(pushCells (s.heap.push { cls := .type "dict",data := .dict #[] }) scope.names).get? b=some u:=fun b u e=>pushCells_keeps _ _ b u (Heap.get?_push_of_some _ e)
  have hn:(pushCells (s.heap.push { cls := .type "dict",data := .dict #[] }) scope.names).Ns s.heap.objs.size (fun _=>none):=(Heap.Ns.new s.heap (.type "dict")).keeps (pushCells_keeps _ _)
  have clt:∀ x c,(clos X.env scope.names []).lookup x=some c→c < s.heap.objs.size:=fun x c e=>by
    obtain ⟨v,hv⟩:=I.cell x c (cof x c e)
    exact hv.lt
  have getC:∀ x c,(cellsFrom (s.heap.objs.size + 1) scope.names (clos X.env scope.names [])).lookup x=some c→(clos X.env scope.names []).lookup x=some c∨(s.heap.objs.size + 1≤c∧(pushCells (s.heap.push { cls := .type "dict",data := .dict #[] }) scope.names).IsCell c none):=fun x c e=>by
    have:=QfV (x:=x) (c:=c) scope.names (s.heap.push { cls := .type "dict",data := .dict #[] }) (clos X.env scope.names [])
    rw [Heap.size_push] at this
    exact this e
  have injC:=QfU scope.names (s.heap.objs.size + 1) (clos X.env scope.names []) (fun x c e=>Nat.lt_succ_of_lt (clt x c e)) (fun x y c h1 h2=>I.ok.inj x y c (cof x c h1) (cof y c h2))
  have fsub:∀ b∈frs X.stack,b∈X.env.locals :: X.fs:=I.stkSub
  refine ⟨⟨I.ok.mod,ck.kind,I.ok.glob,I.ok.blt,Nat.le_refl _,injC,fun x hx => ?_,fun x c hx e => ?_,fun z=>I.ok.hd z,I.ok.frames,.inl rfl,fun b hb => ?_,I.bs,Nat.le_trans I.ok.bsz I.sz,fun b u e hb => ?_,fun b hb z => ?_,I.stack,I.stkFree⟩,
    rfl,I.bare,Un.kept old,⟨_,hn,fun i x v h1 h2 h3 => ?_⟩,fun x c e => ?_,I.hok.fresh (Nat.le_refl _),fun x c e => ?_,fun p hp => ?_,I.hok.kept old,?_⟩
  · -- has
    have hx:(ZL X.env.scope scope).names.lookup x=some .cell∨(ZL X.env.scope scope).names.lookup x=some .free:=hx
    have hm:scope.names.lookup x=some NameKind.cell∨scope.names.lookup x=some NameKind.free:=by
      rcases hx with hx | hx
      · exact Qbc scope.names _ (.inl rfl) hx
      · exact Qbc scope.names _ (.inr rfl) hx
    rcases hm with hm | hm
    · exact Option.isSome_iff_exists.mp (PySem.W.cellsFrom_some scope.names _ _ (.inl hm))
    · have hmem:=PySem.mem_of_lookup hm
      obtain ⟨c,hcx⟩:=fc _ hmem rfl
      exact Option.isSome_iff_exists.mp (PySem.W.cellsFrom_some scope.names _ _ (.inr (by rw [QaO scope.names [] (.inl hmem) fc,hcx];rfl)))
  · -- cab
    have hx:(scope.names.lookup x==some NameKind.cell)=true:=hx
    have hx:=beq_iff_eq.mp hx
    rcases getC x c e with z | z
    · exfalso
      rcases Qcu scope.names [] z with q | q
      · exact ck.nd _ (PySem.mem_of_lookup hx) q
      · cases q
    · exact Nat.le_of_succ_le z.1
  · -- exf
    obtain ⟨_,f1,f2,f3,f4,_⟩:=hf b hb
    refine ⟨Nat.ne_of_lt (hlt b hb),fun x c e => ?_⟩
    rcases getC x c e with z | z
    · exact f4 x c (cof x c z)
    · exact fun q=>by
        have:=hlt b hb
        rw [← q] at this
        exact absurd (Nat.lt_of_lt_of_le (Nat.lt_succ_self _) z.1) (Nat.not_lt.mpr (Nat.le_of_lt this))
  · -- noex
    obtain ⟨_,f1,f2,f3,f4,_⟩:=hf b hb
    rcases f3 with z | z
    · exact I.ok.noex b u e z
    · exact absurd (Nat.lt_of_lt_of_le (Heap.lt_size e) (Nat.le_trans I.ok.bsz z)) (Nat.lt_irrefl _)
  · -- exfs
    obtain ⟨_,f1,f2,_⟩:=hf b hb
    rcases List.mem_cons.mp (fsub b z) with q | q
    · exact f1 q
    · exact f2 q
  · -- loc
    have h2:(YJ nt caps σ)[i]?=some (some v):=h2
    have h1:N'[i]?=some x:=h1
    unfold YJ at h2
    by_cases hi:i < nt
    · rw [List.getElem?_append_left (by simpa using hi),List.getElem?_replicate,if_pos hi] at h2
      cases h2
    · rw [List.getElem?_append_right (by simpa using hi),List.length_replicate,List.getElem?_map] at h2
      cases ej:caps[i - nt]? with
      | none=>rw [ej] at h2;cases h2
      | some j =>
        rw [ej] at h2
        have h2:(σ[j]?).getD none=some v:=Option.some.inj h2
        have h2':σ[j]?=some (some v):=by
          cases eq:σ[j]? with
          | none=>rw [eq] at h2;cases h2
          | some y=>rw [eq] at h2;exact congrArg some h2
        have hz:(j,x)∈caps.zip (N'.drop nt):=by
          refine List.mem_of_getElem? (i:=i - nt) ?_
          rw [List.getElem?_zip_eq_some]
          refine ⟨ej,?_⟩
          rw [List.getElem?_drop,show nt + (i - nt)=i by omega]
          exact h1
        obtain ⟨hN,hfr⟩:=ck.cap _ hz
        have hfr:scope.names.lookup x=some NameKind.free:=hfr
        have hmem:=PySem.mem_of_lookup hfr
        have hk:=ck.free _ hmem rfl
        have hk:X.env.scope.names.lookup x=some .cell∨X.env.scope.names.lookup x=some .free:=hk
        have hnc:(x,NameKind.cell)∉scope.names:=fun q=>ck.nd _ q hmem
        obtain ⟨m0,hn0,hl0⟩:=I.loc
        obtain ⟨u,ru,lk⟩:=hl0 j x v hN h2' (.inr hk)
        refine ⟨u,ru,?_⟩
        rcases lk with ⟨k0,_⟩ | ⟨_,c,ec,zc⟩
        · have k0:X.env.scope.names.lookup x=some .local:=k0
          rcases hk with hk | hk <;> (rw [k0] at hk;cases hk)
        · refine .inr ⟨?_,c,((QfT scope.names _ _ hnc).trans (QaO scope.names [] (.inl hmem) fc)).trans ec,?_⟩
          · have h3:(ZL X.env.scope scope).names.lookup x=some .local∨(ZL X.env.scope scope).names.lookup x=some .cell∨(ZL X.env.scope scope).names.lookup x=some .free:=h3
            rcases h3 with h3 | h3 | h3
            · rcases Qac hfr h3 with z | z <;> cases z
            · exact .inl h3
            · exact .inr h3
          · obtain ⟨ob,ho,hd⟩:=zc
            exact ⟨ob,old c ob ho,hd⟩
  · -- cell
    rcases getC x c e with z | z
    · obtain ⟨v,ob,ho,hd⟩:=I.cell x c (cof x c z)
      exact ⟨v,ob,old c ob ho,hd⟩
    · exact ⟨none,z.2⟩
  · -- freeC
    rcases getC x c e with z | z
    · exact I.freeC x c (cof x c z)
    · exact I.hok.fresh (Nat.le_of_succ_le z.1)
  · -- pin
    have hp':p∈X.pn++pins:=by
      rcases List.mem_append.mp hp with z | z
      · exact z
      · cases z
    obtain ⟨e,n,ne,nf,d⟩:=I.pin p hp'
    refine ⟨old _ _ e,n,Nat.ne_of_lt (Heap.lt_size e),fun z => ?_,d⟩
    rcases List.mem_cons.mp (fsub p.1 z) with q | q
    · exact ne q
    · exact nf q
  · -- len
    show (YJ nt caps σ).length=N'.length
    unfold YJ
    rw [ck.len]
    simp
end
section
variable {X:Cx} {pins:List (Addr×Obj)} {σ:St} {H:Hp} {s:Shared} {scope:Scope} {N':List Str} {nt:Nat} {caps:List Nat} {fp:List Addr} {tg iter elt:Expr} {ifs:List Expr} {pos:Pos}
theorem Qhp {J:It} {it:Addr} {tn:Nat→Heap→Prop} {g:TG} {tc:TT} {te:TE} {Qd:Addr→Hp→Prop} {RR:Value→Addr→Result→Shared→Prop} {E:Value→Shared→Prop}
    (I:Inv X pins σ H s) (hc:X.calm=true) (ck:CompOkC X.N X.env.scope scope N' nt caps) (hrel:relabel scope X.env=ZL X.env.scope scope)
    (T:Turn X.prog X.w X.K tg J fp it tn) (h0:tn 0 s.heap) (hf:∀ b∈fp,FpOk X pins H b)
    (hg:∀ pins cl C s H fp,PG (QbH X (ownC scope) pins N' (ZL X.env.scope scope) cl C s H fp) tg g)
    (ht:∀ pins cl C s H fp,PIfs (QbH X (ownC scope) pins N' (ZL X.env.scope scope) cl C s H fp) ifs tc)
    (he:∀ pins cl C s H fp,PE (QbH X (ownC scope) pins N' (ZL X.env.scope scope) cl C s H fp) elt te)
    (rd:Qeb J nt caps g tc te σ H Qd)
    (hRR:∀ D C s' H',Inv X pins σ H' s'→(∃ m,s'.heap.Ns C m)→FpOk X pins H' C→Qd D H'→RR (.ref D) C (.ok .next) s') :
    wpAny (model X.prog X.w) X.A (newList []) (fun acc s₃=>wpAny (model X.prog X.w) X.A (newFunctionEnv scope X.env.globals (clos X.env scope.names []) [] X.env.qual none .none (some X.env)) (fun cenv s₄ =>
      codeAny (model X.prog X.w) X.A (.compStart (.ListComp elt [⟨tg,iter,ifs,0⟩] scope pos) 0 (.ref it) acc { cenv with scope:=relabel scope X.env }) (RR acc cenv.locals) s₄) E s₃) E s:=by
  have hD:H s.heap.objs.size=none:=I.fresh
  obtain ⟨W,⟨m0,w0⟩,turn⟩:=rd s.heap.objs.size hD
  refine wpAny_newObj_type (newEnvC ?_)
  rw [hrel]
  dsimp only
  have I3:Inv X pins σ (upd H s.heap.objs.size (.lst [])) { s with heap:=s.heap.push { cls := .type "list",data := .seq ([]:List Value).toArray } }:=I.lnew (t':=s.toks) .nil (Nat.zero_le _)
  have hlt:∀ b∈fp,b < s.heap.objs.size:=fun b hb=>by
    obtain ⟨o,e,_⟩:=T.obj 0 _ h0 b hb
    exact Heap.lt_size e
  have hf3:∀ b∈fp,FpOk X pins (upd H s.heap.objs.size (.lst [])) b:=fun b hb=>by
    obtain ⟨f0,f⟩:=hf b hb
    exact ⟨by rw [Qk (Nat.ne_of_lt (hlt b hb))];exact f0,f⟩
  have hlt3:∀ b∈fp,b < (s.heap.push { cls := .type "list",data := .seq ([]:List Value).toArray }).objs.size:=fun b hb=>by
    rw [Heap.size_push]
    exact Nat.lt_succ_of_lt (hlt b hb)
  have IB:=blk_invC (tk:=s.toks) I3 hc ck hf3 hlt3
  have keep1:∀ b o,s.heap.get? b=some o→(pushCells ((s.heap.push { cls := .type "list",data := .seq ([]:List Value).toArray }).push { cls := .type "dict",data := .dict #[] }) scope.names).get? b=some o:=fun b o e=>pushCells_keeps _ _ b o (Heap.get?_push_of_some _ (Heap.get?_push_of_some _ e))
  have st1:tn 0 (pushCells ((s.heap.push { cls := .type "list",data := .seq ([]:List Value).toArray }).push { cls := .type "dict",data := .dict #[] }) scope.names):=T.keep _ _ _ h0 fun b _ o e=>keep1 b o e
  have hg':=hg pins (cellsFrom ((s.heap.push { cls := .type "list",data := .seq ([]:List Value).toArray }).objs.size + 1) scope.names (clos X.env scope.names [])) (s.heap.push { cls := .type "list",data := .seq ([]:List Value).toArray }).objs.size { s with heap:=s.heap.push { cls := .type "list",data := .seq ([]:List Value).toArray } } (upd H s.heap.objs.size (.lst [])) fp
  have ht':=ht pins (cellsFrom ((s.heap.push { cls := .type "list",data := .seq ([]:List Value).toArray }).objs.size + 1) scope.names (clos X.env scope.names [])) (s.heap.push { cls := .type "list",data := .seq ([]:List Value).toArray }).objs.size { s with heap:=s.heap.push { cls := .type "list",data := .seq ([]:List Value).toArray } } (upd H s.heap.objs.size (.lst [])) fp
  have he':=he pins (cellsFrom ((s.heap.push { cls := .type "list",data := .seq ([]:List Value).toArray }).objs.size + 1) scope.names (clos X.env scope.names [])) (s.heap.push { cls := .type "list",data := .seq ([]:List Value).toArray }).objs.size { s with heap:=s.heap.push { cls := .type "list",data := .seq ([]:List Value).toArray } } (upd H s.heap.objs.size (.lst [])) fp
  have hY:∃ Y:Cx,Y=QbH X (ownC scope) pins N' (ZL X.env.scope scope) (cellsFrom ((s.heap.push { cls := .type "list",data := .seq ([]:List Value).toArray }).objs.size + 1) scope.names (clos X.env scope.names [])) (s.heap.push { cls := .type "list",data := .seq ([]:List Value).toArray }).objs.size { s with heap:=s.heap.push { cls := .type "list",data := .seq ([]:List Value).toArray } } (upd H s.heap.objs.size (.lst [])) fp:=⟨_,rfl⟩
  obtain ⟨Y,eY⟩:=hY
  have eP:Y.prog=X.prog:=by rw [eY];rfl
  have eW:Y.w=X.w:=by rw [eY];rfl
  have eK:Y.K=X.K:=by rw [eY];rfl
  have eA:Y.A=X.A:=by rw [eY];rfl
  have eC:Y.calm=true:=by rw [eY];exact hc
  have eE:Y.xe=fun _ _=>False:=by rw [eY];rfl
  have eEnv:Y.env=blkEnv X.env (ZL X.env.scope scope) (cellsFrom ((s.heap.push { cls := .type "list",data := .seq ([]:List Value).toArray }).objs.size + 1) scope.names (clos X.env scope.names [])) (s.heap.push { cls := .type "list",data := .seq ([]:List Value).toArray }).objs.size:=by rw [eY];rfl
  have back:∀ {H':Hp} {s':Shared},Inv Y [] (YJ nt caps σ) H' s'→Inv X pins σ H' s'∧(∃ m,s'.heap.Ns (s.heap.push { cls := .type "list",data := .seq ([]:List Value).toArray }).objs.size m)∧FpOk X pins H' (s.heap.push { cls := .type "list",data := .seq ([]:List Value).toArray }).objs.size:=by
    intro H' s' IY
    subst eY
    refine ⟨I3.call' (ch:=fp) IY.os IY.base IY.hok IY.bare fun b hb => ?_,?_,I3.fpOk (Nat.le_refl _) IY.free⟩
    · obtain ⟨_,f1,_,f3,f4,f5⟩:=hf b hb
      exact ⟨f3,f1,f4,f5⟩
    · obtain ⟨m,hn,_⟩:=IY.loc
      exact ⟨m,hn⟩
  have fpY:∀ {H':Hp},(∀ b∈fp,H' b=none)→∀ b∈fp,FpOk Y [] H' b:=by
    intro H' hn b hb
    subst eY
    obtain ⟨_,f1,f2,f3,f4,f5⟩:=hf b hb
    refine ⟨hn b hb,Nat.ne_of_lt (hlt3 b hb),IB.ok.exfs b hb,.inl hb,(IB.ok.exf b hb).2,fun p hp => ?_⟩
    rcases List.mem_append.mp hp with z | z
    · exact f5 p z
    · cases z
  have IB:Inv Y [] (YJ nt caps σ) (upd H s.heap.objs.size (.lst [])) { s with heap:=(pushCells ((s.heap.push { cls := .type "list",data := .seq ([]:List Value).toArray }).push { cls := .type "dict",data := .dict #[] }) scope.names),toks:=s.toks }:=by rw [eY];exact IB
  rw [← eY] at hg' ht' he'
  have loop:∀ s₃:Shared,s₃={ s with heap:=(pushCells ((s.heap.push { cls := .type "list",data := .seq ([]:List Value).toArray }).push { cls := .type "dict",data := .dict #[] }) scope.names),toks:=s.toks } →
      codeAny (model X.prog X.w) X.A (.compLoop (.ListComp elt [⟨tg,iter,ifs,0⟩] scope pos) 0 (.ref it) (.ref s.heap.objs.size) Y.env) (RR (.ref s.heap.objs.size) (s.heap.push { cls := .type "list",data := .seq ([]:List Value).toArray }).objs.size) s₃:=by
    rintro s₃ rfl
    refine Qen (fun n s'=>∃ i xs H',Inv Y [] (YJ nt caps σ) H' s'∧tn i s'.heap∧(∀ b∈fp,H' b=none)∧W i n xs H') ?_ m0 ⟨0,[],_,IB,st1,fun b hb=>(hf3 b hb).1,w0⟩
    rintro n s4 ⟨i,xs,H4,I4,st4,fr4,w4⟩
    rcases turn i n xs H4 w4 with ⟨stop,q⟩ | ⟨go,step⟩
    · have z:=T.done Y eP eW eK eC i [] s4 _ H4 (fun _ _=>False) I4 (fpY fr4) st4 stop
      rw [eA] at z
      refine thn z fun r s5 ⟨hr,I5⟩ => ?_
      subst hr
      obtain ⟨a1,a2,a3⟩:=back I5
      exact hRR _ _ s5 H4 a1 a2 a3 q
    · have z:=T.item Y eP eW eK eC i [] s4 _ H4 (fun _ _=>False) I4 (fpY fr4) st4 go
      rw [eA] at z
      refine thn z fun r s5 ⟨u,hr,h5⟩ => ?_
      subst hr
      refine thn h5 fun _ s6 ⟨x,H6,I6,r6,y6,st6,fr6⟩ => ?_
      have I6':=I6.pinned (fpY fr6) (T.obj _ _ st6)
      have again:∀ {σ7:St} {H7:Hp} {s7:Shared} {xs':List V},Inv Y ([]++QcM fp s6.heap) σ7 H7 s7→StExt (YJ nt caps σ) σ7→(∃ m',m' < n∧W (i + 1) m' xs' H7) →
          ∃ m,m < n∧∃ i xs H',Inv Y [] (YJ nt caps σ) H' s7∧tn i s7.heap∧(∀ b∈fp,H' b=none)∧W i m xs H':=fun {σ7 H7 s7 xs'} I7 ex ⟨m',hm,w7⟩=>by
        refine ⟨m',hm,i + 1,xs',H7,(I7.unpinned).weak ex.1.symm ex.2,T.keep _ _ _ st6 fun b hb o e=>(I7.pin (b,o) (List.mem_append_right _ (List.mem_append_right _ (Xf hb e)))).1,fun b hb => ?_,w7⟩
        obtain ⟨o,e,d⟩:=T.obj _ _ st6 b hb
        exact (I7.pin (b,o) (List.mem_append_right _ (List.mem_append_right _ (Xf hb e)))).2.1
      have z2:=hg' _ s6 _ H6 x u _ I6' r6 (step x H6 y6)
      rw [eP,eW,eA,eE] at z2
      refine thn z2 fun _ s7 ⟨σ7,H7,I7,ex7,q7⟩ => ?_
      have z3:=ht' _ s7 σ7 H7 _ I7 q7
      rw [eP,eW,eA,eE] at z3
      refine thn z3 fun b s8 ⟨H8,I8,q8⟩ => ?_
      cases b with
      | false =>
        rw [if_neg Bool.false_ne_true] at q8 ⊢
        exact again I8 ex7 q8
      | true =>
        rw [if_pos rfl] at q8 ⊢
        have z4:=he' _ s8 σ7 H8 _ I8 q8
        rw [eP,eW,eA,eE] at z4
        refine thn z4 fun xv s9 ⟨v,H9,I9,r9,hD9,hl9,q9⟩ => ?_
        have z5:=XH (X:=Y) _ s9 σ7 H9 (.ref s.heap.objs.size) [v] (.ref s.heap.objs.size) [xv] (fun _ H'=>∃ m',m' < n∧W (i + 1) m' (xs++[v]) H') I9 rfl (.cons r9 .nil) ⟨_,xs,v,rfl,rfl,hD9,hl9,q9⟩
        rw [eP,eW,eA,eE] at z5
        refine thn z5 fun _ s10 ⟨_,H10,I10,_,q10⟩ => ?_
        exact again I10 ex7 q10
  rw [eEnv] at loop
  refine codeAny_compStart_list (loop _ rfl) (T.self _ 0 _ _ _ st1 (loop _ rfl))

end
theorem CompOk.C {N:List Str} {osc scope:Scope} {N':List Str} {nt:Nat} {caps:List Nat} (ck:CompOk N osc scope N' nt caps):CompOkC N osc scope N' nt caps:=⟨ck.kind,fun x q=>absurd rfl (ck.nocell _ q),ck.locs,ck.free,ck.len,ck.cap⟩
theorem CompOk.eqC {N:List Str} {osc scope:Scope} {N':List Str} {nt:Nat} {caps:List Nat} (ck:CompOk N osc scope N' nt caps) (X:Cx):QbH X (ownC scope)=Qan X:=by
  have own:ownC scope=fun _=>false:=funext fun x=>by
    show (scope.names.lookup x==some NameKind.cell)=false
    rw [beq_eq_false_iff_ne]
    exact fun q=>ck.nocell _ (PySem.mem_of_lookup q) rfl
  rw [own];rfl
section
variable {X:Cx} {pins:List (Addr×Obj)} {σ:St} {H:Hp} {s:Shared} {scope:Scope} {N':List Str} {nt:Nat} {caps:List Nat} {fp:List Addr} {tg iter elt:Expr} {ifs:List Expr} {pos:Pos}
theorem comp_run {J:It} {it:Addr} {tn:Nat→Heap→Prop} {g:TG} {tc:TT} {te:TE} {Qd:Addr→Hp→Prop} {RR:Value→Addr→Result→Shared→Prop} {E:Value→Shared→Prop}
    (I:Inv X pins σ H s) (hc:X.calm=true) (ck:CompOk X.N X.env.scope scope N' nt caps) (hrel:relabel scope X.env=ZL X.env.scope scope)
    (T:Turn X.prog X.w X.K tg J fp it tn) (h0:tn 0 s.heap) (hf:∀ b∈fp,FpOk X pins H b)
    (hg:∀ pins cl C s H fp,PG (Qan X pins N' (ZL X.env.scope scope) cl C s H fp) tg g)
    (ht:∀ pins cl C s H fp,PIfs (Qan X pins N' (ZL X.env.scope scope) cl C s H fp) ifs tc)
    (he:∀ pins cl C s H fp,PE (Qan X pins N' (ZL X.env.scope scope) cl C s H fp) elt te)
    (rd:Qeb J nt caps g tc te σ H Qd)
    (hRR:∀ D C s' H',Inv X pins σ H' s'→(∃ m,s'.heap.Ns C m)→FpOk X pins H' C→Qd D H'→RR (.ref D) C (.ok .next) s') :
    wpAny (model X.prog X.w) X.A (newList []) (fun acc s₃=>wpAny (model X.prog X.w) X.A (newFunctionEnv scope X.env.globals (clos X.env scope.names []) [] X.env.qual none .none (some X.env)) (fun cenv s₄ =>
      codeAny (model X.prog X.w) X.A (.compStart (.ListComp elt [⟨tg,iter,ifs,0⟩] scope pos) 0 (.ref it) acc { cenv with scope:=relabel scope X.env }) (RR acc cenv.locals) s₄) E s₃) E s:=by
  have e:=ck.eqC X
  exact Qhp I hc ck.C hrel T h0 hf (by rw [e];exact hg) (by rw [e];exact ht) (by rw [e];exact he) rd hRR
theorem FpOk.turn {H':Hp} {s':Shared} {C:Addr} {h':Heap} (I:Inv X pins σ H' s') (f:FpOk X pins H' C) (hs:Heap.SameBut C s'.heap h'):Inv X pins σ H' { s' with heap:=h' }:=by
  obtain ⟨f0,f1,f2,f3,f4,f5⟩:=f
  exact I.turned (t':=s'.toks) (fun b o hb e=>hs.extBut b o hb e) f0 f1 f3 f4 f5
noncomputable def tComp (wi:TI) (nt:Nat) (caps:List Nat) (g:TG) (tc:TT) (te:TE):TE:=fun σ H Q=>wi σ H fun J H1=>Qeb J nt caps g tc te σ H1 fun D H2=>Q (.ref D) H2
variable {wi:TI} {g:TG} {tc:TT} {te:TE}
theorem pe_comp (hc:X.calm=true) (ck:CompOk X.N X.env.scope scope N' nt caps) (hi:PI X tg iter wi)
    (hg:∀ pins cl C s H fp,PG (Qan X pins N' (ZL X.env.scope scope) cl C s H fp) tg g)
    (ht:∀ pins cl C s H fp,PIfs (Qan X pins N' (ZL X.env.scope scope) cl C s H fp) ifs tc)
    (he:∀ pins cl C s H fp,PE (Qan X pins N' (ZL X.env.scope scope) cl C s H fp) elt te)
    (hs:∀ x,foldedSetIterable iter X.env x=pure x:=by intro _;rfl) (hrel:relabel scope X.env=ZL X.env.scope scope:=by rfl) :
    PE X (.ListComp elt [⟨tg,iter,ifs,0⟩] scope pos) (tComp wi nt caps g tc te):=by
  intro pins s σ H Q I h
  rw [eval_ListComp]
  refine wpAny_comprehension_free (use:=none) rfl hs (QcI (Qhj I ck)) ck.kind ck.locs (thn (hi pins s σ H _ I h) fun xv s₁ h₁=>thn h₁ fun itv s₂ h₂ => ?_)
  obtain ⟨it,fp,tn,J,H2,e,I2,T,st2,f2,rd⟩:=h₂
  subst e
  refine comp_run (RR:=fun acc C=>compPost (model X.prog X.w) X.A X.xe none (EP X pins σ Q) acc C) I2 hc ck hrel T st2 f2 hg ht he rd ?_
  intro D C s' H' I' hm f q
  obtain ⟨m,hm⟩:=hm
  exact ⟨m,hm,fun h' hs'=>⟨.ref D,H',FpOk.turn I' f hs',rfl,q⟩⟩
end
end L2.PM

noncomputable section
namespace L2.PM
open PySem PySem.Spec PyProof.Rows

noncomputable def dvV:Bool ⊕ Int→V
  | .inl b => .bl b
  | .inr i => .int i
noncomputable def dvK (kvs:List (Str×(Bool ⊕ Int))):List (Key×V):=kvs.map fun p=>(Sum.inr p.1,dvV p.2)
inductive PV where
  | non | bl (b:Bool) | int (i:Int) | str (x:Str) | tup (xs:List PV) | lst (xs:List PV) | obj (C:Addr) (ks:List Str) (ps:List PV) | opq (a:Addr) | dct (kvs:List (Str×(Bool ⊕ Int))) | dcw (kvs:List (Str×(Bool ⊕ Int)))

structure RdK (F:Hp) (a:Addr) (kvs:List (Str×(Bool ⊕ Int))):Prop where
  rd:Rd F a (.dK (dvK kvs))
noncomputable def excO (a C dx:Addr):HO := .ext fun h=>∃ o vs,h.get? a=some o∧o.cls = .ref C∧o.dict=some dx∧o.data = .fields vs
inductive ObjAt (K:PySem.W.Frag) (F:Hp) (a C dx:Addr) (fs:List (Str×V)):Prop
  | ins:F a=some (.ins C dx fs)→F dx=some (.own a)→ObjAt K F a C dx fs
  | exc:F a=some (excO a C dx)→F dx=some (.xd fs)→PySem.W.mroIn K C (.type "BaseException")=some true→ObjAt K F a C dx fs
theorem ObjAt.mono {K:PySem.W.Frag} {F F':Hp} {a C dx:Addr} {fs:List (Str×V)} (e:Same F F'):ObjAt K F a C dx fs→ObjAt K F' a C dx fs
  | .ins h1 h2 => .ins (e _ _ h1) (e _ _ h2)
  | .exc h1 h2 h3 => .exc (e _ _ h1) (e _ _ h2) h3
mutual
noncomputable def Rep (K:PySem.W.Frag) (F:Hp):PV→V→Prop
  | .non,v=>v = .non
  | .bl b,v=>v = .bl b
  | .int i,v=>v = .int i
  | .str x,v=>v = .str x
  | .tup xs,v=>∃ a vs,v = .ref a∧SqT K F a vs∧RepL K F xs vs
  | .lst xs,v=>∃ a vs,v = .ref a∧SqL K F a vs∧RepL K F xs vs
  | .obj C ks ps,v=>∃ a dx vs,v = .ref a∧ObjAt K F a C dx (ks.zip vs)∧ks.length=vs.length∧RepL K F ps vs
  | .opq a,v=>v = .ref a
  | .dct kvs,v=>∃ a o,v = .ref a∧F a=some (.frz o (.dK (dvK kvs)))
  | .dcw kvs,v=>∃ (a:Addr) (_:Unit),v = .ref a∧RdK F a kvs
noncomputable def RepL (K:PySem.W.Frag) (F:Hp):List PV→List V→Prop
  | [],vs=>vs=[]
  | x :: xs,vs=>∃ v r,vs=v :: r∧Rep K F x v∧RepL K F xs r
end

theorem _root_.L2.Same.seqT {K:PySem.W.Frag} {H H':Hp} {a:Addr} {xs:List V} (e:Same H H') (h:SqT K H a xs):SqT K H' a xs:=by
  rcases h with (h | ⟨o,h⟩) | h
  · exact .inl (.inl (e _ _ h))
  · exact .inl (.inr ⟨o,e _ _ h⟩)
  · exact .inr h

section
variable {K:PySem.W.Frag} {F F':Hp}
mutual
theorem Rep.mono (e:Same F F'):∀ {p:PV} {v:V},Rep K F p v→Rep K F' p v
  | .non,_,h=>h
  | .bl _,_,h=>h
  | .int _,_,h=>h
  | .str _,_,h=>h
  | .tup xs,_,h=>by
    unfold Rep at h ⊢
    obtain ⟨a,vs,h1,h2,h3⟩:=h
    exact ⟨a,vs,h1,e.seqT h2,RepL.mono e h3⟩
  | .lst xs,_,h=>by
    unfold Rep at h ⊢
    obtain ⟨a,vs,h1,h2,h3⟩:=h
    exact ⟨a,vs,h1,e.seq h2,RepL.mono e h3⟩
  | .obj C ks ps,_,h=>by
    unfold Rep at h ⊢
    obtain ⟨a,dx,vs,h1,h2,h4,h5⟩:=h
    exact ⟨a,dx,vs,h1,h2.mono e,h4,RepL.mono e h5⟩
  | .opq _,_,h=>h
  | .dct _,_,h=>by
    unfold Rep at h ⊢
    obtain ⟨a,o,h1,h2⟩:=h
    exact ⟨a,o,h1,e _ _ h2⟩
  | .dcw _,_,h=>by
    unfold Rep at h ⊢
    obtain ⟨a,u,h1,h2⟩:=h
    exact ⟨a,u,h1,⟨h2.rd.imp (fun z=>e _ _ z) fun ⟨o,z⟩=>⟨o,e _ _ z⟩⟩⟩
theorem RepL.mono (e:Same F F'):∀ {ps:List PV} {vs:List V},RepL K F ps vs→RepL K F' ps vs
  | [],_,h=>h
  | x :: xs,_,h=>by
    unfold RepL at h ⊢
    obtain ⟨v,r,h1,h2,h3⟩:=h
    exact ⟨v,r,h1,Rep.mono e h2,RepL.mono e h3⟩
end
theorem RepL.nil:RepL K F [] []:=by unfold RepL;rfl
theorem RepL.cons {p:PV} {v:V} {ps:List PV} {vs:List V} (h:Rep K F p v) (t:RepL K F ps vs):RepL K F (p :: ps) (v :: vs):=by
  unfold RepL
  exact ⟨v,vs,rfl,h,t⟩
theorem RepL.length:∀ {ps:List PV} {vs:List V},RepL K F ps vs→vs.length=ps.length
  | [],_,h=>by unfold RepL at h;subst h;rfl
  | x :: xs,_,h=>by
    unfold RepL at h
    obtain ⟨v,r,rfl,_,h3⟩:=h
    simp [RepL.length h3]
theorem RepL.get:∀ {ps:List PV} {vs:List V} {i:Nat} {p:PV},RepL K F ps vs→ps[i]?=some p→∃ v,vs[i]?=some v∧Rep K F p v
  | [],_,_,_,_,e=>by simp at e
  | x :: xs,_,i,p,h,e=>by
    unfold RepL at h
    obtain ⟨v,r,rfl,h2,h3⟩:=h
    cases i with
    | zero=>simp at e;subst e;exact ⟨v,rfl,h2⟩
    | succ i =>
      obtain ⟨u,e1,e2⟩:=RepL.get (i:=i) h3 (by simpa using e)
      exact ⟨u,by simpa using e1,e2⟩
theorem RepL.back {ps:List PV} {vs:List V} {i:Nat} {v:V} (h:RepL K F ps vs) (e:vs[i]?=some v):∃ p,ps[i]?=some p∧Rep K F p v:=by
  cases q:ps[i]? with
  | none =>
    have h1:ps.length≤i:=List.getElem?_eq_none_iff.mp q
    have h2:i < vs.length:=(List.getElem?_eq_some_iff.mp e).1
    rw [h.length] at h2
    omega
  | some p =>
    obtain ⟨u,e1,e2⟩:=h.get q
    rw [e] at e1
    cases e1
    exact ⟨p,rfl,e2⟩
theorem RepL.append:∀ {ps qs:List PV} {vs us:List V},RepL K F ps vs→RepL K F qs us→RepL K F (ps++qs) (vs++us)
  | [],_,_,_,h,t=>by unfold RepL at h;subst h;exact t
  | x :: xs,_,_,_,h,t=>by
    unfold RepL at h
    obtain ⟨v,r,rfl,h2,h3⟩:=h
    exact .cons h2 (RepL.append h3 t)
theorem RepL.snoc {ps:List PV} {vs:List V} {p:PV} {v:V} (h:RepL K F ps vs) (t:Rep K F p v):RepL K F (ps++[p]) (vs++[v]):=h.append (.cons t .nil)
theorem RepL.take:∀ {ps:List PV} {vs:List V} (n:Nat),RepL K F ps vs→RepL K F (ps.take n) (vs.take n)
  | _,_,0,_=>by simpa using RepL.nil
  | [],_,n + 1,h=>by unfold RepL at h;subst h;exact .nil
  | x :: xs,_,n + 1,h=>by
    unfold RepL at h
    obtain ⟨v,r,rfl,h2,h3⟩:=h
    exact .cons h2 (RepL.take n h3)
theorem RepL.drop:∀ {ps:List PV} {vs:List V} (n:Nat),RepL K F ps vs→RepL K F (ps.drop n) (vs.drop n)
  | _,_,0,h=>by simpa using h
  | [],_,n + 1,h=>by unfold RepL at h;subst h;exact .nil
  | x :: xs,_,n + 1,h=>by
    unfold RepL at h
    obtain ⟨v,r,rfl,h2,h3⟩:=h
    simpa using RepL.drop n h3
theorem RepL.set:∀ {ps:List PV} {vs:List V} (i:Nat) {p:PV} {v:V},RepL K F ps vs→Rep K F p v→RepL K F (ps.set i p) (vs.set i v)
  | [],_,_,_,_,h,_=>by unfold RepL at h;subst h;exact .nil
  | x :: xs,_,0,_,_,h,q=>by
    unfold RepL at h
    obtain ⟨v,r,rfl,h2,h3⟩:=h
    exact .cons q h3
  | x :: xs,_,i + 1,_,_,h,q=>by
    unfold RepL at h
    obtain ⟨v,r,rfl,h2,h3⟩:=h
    exact .cons h2 (RepL.set i h3 q)
theorem RepL.reverse {ps:List PV} {vs:List V} (h:RepL K F ps vs):RepL K F ps.reverse vs.reverse:=by
  induction ps generalizing vs with
  | nil=>unfold RepL at h;subst h;exact .nil
  | cons x xs ih =>
    unfold RepL at h
    obtain ⟨v,r,rfl,h2,h3⟩:=h
    rw [List.reverse_cons,List.reverse_cons]
    exact (ih h3).append (.cons h2 .nil)
end

structure Grow (F H F' H':Hp):Prop where
  ext:Same F F'
  sub:Same F' H'
  same:Same H H'
  new:∀ a o,F' a=some o→F a=some o∨H a=none
theorem Grow.refl {F H:Hp} (h:Same F H):Grow F H F H:=⟨Same.refl _,h,Same.refl _,fun _ _ e => .inl e⟩
theorem Grow.trans {F H F1 H1 F2 H2:Hp} (a:Grow F H F1 H1) (b:Grow F1 H1 F2 H2):Grow F H F2 H2 :=
  ⟨a.ext.trans b.ext,b.sub,a.same.trans b.same,fun c o e=>by
    rcases b.new c o e with z | z
    · exact a.new c o z
    · exact .inr (a.same.free z)⟩
theorem Grow.laid {F H:Hp} {p:Addr} {o:HO} (h:Same F H) (n:H p=none):Grow F H (upd F p o) (upd H p o):=by
  have nF:F p=none:=by
    cases q:F p with
    | none=>rfl
    | some u=>rw [h p u q] at n;cases n
  refine ⟨fun a u e => ?_,fun a u e => ?_,fun a u e => ?_,fun a u e => ?_⟩
  · rw [Qk (Qn e nF)];exact e
  · by_cases z:a=p
    · subst z;rw [Qp] at e ⊢;exact e
    · rw [Qk z] at e ⊢;exact h a u e
  · rw [Qk (Qn e n)];exact e
  · by_cases z:a=p
    · subst z;exact .inr n
    · rw [Qk z] at e;exact .inl e
theorem Grow.side {F H:Hp} {p:Addr} {o:HO} (h:Same F H) (n:H p=none):Grow F H F (upd H p o):=by
  refine ⟨Same.refl _,fun a u e => ?_,fun a u e => ?_,fun a u e => .inl e⟩
  · rw [Qk (Qn (h a u e) n)];exact h a u e
  · rw [Qk (Qn e n)];exact e

inductive Slot where
  | un | fz (p:PV) | ow (xs:List PV) | od (kvs:List (Str×(Bool ⊕ Int)))
noncomputable abbrev PEnv:=List Slot
noncomputable def Slot.val:Slot→Option PV
  | .un=>none
  | .fz p=>some p
  | .ow xs=>some (.lst xs)
  | .od kvs=>some (.dcw kvs)
noncomputable def getV (γ:PEnv) (i:Nat):Option PV:=(γ[i]?).bind Slot.val
noncomputable def ERep (K:PySem.W.Frag) (F:Hp) (σ:St) (γ:PEnv) (ms:List Nat):Prop:=∀ i∈ms,∀ p,getV γ i=some p→∃ v,σ[i]?=some (some v)∧Rep K F p v
theorem ERep.mono {K:PySem.W.Frag} {F F':Hp} {σ:St} {γ:PEnv} {ms:List Nat} (h:ERep K F σ γ ms) (e:Same F F'):ERep K F' σ γ ms:=fun i hi p hp=>by
  obtain ⟨v,h1,h2⟩:=h i hi p hp
  exact ⟨v,h1,h2.mono e⟩
theorem ERep.left {K:PySem.W.Frag} {F:Hp} {σ:St} {γ:PEnv} {ms ns:List Nat} (h:ERep K F σ γ (ms++ns)):ERep K F σ γ ms:=fun i hi=>h i (List.mem_append_left _ hi)
theorem ERep.right {K:PySem.W.Frag} {F:Hp} {σ:St} {γ:PEnv} {ms ns:List Nat} (h:ERep K F σ γ (ms++ns)):ERep K F σ γ ns:=fun i hi=>h i (List.mem_append_right _ hi)

noncomputable def Wv (K:PySem.W.Frag) (F H:Hp) (r:PV) (Q:VK):Prop:=∀ v H' F',Grow F H F' H'→Rep K F' r v→Q v H'
noncomputable def Wo (K:PySem.W.Frag) (F H:Hp) (xs:List PV) (Q:VK):Prop:=∀ a vs H' F',Grow F H F' H'→H a=none→F' a=none→H' a=some (.lst vs)→RepL K F' xs vs→Q (.ref a) H'
theorem Wv.go {K:PySem.W.Frag} {F H F' H':Hp} {r:PV} {Q:VK} (w:Wv K F H r Q) (g:Grow F H F' H'):Wv K F' H' r Q:=fun v H2 F2 g2=>w v H2 F2 (g.trans g2)
theorem Wo.go {K:PySem.W.Frag} {F H F' H':Hp} {r:List PV} {Q:VK} (w:Wo K F H r Q) (g:Grow F H F' H'):Wo K F' H' r Q:=fun a vs H2 F2 g2 n=>w a vs H2 F2 (g.trans g2) (g.same.free n)
theorem Wv.of_lst {K:PySem.W.Frag} {F H:Hp} {xs:List PV} {Q:VK} (w:Wv K F H (.lst xs) Q):Wo K F H xs Q:=by
  intro a vs H' F' g n nF e r
  have gx:Same F' (upd F' a (.lst vs)):=fun b u q=>by rw [Qk (Qn q nF)];exact q
  refine w (.ref a) H' (upd F' a (.lst vs)) ⟨g.ext.trans gx,fun b u q => ?_,g.same,fun b u q => ?_⟩ ?_
  · by_cases z:b=a
    · subst z;rw [Qp] at q;rw [e];exact q
    · rw [Qk z] at q;exact g.sub b u q
  · by_cases z:b=a
    · subst z;exact .inr n
    · rw [Qk z] at q;exact g.new b u q
  · unfold Rep
    exact ⟨a,vs,rfl,.of Qp,r.mono gx⟩
theorem Wv.here {K:PySem.W.Frag} {F H:Hp} {r:PV} {Q:VK} {v:V} (w:Wv K F H r Q) (h:Same F H) (q:Rep K F r v):Q v H:=w v H F (.refl h) q

noncomputable abbrev MEx:=PEnv→Option PV
noncomputable def tM (K:PySem.W.Frag) (ms:List Nat) (m:MEx):TE:=fun σ H Q=>∃ F γ r,Same F H∧ERep K F σ γ ms∧m γ=some r∧Wv K F H r Q
noncomputable def tMO (K:PySem.W.Frag) (ms:List Nat) (m:PEnv→Option (List PV)):TE:=fun σ H Q=>∃ F γ r,Same F H∧ERep K F σ γ ms∧m γ=some r∧Wo K F H r Q
noncomputable def tMT (K:PySem.W.Frag) (ms:List Nat) (m:PEnv→Option Bool):TT:=fun σ H Q=>∃ F γ r,Same F H∧ERep K F σ γ ms∧m γ=some r∧∀ H' F',Grow F H F' H'→Q r H'
noncomputable def tMA (K:PySem.W.Frag) (ms:List Nat) (m:PEnv→Option (List PV)):TA:=fun σ H Q=>∃ F γ r,Same F H∧ERep K F σ γ ms∧m γ=some r∧∀ vs H' F',Grow F H F' H'→RepL K F' r vs→Q vs H'
noncomputable def EM (X:Cx) (ms:List Nat) (e:Expr) (m:MEx):Prop:=PE X e (tM X.K ms m)
noncomputable def EO (X:Cx) (ms:List Nat) (e:Expr) (m:PEnv→Option (List PV)):Prop:=PE X e (tMO X.K ms m)
noncomputable def TM (X:Cx) (ms:List Nat) (e:Expr) (m:PEnv→Option Bool):Prop:=PT X e (tMT X.K ms m)
noncomputable def AM (X:Cx) (ms:List Nat) (es:List Expr) (m:PEnv→Option (List PV)):Prop:=PA X es (tMA X.K ms m)

section
variable {X:Cx} {e a b:Expr} {es:List Expr} {ms ns:List Nat} {m m1 m2:MEx} {pos:Pos}
theorem _root_.L2.PE.imp {t t':TE} (h:PE X e t) (i:∀ σ H Q,t' σ H Q→t σ H Q):PE X e t':=fun pins s σ H Q I q=>h pins s σ H Q I (i σ H Q q)
theorem _root_.L2.PT.imp {t t':TT} (h:PT X e t) (i:∀ σ H Q,t' σ H Q→t σ H Q):PT X e t':=fun pins s σ H Q I q=>h pins s σ H Q I (i σ H Q q)
theorem _root_.L2.PA.imp {t t':TA} (h:PA X es t) (i:∀ σ H Q,t' σ H Q→t σ H Q):PA X es t':=fun pos pins s σ H Q I q=>h pos pins s σ H Q I (i σ H Q q)
theorem _root_.L2.PS.imp {st:Stmt} {t t':TS} (h:PS X st t) (i:∀ D σ H,t' D σ H→t D σ H):PS X st t':=fun pins s σ H D I q=>h pins s σ H D I (i D σ H q)

noncomputable def mLst (m:PEnv→Option (List PV)):MEx:=fun γ=>(m γ).map PV.lst
theorem EO.em {m:PEnv→Option (List PV)} (h:EO X ms e m):EM X ms e (mLst m):=PE.imp h fun σ H Q ⟨F,γ,r,h1,h2,h3,w⟩=>by
  unfold mLst at h3
  cases q:m γ with
  | none=>rw [q] at h3;cases h3
  | some xs =>
    rw [q] at h3
    cases h3
    exact ⟨F,γ,xs,h1,h2,q,w.of_lst⟩

noncomputable def mVar (i:Nat):MEx:=fun γ=>getV γ i
noncomputable def mC (p:PV):MEx:=fun _=>some p
theorem Qa (i:Nat) {x:Str} (h:PE X (.Name x pos) (tVar i)):EM X [i] (.Name x pos) (mVar i):=PE.imp h fun σ H Q ⟨F,γ,r,h1,h2,h3,w⟩=>by
  obtain ⟨v,e1,e2⟩:=h2 i (by simp) r h3
  exact ⟨v,e1,w.here h1 e2⟩
theorem Qe {i j pos}:EM X [] (.Constant (.int i) j pos) (mC (.int i)):=PE.imp pe_int fun σ H Q ⟨F,γ,r,h1,h2,h3,w⟩=>by
  cases h3;exact w.here h1 (by unfold Rep;rfl)
theorem Yx {i j pos}:EM X [] (.Constant (.bool i) j pos) (mC (.bl i)):=PE.imp pe_bl fun σ H Q ⟨F,γ,r,h1,h2,h3,w⟩=>by
  cases h3;exact w.here h1 (by unfold Rep;rfl)
theorem em_non {j pos}:EM X [] (.Constant .none j pos) (mC .non):=PE.imp pe_non fun σ H Q ⟨F,γ,r,h1,h2,h3,w⟩=>by
  cases h3;exact w.here h1 (by unfold Rep;rfl)
theorem QQ {i j pos}:EM X [] (.Constant (.str i) j pos) (mC (.str i)):=PE.imp pe_str fun σ H Q ⟨F,γ,r,h1,h2,h3,w⟩=>by
  cases h3;exact w.here h1 (by unfold Rep;rfl)

noncomputable def rM2 (K:PySem.W.Frag) (f:PV→PV→Option PV):R2:=fun x y H Q=>∃ F p q r,Same F H∧Rep K F p x∧Rep K F q y∧f p q=some r∧Wv K F H r Q
noncomputable def rM2O (K:PySem.W.Frag) (f:PV→PV→Option (List PV)):R2:=fun x y H Q=>∃ F p q r,Same F H∧Rep K F p x∧Rep K F q y∧f p q=some r∧Wo K F H r Q
noncomputable def bin2 (f:PV→PV→Option α) (m1 m2:MEx):PEnv→Option α:=fun γ=>(m1 γ).bind fun x=>(m2 γ).bind fun y=>f x y
theorem QdX {K:PySem.W.Frag} {f:PV→PV→Option PV} {σ:St} {H:Hp} {Q:VK} (h:tM K (ms++ns) (bin2 f m1 m2) σ H Q):tOp (rM2 K f) (tM K ms m1) (tM K ns m2) σ H Q:=by
  obtain ⟨F,γ,r,h1,h2,h3,w⟩:=h
  unfold bin2 at h3
  cases e1:m1 γ with
  | none=>rw [e1] at h3;cases h3
  | some x =>
    cases e2:m2 γ with
    | none=>rw [e1,e2] at h3;cases h3
    | some y =>
      rw [e1,e2] at h3
      refine ⟨F,γ,x,h1,h2.left,e1,fun vx H1 F1 g1 r1=>⟨F1,γ,y,g1.sub,h2.right.mono g1.ext,e2,fun vy H2 F2 g2 r2 => ?_⟩⟩
      exact ⟨F2,x,y,r,g2.sub,r1.mono g2.ext,r2,h3,w.go (g1.trans g2)⟩
theorem tOpO_of {K:PySem.W.Frag} {f:PV→PV→Option (List PV)} {σ:St} {H:Hp} {Q:VK} (h:tMO K (ms++ns) (bin2 f m1 m2) σ H Q):tOp (rM2O K f) (tM K ms m1) (tM K ns m2) σ H Q:=by
  obtain ⟨F,γ,r,h1,h2,h3,w⟩:=h
  unfold bin2 at h3
  cases e1:m1 γ with
  | none=>rw [e1] at h3;cases h3
  | some x =>
    cases e2:m2 γ with
    | none=>rw [e1,e2] at h3;cases h3
    | some y =>
      rw [e1,e2] at h3
      refine ⟨F,γ,x,h1,h2.left,e1,fun vx H1 F1 g1 r1=>⟨F1,γ,y,g1.sub,h2.right.mono g1.ext,e2,fun vy H2 F2 g2 r2 => ?_⟩⟩
      exact ⟨F2,x,y,r,g2.sub,r1.mono g2.ext,r2,h3,w.go (g1.trans g2)⟩
noncomputable def OpM (X:Cx) (g:Value→Value→Sem Value) (f:PV→PV→Option PV):Prop:=OpR X g (rM2 X.K f)
noncomputable def OpO (X:Cx) (g:Value→Value→Sem Value) (f:PV→PV→Option (List PV)):Prop:=OpR X g (rM2O X.K f)
theorem Qv {op:Operator} {f:PV→PV→Option PV} (ho:OpM X (binaryOp op) f) (ha:EM X ms a m1) (hb:EM X ns b m2):EM X (ms++ns) (.BinOp a op b pos) (bin2 f m1 m2) :=
  PE.imp (pe_op ho ha hb) fun _ _ _ h=>QdX h
theorem Qam {op:Operator} {f:PV→PV→Option (List PV)} (ho:OpO X (binaryOp op) f) (ha:EM X ms a m1) (hb:EM X ns b m2):EO X (ms++ns) (.BinOp a op b pos) (bin2 f m1 m2) :=
  PE.imp (pe_op ho ha hb) fun _ _ _ h=>tOpO_of h
theorem Xa {op:CmpOp} {f:PV→PV→Option PV} (ho:OpM X (compareOp op) f) (ha:EM X ms a m1) (hb:EM X ns b m2) (hm:behindInMarks op b=false):EM X (ms++ns) (.Compare a [op] [b] pos) (bin2 f m1 m2) :=
  PE.imp (pe_cmpR ho ha hb hm) fun _ _ _ h=>QdX h
theorem Qs {f:PV→PV→Option PV} (ho:IxR X (rM2 X.K f)) (ha:EM X ms a m1) (hb:EM X ns b m2) (hs:QgC b):EM X (ms++ns) (.Subscript a b pos) (bin2 f m1 m2) :=
  PE.imp (pe_ix ho ha hb hs) fun _ _ _ h=>QdX h

noncomputable def isB:PV→Option Bool
  | .bl b=>some b
  | _=>none
noncomputable def truB (m:MEx):PEnv→Option Bool:=fun γ=>(m γ).bind isB
theorem Qet {K:PySem.W.Frag} {t:TE} {σ:St} {H:Hp} {Q:Bool→Hp→Prop} (ht:∀ Q,tM K ms m σ H Q→t σ H Q) (h:tMT K ms (truB m) σ H Q):tTest t σ H Q:=by
  obtain ⟨F,γ,r,h1,h2,h3,w⟩:=h
  unfold truB at h3
  cases e1:m γ with
  | none=>rw [e1] at h3;cases h3
  | some x =>
    rw [e1] at h3
    cases x with
    | bl b =>
      obtain rfl:b=r:=Option.some.inj h3
      refine ht _ ⟨F,γ,.bl b,h1,h2,e1,fun v H' F' g q => ?_⟩
      unfold Rep at q
      exact ⟨b,q,w H' F' g⟩
    | _=>cases h3
theorem Qx {op:CmpOp} {f:PV→PV→Option PV} (ho:OpM X (compareOp op) f) (ha:EM X ms a m1) (hb:EM X ns b m2) (hm:behindInMarks op b=false):TM X (ms++ns) (.Compare a [op] [b] pos) (truB (bin2 f m1 m2)) :=
  PT.imp (pt_cmpR ho ha hb hm) fun _ _ _ h=>Qet (fun _=>QdX) h
end
end L2.PM

noncomputable section
namespace L2.PM
open PySem PySem.Spec PyProof.Rows

noncomputable abbrev LIM:Nat:=1000000
theorem ZI:LIM≤sizeLine:=by decide
theorem QC {α:Type} {c:Prop} [Decidable c] {a r:α} (h:(if c then some a else none)=some r):c∧a=r:=by
  by_cases k:c
  · rw [if_pos k] at h;exact ⟨k,Option.some.inj h⟩
  · rw [if_neg k] at h;cases h

section
variable {X:Cx}
noncomputable def iop (C:Int→Int→Bool) (g:Int→Int→PV):PV→PV→Option PV
  | .int i,.int j=>if C i j=true then some (g i j) else none
  | _,_=>none
theorem Qgr {C:Int→Int→Bool} {g:Int→Int→PV} {p q r:PV} (h:iop C g p q=some r):∃ i j,p = .int i∧q = .int j∧C i j=true∧r=g i j:=by
  cases p <;> cases q <;> first
    | (exfalso;cases h;done)
    | (rename_i i j
       have h:(if C i j=true then some (g i j) else none)=some r:=h
       obtain ⟨c,e⟩:=QC h
       exact ⟨i,j,rfl,rfl,c,e.symm⟩)
theorem QfA {f:Value→Value→Sem Value} {C':Int→Int→Prop} {C:Int→Int→Bool} {g:Int→Int→PV} {gv:Int→Int→V} (ho:OpR X f (rI C' gv)) (hc:∀ i j,C i j=true→C' i j) (hg:∀ i j K F,Rep K F (g i j) (gv i j)):OpM X f (iop C g):=by
  intro pins s σ H x y v u Q I rx ry h
  obtain ⟨F,p,q,r,h1,h2,h3,h4,w⟩:=h
  obtain ⟨i,j,rfl,rfl,c,rfl⟩:=Qgr h4
  unfold Rep at h2 h3
  exact ho pins s σ H x y v u Q I rx ry ⟨i,j,h2,h3,hc i j c,w.here h1 (hg i j _ _)⟩
theorem QdZ {f:Value→Value→Sem Value} {g:Int→Int→PV} {gv:Int→Int→V} (ho:OpR X f (rI0 gv)) (hg:∀ i j K F,Rep K F (g i j) (gv i j)):OpM X f (iop (fun _ _=>true) g):=by
  intro pins s σ H x y v u Q I rx ry h
  obtain ⟨F,p,q,r,h1,h2,h3,h4,w⟩:=h
  obtain ⟨i,j,rfl,rfl,c,rfl⟩:=Qgr h4
  unfold Rep at h2 h3
  exact ho pins s σ H x y v u Q I rx ry ⟨i,j,h2,h3,w.here h1 (hg i j _ _)⟩
theorem Zz {K:PySem.W.Frag} {F:Hp} (i:Int):Rep K F (.int i) (.int i):=by unfold Rep;rfl
theorem ZQ {K:PySem.W.Frag} {F:Hp} (i:Bool):Rep K F (.bl i) (.bl i):=by unfold Rep;rfl
theorem XQ {K:PySem.W.Frag} {F:Hp} (i:Str):Rep K F (.str i) (.str i):=by unfold Rep;rfl
theorem Qcc {K:PySem.W.Frag} {F:Hp}:Rep K F .non .non:=by unfold Rep;rfl
noncomputable def pSub:=iop (fun _ _=>true) fun i j => .int (i - j)
noncomputable def cls (p:Prop):Bool := @decide p (Classical.propDecidable p)
theorem XU {p:Prop} (h:cls p=true):p := @of_decide_eq_true p (Classical.propDecidable p) h
theorem QbG {p:Prop} (h:p):cls p=true := @decide_eq_true p (Classical.propDecidable p) h
noncomputable def cMul (i j:Int):Bool:=cls (-(2 ^ 64) < i∧i < 2 ^ 64)||cls (-(2 ^ 64) < j∧j < 2 ^ 64)
noncomputable def cDiv (_ j:Int):Bool:=cls (0 < j∧j < 2 ^ 200)
noncomputable def cPos (_ j:Int):Bool:=decide (0 < j)
noncomputable def cPow (i j:Int):Bool:=cls (0≤j∧j≤1000000∧i.natAbs < 2 ^ 64)
noncomputable def pMul:=iop cMul fun i j => .int (i * j)
noncomputable def pDiv:=iop cDiv fun i j => .int (i / j)
noncomputable def pMod:=iop cPos fun i j => .int (i % j)
noncomputable def pPow:=iop cPow fun i j => .int (i ^ j.toNat)
noncomputable def pLt:=iop (fun _ _=>true) fun i j => .bl (decide (i < j))
noncomputable def pLe:=iop (fun _ _=>true) fun i j => .bl (decide (i≤j))
noncomputable def pGt:=iop (fun _ _=>true) fun i j => .bl (decide (j < i))
theorem om_sub:OpM X (binaryOp .Sub) pSub:=QdZ op_sub fun _ _ _ _=>Zz _
theorem cMul_ok {i j:Int} (h:cMul i j=true):CMul i j:=by
  unfold cMul at h
  rw [Bool.or_eq_true] at h
  exact h.imp XU XU
theorem QbD:OpM X (binaryOp .Mult) pMul:=QfA op_mul (fun _ _ h=>cMul_ok h) fun _ _ _ _=>Zz _
theorem div_log {j:Int} (h0:0 < j) (h:j < 2 ^ 200):j.natAbs.log2 < 9000:=by
  have h1:j.natAbs < 2 ^ 200:=by omega
  have h2:j.natAbs.log2 < 200:=(Nat.log2_lt (by omega)).mpr h1
  omega
theorem op_fdivL:OpR X (binaryOp .FloorDiv) (rI (fun _ j=>0 < j∧j < 2 ^ 200) fun i j => .int (i / j)):=opI fun i j _ _ _ _ _ hc q=>by
  have h1:(0:Int) < j:=hc.1
  exact floordiv_int (by omega) (by rw [Int.fdiv_eq_ediv_of_nonneg i (by omega)];exact q) (.inl (PyProof.noPylong_of_log2 (div_log h1 hc.2)))
theorem QfP:OpM X (binaryOp .FloorDiv) pDiv:=QfA op_fdivL (fun _ _ h=>XU h) fun _ _ _ _=>Zz _
theorem QG:OpM X (binaryOp .Mod) pMod:=QfA op_mod (fun _ _ h=>of_decide_eq_true h) fun _ _ _ _=>Zz _
theorem om_pow:OpM X (binaryOp .Pow) pPow:=QfA op_pow (fun i j h=>XU (p:=0≤j∧j≤1000000∧i.natAbs < 2 ^ 64) h) fun _ _ _ _=>Zz _
theorem QhA:OpM X (compareOp .Lt) pLt:=QdZ op_lt fun _ _ _ _=>ZQ _
theorem QhB:OpM X (compareOp .LtE) pLe:=QdZ op_le fun _ _ _ _=>ZQ _
theorem QfB:OpM X (compareOp .Gt) pGt:=QdZ op_gt fun _ _ _ _=>ZQ _
theorem op_catS:OpR X (binaryOp .Add) (fun x y H Q=>∃ l b xs zs,x = .ref l∧y = .ref b∧SqL X.K H l xs∧SqL X.K H b zs∧xs.length + zs.length≤sizeLine∧∀ p,H p=none→Q (.ref p) (upd H p (.lst (xs++zs)))):=by
  intro pins s σ H x y v u Q I rx ry h
  obtain ⟨l,b,xs,zs,rfl,rfl,hH,hB,hz,q⟩:=h
  cases rx
  cases ry
  obtain ⟨its,r,⟨⟨cls,dd,data,sl⟩,n,e,c,_,d⟩,_⟩:=I.list hH
  obtain ⟨its2,r2,⟨⟨cls2,dd2,data2,sl2⟩,n2,e2,c2,_,d2⟩,_⟩:=I.list hB
  simp only at c d c2 d2
  subst c d c2 d2
  have hsz:its.toArray.size + its2.toArray.size≤sizeLine:=by rw [List.size_toArray,List.size_toArray,← r.length,← r2.length];exact hz
  have ea:its.toArray++its2.toArray=(its++its2).toArray:=by simp
  refine concat_meets ⟨_,e,rfl⟩ ⟨_,e2,rfl⟩ noFill_list_add seq_list_add PySem.F.slot_list_add PySem.F.entry_list_add (PySem.F.args_list_add_2 _ _)
    (list_addW l b its.toArray its2.toArray n n2 dd dd2 sl sl2 hsz) ⟨e,e2,?_⟩
  rw [ea]
  exact ⟨.ref _,_,I.lnew (t':=s.toks) (r.append r2) (by rw [List.length_append];omega),rfl,q _ I.fresh⟩
noncomputable def pCat:PV→PV→Option (List PV)
  | .lst a,.lst b=>if a.length + b.length≤LIM then some (a++b) else none
  | _,_=>none
theorem YZ:OpO X (binaryOp .Add) pCat:=by
  intro pins s σ H x y v u Q I rx ry h
  obtain ⟨F,p,q,r,h1,h2,h3,h4,w⟩:=h
  cases p <;> cases q <;> first
    | (exfalso;cases h4;done)
    | skip
  rename_i xs ys
  have h4:(if xs.length + ys.length≤LIM then some (xs++ys) else none)=some r:=h4
  obtain ⟨c,rfl⟩:=QC h4
  unfold Rep at h2 h3
  obtain ⟨a,vs,rfl,sa,ra⟩:=h2
  obtain ⟨b,us,rfl,sb,rb⟩:=h3
  refine op_catS pins s σ H _ _ v u Q I rx ry ⟨a,b,vs,us,rfl,rfl,h1.seq sa,h1.seq sb,by rw [ra.length,rb.length];exact Nat.le_trans c ZI,fun p hp => ?_⟩
  have nF:F p=none:=h1.free hp
  exact w p _ _ F (.side h1 hp) hp nF Qp (ra.append rb)
noncomputable def pAdd:PV→PV→Option PV
  | .int i,.int j=>some (.int (i + j))
  | .str a,.str b=>if a.length + b.length≤LIM then some (.str (a++b)) else none
  | _,_=>none
theorem Zu:OpM X (binaryOp .Add) pAdd:=by
  intro pins s σ H x y v u Q I rx ry h
  obtain ⟨F,p,q,r,h1,h2,h3,h4,w⟩:=h
  cases p <;> cases q <;> first
    | (exfalso;cases h4;done)
    | skip
  · cases h4
    unfold Rep at h2 h3
    exact op_add pins s σ H x y v u Q I rx ry ⟨_,_,h2,h3,w.here h1 (Zz _)⟩
  · rename_i a b
    have h4:(if a.length + b.length≤LIM then some (PV.str (a++b)) else none)=some r:=h4
    obtain ⟨c,rfl⟩:=QC h4
    unfold Rep at h2 h3
    exact Qfd pins s σ H x y v u Q I rx ry ⟨_,_,h2,h3,Nat.le_trans c ZI,w.here h1 (XQ _)⟩
end
end L2.PM

noncomputable section
namespace L2.PM
open PySem PySem.Spec PyProof.Rows

mutual
noncomputable def peq:PV→PV→Bool
  | .non,.non=>true
  | .bl a,.bl b=>a==b
  | .bl a,.int b=>(if a then 1 else 0)==b
  | .int a,.bl b=>a==(if b then 1 else 0)
  | .int a,.int b=>a==b
  | .str a,.str b=>a==b
  | .tup xs,.tup ys=>peqL xs ys
  | .lst xs,.lst ys=>peqL xs ys
  | .obj C ks ps,.obj D ls qs=>(C==D&&ks==ls)&&peqL ps qs
  | .opq a,.opq b=>a==b
  | .dct a,.dct b=>decide (a=b)
  | .dcw a,.dcw b=>decide (a=b)
  | _,_=>false
noncomputable def peqL:List PV→List PV→Bool
  | [],[]=>true
  | x :: xs,y :: ys=>peq x y&&peqL xs ys
  | _,_=>false
end
mutual
noncomputable def dep:PV→Nat
  | .tup xs=>depL xs + 1
  | .lst xs=>depL xs + 1
  | .obj _ _ _=>1000
  | .opq _=>1000
  | .dct _=>1000
  | .dcw _=>1000
  | _=>0
noncomputable def depL:List PV→Nat
  | []=>0
  | x :: xs=>max (dep x) (depL xs)
end
theorem XF:∀ {xs:List PV} {j:Nat} {p:PV},xs[j]?=some p→dep p≤depL xs
  | [],_,_,e=>by simp at e
  | x :: xs,0,p,e=>by
    simp at e;subst e
    unfold depL
    exact Nat.le_max_left _ _
  | x :: xs,j + 1,p,e=>by
    have:=XF (xs:=xs) (j:=j) (by simpa using e)
    unfold depL
    exact Nat.le_trans this (Nat.le_max_right _ _)
mutual
theorem YD:∀ p:PV,peq p p=true
  | .non=>rfl
  | .bl a=>by show (a==a)=true;simp
  | .int a=>by show (a==a)=true;simp
  | .str a=>by show (a==a)=true;simp
  | .tup xs=>YA xs
  | .lst xs=>YA xs
  | .obj C ks ps=>by show ((C==C&&ks==ks)&&peqL ps ps)=true;rw [YA ps];simp
  | .opq a=>by show (a==a)=true;simp
  | .dct a=>decide_eq_true rfl
  | .dcw a=>decide_eq_true rfl
theorem YA:∀ xs:List PV,peqL xs xs=true
  | []=>by first | rfl | simp [peqL]
  | x :: xs=>by
    first | rw [show peqL (x :: xs) (y :: ys)=(peq x y&&peqL xs ys) from rfl] | rw [show peqL (x :: xs) (x :: xs)=(peq x x&&peqL xs xs) from rfl]
    rw [YD x,YA xs]
    rfl
end
noncomputable def eAt (xs ys:List PV) (j:Nat):Bool:=match xs[j]?,ys[j]? with
  | some p,some q=>peq p q
  | _,_=>true
theorem QbI (n:Nat) (e:Nat→Bool):(List.range (n + 1)).all e=(e 0&&(List.range n).all fun j=>e (j + 1)):=by
  rw [List.range_succ_eq_map,List.all_cons,List.all_map]
  rfl
theorem Xe:∀ (xs ys:List PV),((List.range (min xs.length ys.length)).all (eAt xs ys)&&(xs.length==ys.length))=peqL xs ys
  | [],[]=>by first | rfl | simp [peqL]
  | [],y :: ys=>by first | rfl | simp [peqL]
  | x :: xs,[]=>by first | rfl | simp [peqL]
  | x :: xs,y :: ys=>by
    have ih:=Xe xs ys
    first | rw [show peqL (x :: xs) (y :: ys)=(peq x y&&peqL xs ys) from rfl] | rw [show peqL (x :: xs) (x :: xs)=(peq x x&&peqL xs xs) from rfl]
    rw [← ih]
    have e1:min (x :: xs).length (y :: ys).length=min xs.length ys.length + 1:=by
      simp only [List.length_cons];omega
    rw [e1,QbI]
    have e2:eAt (x :: xs) (y :: ys) 0=peq x y:=by simp [eAt]
    have e3:(fun j=>eAt (x :: xs) (y :: ys) (j + 1))=eAt xs ys:=by
      funext j
      simp [eAt]
    have e4:((x :: xs).length==(y :: ys).length)=(xs.length==ys.length):=by
      rw [Bool.eq_iff_iff];simp
    rw [e2,e3,e4,Bool.and_assoc]

section
variable {X:Cx} {pins:List (Addr×Obj)} {σ:St} {H F:Hp} {s:Shared}
mutual
theorem Rep.inj (I:Inv X pins σ H s) (hF:Same F H):∀ {p q:PV} {v:V},dep p < 1000→dep q < 1000→Rep X.K F p v→Rep X.K F q v→p=q
  | .non,q,v,_,dq,h,k=>by
    unfold Rep at h;subst h
    cases q <;> unfold Rep at k <;> first | rfl | (cases k;done) | (obtain ⟨_,_,k,_⟩:=k;cases k;done) | (obtain ⟨_,_,_,k,_⟩:=k;cases k;done)
  | .bl b,q,v,_,dq,h,k=>by
    unfold Rep at h;subst h
    cases q <;> unfold Rep at k <;> first | (cases k;done) | (cases k;rfl) | (obtain ⟨_,_,k,_⟩:=k;cases k;done) | (obtain ⟨_,_,_,k,_⟩:=k;cases k;done)
  | .int b,q,v,_,dq,h,k=>by
    unfold Rep at h;subst h
    cases q <;> unfold Rep at k <;> first | (cases k;done) | (cases k;rfl) | (obtain ⟨_,_,k,_⟩:=k;cases k;done) | (obtain ⟨_,_,_,k,_⟩:=k;cases k;done)
  | .str b,q,v,_,dq,h,k=>by
    unfold Rep at h;subst h
    cases q <;> unfold Rep at k <;> first | (cases k;done) | (cases k;rfl) | (obtain ⟨_,_,k,_⟩:=k;cases k;done) | (obtain ⟨_,_,_,k,_⟩:=k;cases k;done)
  | .tup xs,q,v,dp,dq,h,k=>by
    unfold Rep at h
    obtain ⟨a,vs,rfl,h2,h3⟩:=h
    cases q with
    | tup ys =>
      unfold Rep at k
      obtain ⟨b,us,e,k2,k3⟩:=k
      cases e
      have e:=I.tuple_inj (hF.seqT h2) (hF.seqT k2)
      subst e
      unfold dep at dp dq
      rw [RepL.inj I hF (by omega) (by omega) h3 k3]
    | lst ys =>
      unfold Rep at k
      obtain ⟨b,us,e,k2,k3⟩:=k
      cases e
      obtain ⟨its,_,p1,_⟩:=I.tuple (hF.seqT h2)
      obtain ⟨its2,_,p2,_⟩:=I.list (hF.seq k2)
      exact absurd rfl (PySem.SeqAt.ne_of_list_tuple p2.isList p1)
    | obj C ks ps=>unfold dep at dq;omega
    | opq b=>unfold dep at dq;omega
    | dct b=>unfold dep at dq;omega
    | dcw b=>unfold dep at dq;omega
    | _=>unfold Rep at k;cases k
  | .lst xs,q,v,dp,dq,h,k=>by
    unfold Rep at h
    obtain ⟨a,vs,rfl,h2,h3⟩:=h
    cases q with
    | lst ys =>
      unfold Rep at k
      obtain ⟨b,us,e,k2,k3⟩:=k
      cases e
      have e:=I.list_inj (hF.seq h2) (hF.seq k2)
      subst e
      unfold dep at dp dq
      rw [RepL.inj I hF (by omega) (by omega) h3 k3]
    | tup ys =>
      unfold Rep at k
      obtain ⟨b,us,e,k2,k3⟩:=k
      cases e
      obtain ⟨its,_,p1,_⟩:=I.list (hF.seq h2)
      obtain ⟨its2,_,p2,_⟩:=I.tuple (hF.seqT k2)
      exact absurd rfl (PySem.SeqAt.ne_of_list_tuple p1.isList p2)
    | obj C ks ps=>unfold dep at dq;omega
    | opq b=>unfold dep at dq;omega
    | dct b=>unfold dep at dq;omega
    | dcw b=>unfold dep at dq;omega
    | _=>unfold Rep at k;cases k
  | .obj C ks ps,q,v,dp,dq,h,k=>by unfold dep at dp;omega
  | .opq a,q,v,dp,dq,h,k=>by unfold dep at dp;omega
  | .dct a,q,v,dp,dq,h,k=>by unfold dep at dp;omega
  | .dcw a,q,v,dp,dq,h,k=>by unfold dep at dp;omega
theorem RepL.inj (I:Inv X pins σ H s) (hF:Same F H):∀ {ps qs:List PV} {vs:List V},depL ps < 1000→depL qs < 1000→RepL X.K F ps vs→RepL X.K F qs vs→ps=qs
  | [],qs,vs,dp,dq,h,k=>by
    unfold RepL at h;subst h
    cases qs with
    | nil=>rfl
    | cons q qs=>unfold RepL at k;obtain ⟨_,_,k,_⟩:=k;cases k
  | p :: ps,qs,vs,dp,dq,h,k=>by
    unfold RepL at h
    obtain ⟨v,r,rfl,h2,h3⟩:=h
    cases qs with
    | nil=>unfold RepL at k;cases k
    | cons q qs =>
      unfold RepL at k
      obtain ⟨v',r',e,k2,k3⟩:=k
      cases e
      unfold depL at dp dq
      rw [Rep.inj I hF (by omega) (by omega) h2 k2,RepL.inj I hF (by omega) (by omega) h3 k3]
end

theorem eqAt_rep (I:Inv X pins σ H s) (hF:Same F H):∀ (n:Nat) (A:Around) (p q:PV) (v u:V) (x y:Value),dep p≤n→n≤900→dep q < 1000→A.units + n < cLine→Rep X.K F p v→Rep X.K F q u→RelV v x→RelV u y→SeqAt.EqAt A s x y (peq p q):=by
  intro n
  induction n with
  | zero =>
    intro A p q v u x y hd hn hdq hu hp hq rx ry
    cases p with
    | tup xs=>unfold dep at hd;omega
    | lst xs=>unfold dep at hd;omega
    | obj C ks ps=>unfold dep at hd;omega
    | opq b=>unfold dep at hd;omega
    | dct b=>unfold dep at hd;omega
    | dcw b=>unfold dep at hd;omega
    | non =>
      unfold Rep at hp;subst hp;cases rx
      cases q with
      | obj D ls qs=>unfold dep at hdq;omega
      | opq b=>unfold dep at hdq;omega
      | dct b=>unfold dep at hdq;omega
      | dcw b=>unfold dep at hdq;omega
      | non=>unfold Rep at hq;subst hq;cases ry;exact SeqAt.EqAt.same _
      | bl b=>unfold Rep at hq;subst hq;cases ry;exact SeqAt.EqAt.none_bool b
      | int b=>unfold Rep at hq;subst hq;obtain ⟨t,rfl⟩:=ry;exact SeqAt.EqAt.none_int b t
      | str b=>unfold Rep at hq;subst hq;obtain ⟨t,rfl⟩:=ry;exact SeqAt.EqAt.none_str b t
      | tup ys =>
        unfold Rep at hq;obtain ⟨b,us,rfl,k2,k3⟩:=hq;cases ry
        obtain ⟨its,_,p1,_⟩:=I.tuple (hF.seqT k2)
        exact SeqAt.EqAt.none_tuple p1 (by omega)
      | lst ys =>
        unfold Rep at hq;obtain ⟨b,us,rfl,k2,k3⟩:=hq;cases ry
        obtain ⟨its,_,p1,_⟩:=I.list (hF.seq k2)
        exact SeqAt.EqAt.none_list p1.isList (by omega)
    | bl a =>
      unfold Rep at hp;subst hp;cases rx
      cases q with
      | obj D ls qs=>unfold dep at hdq;omega
      | opq b=>unfold dep at hdq;omega
      | dct b=>unfold dep at hdq;omega
      | dcw b=>unfold dep at hdq;omega
      | non=>unfold Rep at hq;subst hq;cases ry;exact SeqAt.EqAt.bool_none a
      | bl b=>unfold Rep at hq;subst hq;cases ry;exact SeqAt.EqAt.bool_bool a b
      | int b=>unfold Rep at hq;subst hq;obtain ⟨t,rfl⟩:=ry;exact SeqAt.EqAt.bool_int a b t
      | str b=>unfold Rep at hq;subst hq;obtain ⟨t,rfl⟩:=ry;exact SeqAt.EqAt.bool_str a b t
      | tup ys =>
        unfold Rep at hq;obtain ⟨b,us,rfl,k2,k3⟩:=hq;cases ry
        obtain ⟨its,_,p1,_⟩:=I.tuple (hF.seqT k2)
        exact SeqAt.EqAt.bool_tuple a p1 (by omega)
      | lst ys =>
        unfold Rep at hq;obtain ⟨b,us,rfl,k2,k3⟩:=hq;cases ry
        obtain ⟨its,_,p1,_⟩:=I.list (hF.seq k2)
        exact SeqAt.EqAt.bool_list a p1.isList (by omega)
    | int a =>
      unfold Rep at hp;subst hp;obtain ⟨t',rfl⟩:=rx
      cases q with
      | obj D ls qs=>unfold dep at hdq;omega
      | opq b=>unfold dep at hdq;omega
      | dct b=>unfold dep at hdq;omega
      | dcw b=>unfold dep at hdq;omega
      | non=>unfold Rep at hq;subst hq;cases ry;exact SeqAt.EqAt.int_none a t'
      | bl b=>unfold Rep at hq;subst hq;cases ry;exact SeqAt.EqAt.int_bool a t' b
      | int b=>unfold Rep at hq;subst hq;obtain ⟨t,rfl⟩:=ry;exact SeqAt.EqAt.int_int a t' b t
      | str b=>unfold Rep at hq;subst hq;obtain ⟨t,rfl⟩:=ry;exact SeqAt.EqAt.int_str a t' b t
      | tup ys =>
        unfold Rep at hq;obtain ⟨b,us,rfl,k2,k3⟩:=hq;cases ry
        obtain ⟨its,_,p1,_⟩:=I.tuple (hF.seqT k2)
        exact SeqAt.EqAt.int_tuple a t' p1 (by omega)
      | lst ys =>
        unfold Rep at hq;obtain ⟨b,us,rfl,k2,k3⟩:=hq;cases ry
        obtain ⟨its,_,p1,_⟩:=I.list (hF.seq k2)
        exact SeqAt.EqAt.int_list a t' p1.isList (by omega)
    | str a =>
      unfold Rep at hp;subst hp;obtain ⟨t',rfl⟩:=rx
      cases q with
      | obj D ls qs=>unfold dep at hdq;omega
      | opq b=>unfold dep at hdq;omega
      | dct b=>unfold dep at hdq;omega
      | dcw b=>unfold dep at hdq;omega
      | non=>unfold Rep at hq;subst hq;cases ry;exact SeqAt.EqAt.str_none a t'
      | bl b=>unfold Rep at hq;subst hq;cases ry;exact SeqAt.EqAt.str_bool a t' b
      | int b=>unfold Rep at hq;subst hq;obtain ⟨t,rfl⟩:=ry;exact SeqAt.EqAt.str_int a t' b t
      | str b=>unfold Rep at hq;subst hq;obtain ⟨t,rfl⟩:=ry;exact SeqAt.EqAt.str_str a t' b t
      | tup ys =>
        unfold Rep at hq;obtain ⟨b,us,rfl,k2,k3⟩:=hq;cases ry
        obtain ⟨its,_,p1,_⟩:=I.tuple (hF.seqT k2)
        exact SeqAt.EqAt.str_tuple a t' p1 (by omega)
      | lst ys =>
        unfold Rep at hq;obtain ⟨b,us,rfl,k2,k3⟩:=hq;cases ry
        obtain ⟨its,_,p1,_⟩:=I.list (hF.seq k2)
        exact SeqAt.EqAt.str_list a t' p1.isList (by omega)
  | succ n ih =>
    intro A p q v u x y hd hn hdq hu hp hq rx ry
    by_cases hd0:dep p≤n
    · exact ih A p q v u x y hd0 (by omega) hdq (by omega) hp hq rx ry
    · have hN:A.units < cLine:=by omega
      cases p with
      | tup xs =>
        unfold Rep at hp
        obtain ⟨a,vs,rfl,h2,h3⟩:=hp
        cases rx
        have hdx:depL xs≤n:=by unfold dep at hd;omega
        obtain ⟨its,rv,p1,z1⟩:=I.tuple (hF.seqT h2)
        cases q with
        | obj D ls qs=>unfold dep at hdq;omega
        | opq b=>unfold dep at hdq;omega
        | dct b=>unfold dep at hdq;omega
        | dcw b=>unfold dep at hdq;omega
        | non=>unfold Rep at hq;subst hq;cases ry;exact SeqAt.EqAt.tuple_none p1 hN
        | bl b=>unfold Rep at hq;subst hq;cases ry;exact SeqAt.EqAt.tuple_bool b p1 hN
        | int b=>unfold Rep at hq;subst hq;obtain ⟨t,rfl⟩:=ry;exact SeqAt.EqAt.tuple_int b t p1 hN
        | str b=>unfold Rep at hq;subst hq;obtain ⟨t,rfl⟩:=ry;exact SeqAt.EqAt.tuple_str b t p1 hN
        | lst ys =>
          unfold Rep at hq;obtain ⟨b,us,rfl,k2,k3⟩:=hq;cases ry
          obtain ⟨its2,_,p2,_⟩:=I.list (hF.seq k2)
          exact SeqAt.EqAt.tuple_list p1 p2.isList hN
        | tup ys =>
          unfold Rep at hq;obtain ⟨b,us,rfl,k2,k3⟩:=hq;cases ry
          obtain ⟨its2,ru,p2,z2⟩:=I.tuple (hF.seqT k2)
          change SeqAt.EqAt _ _ _ _ (peqL xs ys)
          by_cases hab:a=b
          · subst hab
            have e:=I.tuple_inj (hF.seqT h2) (hF.seqT k2)
            subst e
            rw [RepL.inj I hF (by omega) (by unfold dep at hdq;omega) h3 k3,YA]
            exact SeqAt.EqAt.same _
          · have l1:its.toArray.size=xs.length:=by rw [List.size_toArray,← rv.length,h3.length]
            have l2:its2.toArray.size=ys.length:=by rw [List.size_toArray,← ru.length,k3.length]
            have key:=SeqAt.RcAt.tuples (A:=A) (s:=s) (e:=eAt xs ys) p1 p2 hN fun j j1 j2 => ?_
            · rw [l1,l2,Xe] at key
              exact SeqAt.EqAt.of_refs hab key
            · have j1':j < xs.length:=by rw [← l1];exact j1
              have j2':j < ys.length:=by rw [← l2];exact j2
              have e1:xs[j]?=some xs[j]:=by simp [j1']
              have e2:ys[j]?=some ys[j]:=by simp [j2']
              obtain ⟨v1,ev1,rp1⟩:=h3.get e1
              obtain ⟨v2,ev2,rp2⟩:=k3.get e2
              obtain ⟨w1,ew1,rw1⟩:=rv.get ev1
              obtain ⟨w2,ew2,rw2⟩:=ru.get ev2
              have q1:its.toArray[j]=w1:=by simpa using (List.getElem?_eq_some_iff.mp ew1).2
              have q2:its2.toArray[j]=w2:=by simpa using (List.getElem?_eq_some_iff.mp ew2).2
              have e3:eAt xs ys j=peq xs[j] ys[j]:=by unfold eAt;rw [e1,e2]
              rw [q1,q2,e3]
              exact ih A.in1 _ _ v1 v2 w1 w2 (Nat.le_trans (XF e1) hdx) (by omega) (by have:=XF e2;unfold dep at hdq;omega) (by show A.units + 1 + n < cLine;omega) rp1 rp2 rw1 rw2
      | lst xs =>
        unfold Rep at hp
        obtain ⟨a,vs,rfl,h2,h3⟩:=hp
        cases rx
        have hdx:depL xs≤n:=by unfold dep at hd;omega
        obtain ⟨its,rv,p1,z1⟩:=I.list (hF.seq h2)
        cases q with
        | obj D ls qs=>unfold dep at hdq;omega
        | opq b=>unfold dep at hdq;omega
        | dct b=>unfold dep at hdq;omega
        | dcw b=>unfold dep at hdq;omega
        | non=>unfold Rep at hq;subst hq;cases ry;exact SeqAt.EqAt.list_none p1.isList hN
        | bl b=>unfold Rep at hq;subst hq;cases ry;exact SeqAt.EqAt.list_bool b p1.isList hN
        | int b=>unfold Rep at hq;subst hq;obtain ⟨t,rfl⟩:=ry;exact SeqAt.EqAt.list_int b t p1.isList hN
        | str b=>unfold Rep at hq;subst hq;obtain ⟨t,rfl⟩:=ry;exact SeqAt.EqAt.list_str b t p1.isList hN
        | tup ys =>
          unfold Rep at hq;obtain ⟨b,us,rfl,k2,k3⟩:=hq;cases ry
          obtain ⟨its2,_,p2,_⟩:=I.tuple (hF.seqT k2)
          exact SeqAt.EqAt.list_tuple p1.isList p2 hN
        | lst ys =>
          unfold Rep at hq;obtain ⟨b,us,rfl,k2,k3⟩:=hq;cases ry
          obtain ⟨its2,ru,p2,z2⟩:=I.list (hF.seq k2)
          change SeqAt.EqAt _ _ _ _ (peqL xs ys)
          by_cases hab:a=b
          · subst hab
            have e:=I.list_inj (hF.seq h2) (hF.seq k2)
            subst e
            rw [RepL.inj I hF (by omega) (by unfold dep at hdq;omega) h3 k3,YA]
            exact SeqAt.EqAt.same _
          · have l1:its.toArray.size=xs.length:=by rw [List.size_toArray,← rv.length,h3.length]
            have l2:its2.toArray.size=ys.length:=by rw [List.size_toArray,← ru.length,k3.length]
            by_cases hl:xs.length=ys.length
            · have key:=SeqAt.RcAt.lists (A:=A) (s:=s) (e:=eAt xs ys) p1.isList p2.isList (by rw [l1,l2,hl]) hN fun j j1 j2 => ?_
              · have e5:=Xe xs ys
                rw [← hl,Nat.min_self,beq_self_eq_true,Bool.and_true] at e5
                rw [l1,e5] at key
                exact SeqAt.EqAt.of_refs hab key
              · have j1':j < xs.length:=by rw [← l1];exact j1
                have j2':j < ys.length:=by rw [← l2];exact j2
                have e1:xs[j]?=some xs[j]:=by simp [j1']
                have e2:ys[j]?=some ys[j]:=by simp [j2']
                obtain ⟨v1,ev1,rp1⟩:=h3.get e1
                obtain ⟨v2,ev2,rp2⟩:=k3.get e2
                obtain ⟨w1,ew1,rw1⟩:=rv.get ev1
                obtain ⟨w2,ew2,rw2⟩:=ru.get ev2
                have q1:its.toArray[j]=w1:=by simpa using (List.getElem?_eq_some_iff.mp ew1).2
                have q2:its2.toArray[j]=w2:=by simpa using (List.getElem?_eq_some_iff.mp ew2).2
                have e3:eAt xs ys j=peq xs[j] ys[j]:=by unfold eAt;rw [e1,e2]
                rw [q1,q2,e3]
                exact ih A.in1 _ _ v1 v2 w1 w2 (Nat.le_trans (XF e1) hdx) (by omega) (by have:=XF e2;unfold dep at hdq;omega) (by show A.units + 1 + n < cLine;omega) rp1 rp2 rw1 rw2
            · have e5:=Xe xs ys
              rw [(beq_eq_false_iff_ne (a:=xs.length) (b:=ys.length)).mpr hl,Bool.and_false] at e5
              rw [← e5]
              exact SeqAt.EqAt.of_refs hab (SeqAt.RcAt.lists_lengths p1.isList p2.isList (by rw [l1,l2];simpa using hl) hN)
      | obj C ks ps=>unfold dep at hd;omega
      | opq b=>unfold dep at hd;omega
      | dct b=>unfold dep at hd;omega
      | dcw b=>unfold dep at hd;omega
      | _=>unfold dep at hd0;omega

mutual
noncomputable def toD:PV→PyData
  | .non => .none
  | .bl b => .bool b
  | .int i => .int i
  | .str x => .str x
  | .tup xs => .tuple (toDL xs)
  | .lst xs => .list (toDL xs)
  | .obj _ _ _ => .none
  | .opq _ => .none
  | .dct _ => .none
  | .dcw _ => .none
noncomputable def toDL:List PV→List PyData
  | []=>[]
  | x :: xs=>toD x :: toDL xs
end
mutual
noncomputable def okS:PV→Bool
  | .str x=>PyData.strOk x
  | .tup xs=>okSL xs
  | .lst xs=>okSL xs
  | _=>true
noncomputable def okSL:List PV→Bool
  | []=>true
  | x :: xs=>okS x&&okSL xs
end
noncomputable def okv (p:PV):Bool:=decide (dep p≤50)&&okS p
mutual
theorem QbW:∀ p:PV,okS p=true→(toD p).canLay0=true
  | .non,_=>by simp [toD,PyData.canLay0]
  | .bl _,_=>by simp [toD,PyData.canLay0]
  | .int _,_=>by simp [toD,PyData.canLay0]
  | .str x,h=>by simpa [toD,PyData.canLay0,okS] using h
  | .tup xs,h=>by
    unfold toD PyData.canLay0
    exact XB xs (by simpa [okS] using h)
  | .lst xs,h=>by
    unfold toD PyData.canLay0
    exact XB xs (by simpa [okS] using h)
  | .obj _ _ _,_=>by simp [toD,PyData.canLay0]
  | .opq _,_=>by simp [toD,PyData.canLay0]
  | .dct _,_=>by simp [toD,PyData.canLay0]
  | .dcw _,_=>by simp [toD,PyData.canLay0]
theorem XB:∀ xs:List PV,okSL xs=true→PyData.canLayAll0 (toDL xs)=true
  | [],_=>by simp [toDL,PyData.canLayAll0]
  | x :: xs,h=>by
    unfold okSL at h
    rw [Bool.and_eq_true] at h
    unfold toDL PyData.canLayAll0
    rw [QbW x h.1,XB xs h.2]
    rfl
end
mutual
theorem Qdl:∀ p:PV,(toD p).depth≤dep p + 1
  | .non=>by simp [toD,PyData.depth]
  | .bl _=>by simp [toD,PyData.depth]
  | .int _=>by simp [toD,PyData.depth]
  | .str x=>by simp [toD,PyData.depth]
  | .tup xs=>by
    have:=Qae xs
    simp only [toD,PyData.depth,dep]
    omega
  | .lst xs=>by
    have:=Qae xs
    simp only [toD,PyData.depth,dep]
    omega
  | .obj _ _ _=>by simp [toD,PyData.depth]
  | .opq _=>by simp [toD,PyData.depth]
  | .dct _=>by simp [toD,PyData.depth]
  | .dcw _=>by simp [toD,PyData.depth]
theorem Qae:∀ xs:List PV,PyData.depthAll (toDL xs)≤depL xs + 1
  | []=>by simp [toDL,PyData.depthAll]
  | x :: xs=>by
    have h1:=Qdl x
    have h2:=Qae xs
    simp only [toDL,PyData.depthAll,depL]
    omega
end
theorem Xd {p:PV} (h:okv p=true):SeqAt.shaped (toD p)=true:=by
  unfold okv at h
  rw [Bool.and_eq_true,decide_eq_true_iff] at h
  have h1:=Qdl p
  unfold SeqAt.shaped
  rw [QbW p h.2,Bool.true_and,decide_eq_true_iff]
  omega
mutual
theorem QdO:∀ p q:PV,dep p < 1000→dep q < 1000→PyData.eqv (toD p) (toD q)=peq p q
  | .non,q,_,hq=>by cases q <;> first | (rfl;done) | (exfalso;unfold dep at hq;omega)
  | .bl _,q,_,hq=>by cases q <;> first | (rfl;done) | (exfalso;unfold dep at hq;omega)
  | .int _,q,_,hq=>by cases q <;> first | (rfl;done) | (exfalso;unfold dep at hq;omega)
  | .str _,q,_,hq=>by cases q <;> first | (rfl;done) | (exfalso;unfold dep at hq;omega)
  | .tup xs,q,hp,hq=>by
    cases q with
    | tup ys=>exact Qcs xs ys (by unfold dep at hp;omega) (by unfold dep at hq;omega)
    | obj=>exfalso;unfold dep at hq;omega
    | opq=>exfalso;unfold dep at hq;omega
    | dct=>exfalso;unfold dep at hq;omega
    | dcw=>exfalso;unfold dep at hq;omega
    | _=>rfl
  | .lst xs,q,hp,hq=>by
    cases q with
    | lst ys=>exact Qcs xs ys (by unfold dep at hp;omega) (by unfold dep at hq;omega)
    | obj=>exfalso;unfold dep at hq;omega
    | opq=>exfalso;unfold dep at hq;omega
    | dct=>exfalso;unfold dep at hq;omega
    | dcw=>exfalso;unfold dep at hq;omega
    | _=>rfl
  | .obj _ _ _,q,hp,_=>by exfalso;unfold dep at hp;omega
  | .opq _,q,hp,_=>by exfalso;unfold dep at hp;omega
  | .dct _,q,hp,_=>by exfalso;unfold dep at hp;omega
  | .dcw _,q,hp,_=>by exfalso;unfold dep at hp;omega
theorem Qcs:∀ xs ys:List PV,depL xs < 1000→depL ys < 1000→PyData.eqvAll (toDL xs) (toDL ys)=peqL xs ys
  | [],[],_,_=>rfl
  | [],_ :: _,_,_=>rfl
  | _ :: _,[],_,_=>rfl
  | x :: xs,y :: ys,h1,h2=>by
    show (PyData.eqv (toD x) (toD y)&&PyData.eqvAll (toDL xs) (toDL ys))=(peq x y&&peqL xs ys)
    unfold depL at h1 h2
    rw [QdO x y (by omega) (by omega),Qcs xs ys (by omega) (by omega)]
end
mutual
theorem Rep.reads (I:Inv X pins σ H s) (hF:Same F H):∀ {p:PV} {v:V} {u:Value},dep p < 1000→Rep X.K F p v→RelV v u→∃ as,Reads s.heap u (toD p) as
  | .non,v,u,_,h,r=>by unfold Rep at h;subst h;cases r;exact ⟨_,by unfold toD;exact .none⟩
  | .bl b,v,u,_,h,r=>by unfold Rep at h;subst h;cases r;exact ⟨_,by unfold toD;exact .bool b⟩
  | .int b,v,u,_,h,r=>by unfold Rep at h;subst h;obtain ⟨t,rfl⟩:=r;exact ⟨_,by unfold toD;exact .int b t⟩
  | .str b,v,u,_,h,r=>by unfold Rep at h;subst h;obtain ⟨t,rfl⟩:=r;exact ⟨_,by unfold toD;exact .str b t⟩
  | .tup xs,v,u,hd',h,r=>by
    unfold Rep at h
    obtain ⟨a,vs,rfl,h2,h3⟩:=h
    cases r
    obtain ⟨its,rv,⟨o,ho,hc,n,hd⟩,_⟩:=I.tuple (hF.seqT h2)
    obtain ⟨as,ra⟩:=RepL.reads I hF (by unfold dep at hd';omega) h3 rv
    unfold toD
    exact ⟨_,.tuple ho hc hd (by simpa using ra)⟩
  | .lst xs,v,u,hd',h,r=>by
    unfold Rep at h
    obtain ⟨a,vs,rfl,h2,h3⟩:=h
    cases r
    obtain ⟨its,rv,⟨o,n,ho,hc,_,hd⟩,_⟩:=I.list (hF.seq h2)
    obtain ⟨as,ra⟩:=RepL.reads I hF (by unfold dep at hd';omega) h3 rv
    unfold toD
    exact ⟨_,.list ho hc hd (by simpa using ra)⟩
  | .obj _ _ _,v,u,hd',_,_=>by exfalso;unfold dep at hd';omega
  | .opq _,v,u,hd',_,_=>by exfalso;unfold dep at hd';omega
  | .dct _,v,u,hd',_,_=>by exfalso;unfold dep at hd';omega
  | .dcw _,v,u,hd',_,_=>by exfalso;unfold dep at hd';omega
theorem RepL.reads (I:Inv X pins σ H s) (hF:Same F H):∀ {ps:List PV} {vs:List V} {us:List Value},depL ps < 1000→RepL X.K F ps vs→Vals vs us→∃ as,ReadsAll s.heap us (toDL ps) as
  | [],vs,us,_,h,r=>by
    unfold RepL at h;subst h;cases r
    exact ⟨[],by unfold toDL;exact .nil⟩
  | p :: ps,vs,us,hd',h,r=>by
    unfold depL at hd'
    unfold RepL at h
    obtain ⟨v,t,rfl,h2,h3⟩:=h
    cases r with
    | cons r1 r2 =>
      obtain ⟨a1,q1⟩:=Rep.reads I hF (by omega) h2 r1
      obtain ⟨a2,q2⟩:=RepL.reads I hF (by omega) h3 r2
      unfold toDL
      exact ⟨_,.cons q1 q2⟩
end
theorem Xu {p:PV} (h:okv p=true):dep p < 1000:=by
  unfold okv at h
  rw [Bool.and_eq_true,decide_eq_true_iff] at h
  omega
noncomputable def pEq (p q:PV):Option PV:=if okv p=true∧okv q=true then some (.bl (peq p q)) else none
noncomputable def pNe (p q:PV):Option PV:=if okv p=true∧okv q=true then some (.bl (!peq p q)) else none
theorem ZJ (hu:X.A.units + 64 < cLine):OpM X (compareOp .Eq) pEq:=by
  intro pins s σ H x y v u Q I rx ry h
  obtain ⟨F,p,q,r,h1,h2,h3,h4,w⟩:=h
  obtain ⟨⟨c1,c2⟩,rfl⟩:=QC h4
  obtain ⟨as,ra⟩:=Rep.reads I h1 (Xu c1) h2 rx
  obtain ⟨bs,rb⟩:=Rep.reads I h1 (Xu c2) h3 ry
  refine eq_dataH ra rb (Xd c1) (Xd c2) hu ?_
  rw [QdO _ _ (Xu c1) (Xu c2)]
  exact ⟨.bl _,H,I,rfl,w.here h1 (ZQ _)⟩
theorem Qal (hu:X.A.units + 64 < cLine):OpM X (compareOp .NotEq) pNe:=by
  intro pins s σ H x y v u Q I rx ry h
  obtain ⟨F,p,q,r,h1,h2,h3,h4,w⟩:=h
  obtain ⟨⟨c1,c2⟩,rfl⟩:=QC h4
  obtain ⟨as,ra⟩:=Rep.reads I h1 (Xu c1) h2 rx
  obtain ⟨bs,rb⟩:=Rep.reads I h1 (Xu c2) h3 ry
  refine ne_dataH ra rb (Xd c1) (Xd c2) hu ?_
  rw [QdO _ _ (Xu c1) (Xu c2)]
  exact ⟨.bl _,H,I,rfl,w.here h1 (ZQ _)⟩
end
end L2.PM

noncomputable section
namespace L2.PM
open PySem PySem.Spec PyProof.Rows

section
variable {X:Cx} {e a b c:Expr} {es:List Expr} {ms ns ls:List Nat} {m m1 m2 m3:MEx} {pos:Pos}
theorem QgB:∀ {its:List Value} {xs:List PV} (f:PV→Bool),its.length=xs.length→∀ g:Value→Bool,(∀ (j:Nat) (u:Value) (p:PV),its[j]?=some u→xs[j]?=some p→g u=f p)→its.any g=xs.any f
  | [],[],_,_,_,_=>rfl
  | [],_ :: _,_,h,_,_=>by simp at h
  | _ :: _,[],_,h,_,_=>by simp at h
  | u :: us,p :: ps,f,h,g,k=>by
    rw [List.any_cons,List.any_cons,k 0 u p rfl rfl,QgB f (by simpa using h) g fun j u p h1 h2=>k (j + 1) u p (by simpa using h1) (by simpa using h2)]
open Classical in
noncomputable def gOf (its:List Value) (xs:List PV) (x:PV) (u:Value):Bool:=if h:∃ (j:Nat) (p:PV),its[j]?=some u∧xs[j]?=some p then peq (Classical.choose (Classical.choose_spec h)) x else false
noncomputable def pIn:PV→PV→Option PV
  | x,.lst xs=>if okv x=true∧xs.all okv=true then some (.bl (xs.any fun y=>peq y x)) else none
  | x,.tup xs=>if okv x=true∧xs.all okv=true then some (.bl (xs.any fun y=>peq y x)) else none
  | _,_=>none
theorem okv_dep {p:PV} (h:okv p=true):dep p≤50:=by
  unfold okv at h
  rw [Bool.and_eq_true,decide_eq_true_iff] at h
  exact h.1
theorem mem_eq {pins:List (Addr×Obj)} {σ:St} {H F:Hp} {s:Shared} {A:Around} (I:Inv X pins σ H s) (hF:Same F H) (hu:A.units + 60 < cLine) {x:PV} {xv:V} {xu:Value} {xs:List PV} {vs:List V} {its:List Value}
    (ok:xs.all okv=true) (okx:okv x=true) (hx:Rep X.K F x xv) (rx:RelV xv xu) (hxs:RepL X.K F xs vs) (rv:Vals vs its) :
    (∀ u∈its,SeqAt.EqAt A s u xu (gOf its xs x u))∧its.any (gOf its xs x)=xs.any fun y=>peq y x:=by
  have len:its.length=xs.length:=by rw [← rv.length,hxs.length]
  have inj:∀ (j k:Nat) (u:Value) (p q:PV),its[j]?=some u→xs[j]?=some p→its[k]?=some u→xs[k]?=some q→p=q:=fun j k u p q h1 h2 h3 h4=>by
    obtain ⟨v1,e1,r1⟩:=hxs.get h2
    obtain ⟨v2,e2,r2⟩:=hxs.get h4
    obtain ⟨w1,f1,t1⟩:=rv.get e1
    obtain ⟨w2,f2,t2⟩:=rv.get e2
    rw [h1] at f1;rw [h3] at f2
    cases f1;cases f2
    have ev:=t1.inj t2
    subst ev
    have hd:∀ (j:Nat) (p:PV),xs[j]?=some p→dep p < 1000:=fun j p h=>by
      have z:=List.all_eq_true.mp ok p (List.mem_of_getElem? h)
      unfold okv at z
      rw [Bool.and_eq_true,decide_eq_true_iff] at z
      omega
    exact Rep.inj I hF (hd _ _ h2) (hd _ _ h4) r1 r2
  have val:∀ (j:Nat) (u:Value) (p:PV),its[j]?=some u→xs[j]?=some p→gOf its xs x u=peq p x:=fun j u p h1 h2=>by
    have h:∃ (j:Nat) (p:PV),its[j]?=some u∧xs[j]?=some p:=⟨j,p,h1,h2⟩
    unfold gOf
    rw [dif_pos h]
    have hs:=Classical.choose_spec (Classical.choose_spec h)
    rw [inj _ _ u _ _ hs.1 hs.2 h1 h2]
  refine ⟨fun u hu' => ?_,QgB (fun y=>peq y x) len _ fun j u p h1 h2=>val j u p h1 h2⟩
  obtain ⟨j,hj⟩:=List.mem_iff_getElem?.mp hu'
  have hjl:j < xs.length:=by rw [← len];exact (List.getElem?_eq_some_iff.mp hj).1
  have e1:xs[j]?=some xs[j]:=by simp [hjl]
  rw [val j u _ hj e1]
  obtain ⟨v1,f1,r1⟩:=hxs.get e1
  obtain ⟨w1,g1,t1⟩:=rv.get f1
  rw [hj] at g1;cases g1
  have okj:okv xs[j]=true:=List.all_eq_true.mp ok _ (List.getElem_mem hjl)
  exact eqAt_rep I hF 50 A _ _ v1 xv _ _ (okv_dep okj) (by omega) (Xu okx) (by omega) r1 hx t1 rx
theorem pIn_get {x y r:PV} (h:pIn x y=some r):∃ xs,(y = .lst xs∨y = .tup xs)∧okv x=true∧xs.all okv=true∧r = .bl (xs.any fun y=>peq y x):=by
  cases y with
  | lst xs =>
    have h:(if okv x=true∧xs.all okv=true then some (PV.bl (xs.any fun y=>peq y x)) else none)=some r:=h
    obtain ⟨⟨c1,c2⟩,rfl⟩:=QC h
    exact ⟨xs,.inl rfl,c1,c2,rfl⟩
  | tup xs =>
    have h:(if okv x=true∧xs.all okv=true then some (PV.bl (xs.any fun y=>peq y x)) else none)=some r:=h
    obtain ⟨⟨c1,c2⟩,rfl⟩:=QC h
    exact ⟨xs,.inr rfl,c1,c2,rfl⟩
  | _=>cases h
theorem om_in (hu:X.A.units + 64 < cLine):OpM X (compareOp .In) pIn:=by
  intro pins s σ H x y v u Q I rx ry h
  obtain ⟨F,p,q,r,h1,h2,h3,h4,w⟩:=h
  obtain ⟨xs,hk,c1,c2,rfl⟩:=pIn_get h4
  have hu1:X.A.in1.units + 60 < cLine:=by show X.A.units + 1 + 60 < cLine;omega
  rcases hk with rfl | rfl
  · unfold Rep at h3
    obtain ⟨a,vs,rfl,k2,k3⟩:=h3
    cases ry
    obtain ⟨its,rv,pl,_⟩:=I.list (h1.seq k2)
    obtain ⟨he,hany⟩:=mem_eq (A:=X.A.in1) I h1 hu1 c2 c1 h2 rx k3 rv
    refine SeqAt.in_listAt (gOf its xs p) pl.isList (fun y hy=>he y (by simpa using hy)) ⟨.bl _,H,I,rfl,?_⟩
    rw [show its.toArray.any (gOf its xs p)=its.any (gOf its xs p) by simp,hany]
    exact w.here h1 (ZQ _)
  · unfold Rep at h3
    obtain ⟨a,vs,rfl,k2,k3⟩:=h3
    cases ry
    obtain ⟨its,rv,pl,_⟩:=I.tuple (h1.seqT k2)
    obtain ⟨he,hany⟩:=mem_eq (A:=X.A.in1) I h1 hu1 c2 c1 h2 rx k3 rv
    refine SeqAt.in_tupleAt (gOf its xs p) pl (fun y hy=>he y (by simpa using hy)) ⟨.bl _,H,I,rfl,?_⟩
    rw [show its.toArray.any (gOf its xs p)=its.any (gOf its xs p) by simp,hany]
    exact w.here h1 (ZQ _)
noncomputable def isN:PV→Bool
  | .non=>true
  | _=>false
noncomputable def pIx:PV→PV→Option PV
  | .lst xs,.int i=>atI xs i
  | .tup xs,.int i=>atI xs i
  | .str z,.int i=>if z.length≤LIM then (atI z.cps.toList i).map fun c => .str ⟨#[c]⟩ else none
  | _,_=>none
theorem Qgz {K:PySem.W.Frag} {F:Hp} {xs:List PV} {vs:List V} {i:Int} {r:PV} (h:RepL K F xs vs) (e:atI xs i=some r):∃ v,atI vs i=some v∧Rep K F r v:=by
  unfold atI at e ⊢
  rw [h.length]
  cases q:ixN xs.length i with
  | none=>rw [q] at e;cases e
  | some j =>
    rw [q] at e
    exact h.get e
theorem Qr:IxR X (rM2 X.K pIx):=by
  intro value slice pins s σ H x y v u Q I rx ry h hs
  obtain ⟨F,p,q,r,h1,h2,h3,h4,w⟩:=h
  cases p <;> cases q <;> first
    | (exfalso;cases h4;done)
    | skip
  · rename_i z i
    have h4:(if z.length≤LIM then (atI z.cps.toList i).map fun c=>PV.str ⟨#[c]⟩ else none)=some r:=h4
    by_cases c:z.length≤LIM
    · rw [if_pos c] at h4
      cases e:atI z.cps.toList i with
      | none=>rw [e] at h4;cases h4
      | some k =>
        rw [e] at h4
        cases h4
        unfold Rep at h2 h3
        exact ix_str value slice pins s σ H x y v u Q I rx ry ⟨z,i,k,h2,h3,Nat.le_trans c ZI,e,w.here h1 (XQ _)⟩ hs
    · rw [if_neg c] at h4;cases h4
  · rename_i xs i
    have h4:atI xs i=some r:=h4
    unfold Rep at h2 h3
    obtain ⟨a,vs,rfl,k2,k3⟩:=h2
    obtain ⟨rv,e1,e2⟩:=Qgz k3 h4
    exact ix_tup value slice pins s σ H _ y v u Q I rx ry ⟨a,vs,i,rv,rfl,h3,h1.seqT k2,e1,w.here h1 e2⟩ hs
  · rename_i xs i
    have h4:atI xs i=some r:=h4
    unfold Rep at h2 h3
    obtain ⟨a,vs,rfl,k2,k3⟩:=h2
    obtain ⟨rv,e1,e2⟩:=Qgz k3 h4
    exact ix_list value slice pins s σ H _ y v u Q I rx ry ⟨a,vs,i,rv,rfl,h3,h1.seq k2,e1,w.here h1 e2⟩ hs
end
end L2.PM

noncomputable section
namespace L2.PM
open PySem PySem.Spec PyProof.Rows

section
variable {X:Cx} {e a b c:Expr} {es:List Expr} {ms ns ls:List Nat} {m m1 m2 m3:MEx} {pos p2:Pos}

theorem Qg {α β:Type} {x:Option α} {f:α→Option β} {r:β} (h:x.bind f=some r):∃ y,x=some y∧f y=some r:=by
  cases x with
  | none=>cases h
  | some y=>exact ⟨y,rfl,h⟩
theorem QZ {α β:Type} {x:Option α} {f:α→β} {r:β} (h:x.map f=some r):∃ y,x=some y∧f y=r:=by
  cases x with
  | none=>cases h
  | some y=>exact ⟨y,rfl,Option.some.inj h⟩

noncomputable def OM (X:Cx) (ms:List Nat) (e:Option Expr) (m:PEnv→Option (Option Int)):Prop :=
  PO X e fun σ H Q=>∃ F γ r,Same F H∧ERep X.K F σ γ ms∧m γ=some r∧∀ H' F',Grow F H F' H'→Q r H'
noncomputable def mNo:PEnv→Option (Option Int):=fun _=>some none
noncomputable def pInt:PV→Option (Option Int)
  | .int i=>some (some i)
  | _=>none
noncomputable def mSo (m:MEx):PEnv→Option (Option Int):=fun γ=>(m γ).bind pInt
theorem YS:OM X [] none mNo:=fun pins s σ H Q I ⟨F,γ,r,h1,h2,h3,w⟩=>po_none pins s σ H Q I (by
  cases h3
  exact w H F (.refl h1))
theorem YR (h:EM X ms e m):OM X ms (some e) (mSo m):=fun pins s σ H Q I ⟨F,γ,r,h1,h2,h3,w⟩=>po_some h pins s σ H Q I (by
  obtain ⟨p,e1,e2⟩:=Qg h3
  refine ⟨F,γ,p,h1,h2,e1,fun v H' F' g q => ?_⟩
  cases p with
  | int i =>
    unfold Rep at q
    cases e2
    exact ⟨i,q,w H' F' g⟩
  | _=>cases e2)
noncomputable def cutP (xs:List α) (lo hi:Option Int):List α:=(xs.drop (HT.sIx xs.length 0 lo)).take (HT.sIx xs.length xs.length hi - HT.sIx xs.length 0 lo)
noncomputable def pCut:PV→Option Int→Option Int→Option (List PV)
  | .lst xs,lo,hi=>some (cutP xs lo hi)
  | _,_,_=>none
noncomputable def sl3 (f:PV→Option Int→Option Int→Option α) (m:MEx) (ml mh:PEnv→Option (Option Int)):PEnv→Option α:=fun γ=>(m γ).bind fun x=>(ml γ).bind fun l=>(mh γ).bind fun h=>f x l h
variable {lo hi:Option Expr} {ml mh:PEnv→Option (Option Int)}
theorem QbE (he:EM X ms e m) (hl:OM X ns lo ml) (hh:OM X ls hi mh):EO X (ms++(ns++ls)) (.Subscript e (.Slice lo hi none p2) pos) (sl3 pCut m ml mh):=by
  refine PE.imp (QeD sl_list he hl hh) fun σ H Q ⟨F,γ,r,h1,h2,h3,w⟩ => ?_
  obtain ⟨x,e1,h3⟩:=Qg h3
  obtain ⟨l,e2,h3⟩:=Qg h3
  obtain ⟨h,e3,h3⟩:=Qg h3
  refine ⟨F,γ,x,h1,h2.left,e1,fun vx H1 F1 g1 r1=>⟨F1,γ,l,g1.sub,h2.right.left.mono g1.ext,e2,fun H2 F2 g2=>⟨F2,γ,h,g2.sub,h2.right.right.mono (g1.ext.trans g2.ext),e3,fun H3 F3 g3 => ?_⟩⟩⟩
  have g:=g1.trans (g2.trans g3)
  cases x with
  | lst xs =>
    cases h3
    unfold Rep at r1
    obtain ⟨a,vs,rfl,k2,k3⟩:=r1
    have gg:=g2.ext.trans g3.ext
    refine ⟨a,vs,rfl,g3.sub.seq (gg.seq k2),fun p hp => ?_⟩
    have nF:F3 p=none:=g3.sub.free hp
    refine w p _ _ F3 (g.trans (.side g3.sub hp)) (g.same.free hp) nF Qp ?_
    unfold cutV cutP
    rw [k3.length]
    exact ((k3.drop _).take _).mono gg
  | _=>cases h3
variable {t1 t2:PEnv→Option Bool} {rest:List Expr}
noncomputable def WM (X:Cx) (ms:List Nat) (e:Expr) (m:PEnv→Option Bool):Prop:=PW X e (tMT X.K ms m)
theorem WM.tm {e:Expr} (h:WM X ms e t1):TM X ms e t1:=PW.pt h
theorem _root_.L2.PW.imp {t t':TT} (h:PW X e t) (i:∀ σ H Q,t' σ H Q→t σ H Q):PW X e t':=fun whole pins s σ H Q I q=>h whole pins s σ H Q I (i σ H Q q)
theorem Xk (h:TM X ms a t1):WM X ms (.BoolOp .And [a] pos) t1:=pw_and1 h
theorem YW (h:TM X ms a t1):WM X ms (.BoolOp .Or [a] pos) t1:=pw_or1 h
noncomputable def bAnd (t1 t2:PEnv→Option Bool):PEnv→Option Bool:=fun γ=>(t1 γ).bind fun x=>if x=true then t2 γ else some false
noncomputable def bOr (t1 t2:PEnv→Option Bool):PEnv→Option Bool:=fun γ=>(t1 γ).bind fun x=>if x=true then some true else t2 γ
noncomputable def bNot (t1:PEnv→Option Bool):PEnv→Option Bool:=fun γ=>(t1 γ).map not
theorem Xt (h1:TM X ms a t1) (h2:WM X ns (.BoolOp .And (b :: rest) pos) t2):WM X (ms++ns) (.BoolOp .And (a :: b :: rest) pos) (bAnd t1 t2) :=
  PW.imp (pw_and h1 h2) fun σ H Q ⟨F,γ,r,k1,k2,k3,w⟩=>by
    obtain ⟨x,e1,k3⟩:=Qg k3
    refine ⟨F,γ,x,k1,k2.left,e1,fun H1 F1 g1 => ?_⟩
    cases x with
    | true =>
      rw [if_pos rfl] at k3 ⊢
      exact ⟨F1,γ,r,g1.sub,k2.right.mono g1.ext,k3,fun H2 F2 g2=>w H2 F2 (g1.trans g2)⟩
    | false =>
      rw [if_neg Bool.false_ne_true] at k3 ⊢
      cases k3
      exact w H1 F1 g1
theorem XM (h1:TM X ms a t1) (h2:WM X ns (.BoolOp .Or (b :: rest) pos) t2):WM X (ms++ns) (.BoolOp .Or (a :: b :: rest) pos) (bOr t1 t2) :=
  PW.imp (pw_or h1 h2) fun σ H Q ⟨F,γ,r,k1,k2,k3,w⟩=>by
    obtain ⟨x,e1,k3⟩:=Qg k3
    refine ⟨F,γ,x,k1,k2.left,e1,fun H1 F1 g1 => ?_⟩
    cases x with
    | false =>
      rw [if_neg Bool.false_ne_true] at k3 ⊢
      exact ⟨F1,γ,r,g1.sub,k2.right.mono g1.ext,k3,fun H2 F2 g2=>w H2 F2 (g1.trans g2)⟩
    | true =>
      rw [if_pos rfl] at k3 ⊢
      cases k3
      exact w H1 F1 g1
theorem Yi (h:TM X ms a t1):TM X ms (.UnaryOp .Not a pos) (bNot t1) :=
  PT.imp (pt_not h) fun σ H Q ⟨F,γ,r,k1,k2,k3,w⟩=>by
    obtain ⟨x,e1,k3⟩:=QZ k3
    subst k3
    exact ⟨F,γ,x,k1,k2,e1,w⟩
noncomputable def tru:PV→Option Bool
  | .non=>some false
  | .bl b=>some b
  | .int i=>some (i != 0)
  | .str y=>if y.length≤LIM then some ((y.length:Int) != 0) else none
  | .tup xs=>some (!xs.isEmpty)
  | .lst xs=>some (!xs.isEmpty)
  | .obj _ _ _=>none
  | .opq _=>none
  | .dct _=>none
  | .dcw _=>none
noncomputable def mTru (m:MEx):PEnv→Option Bool:=fun γ=>(m γ).bind tru
theorem Qbj {K:PySem.W.Frag} {F:Hp} {xs:List PV} {vs:List V} (h:RepL K F xs vs):vs.isEmpty=xs.isEmpty:=by
  have:=h.length
  cases vs <;> cases xs <;> simp_all
theorem tru_rep {K:PySem.W.Frag} {F H:Hp} {p:PV} {v:V} {k:Bool} (hs:Same F H) (h:Rep K F p v) (e:tru p=some k):TruV K v H k:=by
  cases p <;> unfold Rep at h
  · subst h;cases e;rfl
  · subst h;cases e;rfl
  · subst h;cases e;rfl
  · subst h
    rename_i y
    have e:(if y.length≤LIM then some ((y.length:Int) != 0) else none)=some k:=e
    obtain ⟨c,rfl⟩:=QC e
    exact ⟨Nat.le_trans c ZI,rfl⟩
  · obtain ⟨a,vs,rfl,k2,k3⟩:=h
    cases e
    exact .inr (.inl ⟨vs,hs.seqT k2,by rw [Qbj k3]⟩)
  · obtain ⟨a,vs,rfl,k2,k3⟩:=h
    cases e
    exact .inl ⟨vs,hs.seq k2,by rw [Qbj k3]⟩
  · cases e
  · cases e
  · cases e
  · cases e

theorem Zc (h:EM X ms e m) (he:∀ whole,isTrue e X.env whole=(do let v ← whole;standAt e.pos;holding [v] (truthy v)):=by intro _;rfl):TM X ms e (mTru m) :=
  PT.imp (pt_truth h he) fun σ H Q ⟨F,γ,r,k1,k2,k3,w⟩=>by
    obtain ⟨p,e1,e2⟩:=Qg k3
    exact ⟨F,γ,p,k1,k2,e1,fun v H' F' g q=>⟨r,tru_rep g.sub q e2,w H' F' g⟩⟩
noncomputable def vAnd (m1 m2:MEx):MEx:=fun γ=>(m1 γ).bind fun x=>(isB x).bind fun k=>if k=true then m2 γ else some (.bl false)
noncomputable def vOr (m1 m2:MEx):MEx:=fun γ=>(m1 γ).bind fun x=>(isB x).bind fun k=>if k=true then some (.bl true) else m2 γ
noncomputable def vNot (m1:MEx):MEx:=fun γ=>(m1 γ).bind fun x=>(isB x).map fun k => .bl (!k)
theorem Qce {K:PySem.W.Frag} {F:Hp} {p:PV} {v:V} {k:Bool} (h:Rep K F p v) (e:isB p=some k):v = .bl k:=by
  cases p with
  | bl b=>unfold Rep at h;cases e;exact h
  | _=>cases e
theorem QbF {op} (h:EM X ms a m):EM X ms (.BoolOp op [a] pos) m:=pe_one h
theorem QcR (h1:EM X ms a m1) (h2:EM X ns (.BoolOp .And (b :: rest) pos) m2):EM X (ms++ns) (.BoolOp .And (a :: b :: rest) pos) (vAnd m1 m2) :=
  PE.imp (pe_and h1 h2) fun σ H Q ⟨F,γ,r,k1,k2,k3,w⟩=>by
    obtain ⟨x,e1,k3⟩:=Qg k3
    obtain ⟨k,e2,k3⟩:=Qg k3
    refine ⟨F,γ,x,k1,k2.left,e1,fun v H1 F1 g1 q=>⟨k,Qce q e2,?_⟩⟩
    cases k with
    | true =>
      rw [if_pos rfl] at k3 ⊢
      exact ⟨F1,γ,r,g1.sub,k2.right.mono g1.ext,k3,w.go g1⟩
    | false =>
      rw [if_neg Bool.false_ne_true] at k3 ⊢
      cases k3
      exact (w.go g1).here g1.sub (ZQ _)
theorem em_or (h1:EM X ms a m1) (h2:EM X ns (.BoolOp .Or (b :: rest) pos) m2):EM X (ms++ns) (.BoolOp .Or (a :: b :: rest) pos) (vOr m1 m2) :=
  PE.imp (pe_or h1 h2) fun σ H Q ⟨F,γ,r,k1,k2,k3,w⟩=>by
    obtain ⟨x,e1,k3⟩:=Qg k3
    obtain ⟨k,e2,k3⟩:=Qg k3
    refine ⟨F,γ,x,k1,k2.left,e1,fun v H1 F1 g1 q=>⟨k,Qce q e2,?_⟩⟩
    cases k with
    | false =>
      rw [if_neg Bool.false_ne_true] at k3 ⊢
      exact ⟨F1,γ,r,g1.sub,k2.right.mono g1.ext,k3,w.go g1⟩
    | true =>
      rw [if_pos rfl] at k3 ⊢
      cases k3
      exact (w.go g1).here g1.sub (ZQ _)
theorem em_not (h1:EM X ms a m1):EM X ms (.UnaryOp .Not a pos) (vNot m1) :=
  PE.imp (pe_not h1) fun σ H Q ⟨F,γ,r,k1,k2,k3,w⟩=>by
    obtain ⟨x,e1,k3⟩:=Qg k3
    obtain ⟨k,e2,k3⟩:=QZ k3
    subst k3
    exact ⟨F,γ,x,k1,k2,e1,fun v H1 F1 g1 q=>⟨k,Qce q e2,(w.go g1).here g1.sub (ZQ _)⟩⟩
noncomputable def ch3 (f g:PV→PV→Option PV) (m1 m2 m3:MEx):MEx:=fun γ=>(m1 γ).bind fun x=>(m2 γ).bind fun y=>(f x y).bind fun z=>(isB z).bind fun k=>if k=true then (m3 γ).bind fun w=>g y w else some (.bl false)
theorem QcT {K:PySem.W.Frag} {f g:PV→PV→Option PV} {σ:St} {H:Hp} {Q:VK} (h:tM K (ms++(ns++ls)) (ch3 f g m1 m2 m3) σ H Q):QfI (rM2 K f) (rM2 K g) (tM K ms m1) (tM K ns m2) (tM K ls m3) σ H Q:=by
  obtain ⟨F,γ,r,h1,h2,h3,w⟩:=h
  obtain ⟨x,e1,h3⟩:=Qg h3
  obtain ⟨y,e2,h3⟩:=Qg h3
  obtain ⟨z,e3,h3⟩:=Qg h3
  obtain ⟨k,e4,h3⟩:=Qg h3
  refine ⟨F,γ,x,h1,h2.left,e1,fun vx H1 F1 g1 r1=>⟨F1,γ,y,g1.sub,h2.right.left.mono g1.ext,e2,fun vy H2 F2 g2 r2=>⟨F2,x,y,z,g2.sub,r1.mono g2.ext,r2,e3,fun vz H3 F3 g3 r3=>⟨k,Qce r3 e4,?_⟩⟩⟩⟩
  have gg:=g1.trans (g2.trans g3)
  cases k with
  | true =>
    rw [if_pos rfl] at h3 ⊢
    obtain ⟨u,e5,h3⟩:=Qg h3
    exact ⟨F3,γ,u,g3.sub,h2.right.right.mono gg.ext,e5,fun vw H4 F4 g4 r4=>⟨F4,y,u,r,g4.sub,r2.mono (g3.ext.trans g4.ext),r4,h3,w.go (gg.trans g4)⟩⟩
  | false =>
    rw [if_neg Bool.false_ne_true] at h3 ⊢
    cases h3
    exact (w.go gg).here gg.sub (ZQ _)
theorem QeP {op op':CmpOp} {f g:PV→PV→Option PV} (ho:OpM X (compareOp op) f) (ho':OpM X (compareOp op') g) (ha:EM X ms a m1) (hb:EM X ns b m2) (hc:EM X ls c m3)
    (hm:lastMarks [op,op'] [b,c]=false:=by with_unfolding_all rfl):EM X (ms++(ns++ls)) (.Compare a [op,op'] [b,c] pos) (ch3 f g m1 m2 m3) :=
  PE.imp (pe_chain ho ho' ha hb hc hm) fun _ _ _ h=>QcT h
theorem tm_chain {op op':CmpOp} {f g:PV→PV→Option PV} (ho:OpM X (compareOp op) f) (ho':OpM X (compareOp op') g) (ha:EM X ms a m1) (hb:EM X ns b m2) (hc:EM X ls c m3)
    (hm:lastMarks [op,op'] [b,c]=false:=by with_unfolding_all rfl):TM X (ms++(ns++ls)) (.Compare a [op,op'] [b,c] pos) (truB (ch3 f g m1 m2 m3)) :=
  PT.imp (pt_chain ho ho' ha hb hc hm) fun _ _ _ h=>Qet (fun _=>QcT) h
variable {ma:PEnv→Option (List PV)}
noncomputable def aNil:PEnv→Option (List PV):=fun _=>some []
noncomputable def Qc (m:MEx) (ma:PEnv→Option (List PV)):PEnv→Option (List PV):=fun γ=>(m γ).bind fun x=>(ma γ).map (x :: ·)
theorem Qh:AM X [] [] aNil:=PA.imp Qbz fun σ H Q ⟨F,γ,r,k1,k2,k3,w⟩=>by
  cases k3
  exact w [] H F (.refl k1) .nil
theorem Qb (h:EM X ms e m) (hr:AM X ns es ma) (hs:starEach (e :: es) X.env=(false,eval e X.env) :: starEach es X.env:=by rfl):AM X (ms++ns) (e :: es) (Qc m ma) :=
  PA.imp (ZX h hr hs) fun σ H Q ⟨F,γ,r,k1,k2,k3,w⟩=>by
    obtain ⟨x,e1,k3⟩:=Qg k3
    obtain ⟨xs,e2,k3⟩:=QZ k3
    subst k3
    refine ⟨F,γ,x,k1,k2.left,e1,fun v H1 F1 g1 q1=>⟨F1,γ,xs,g1.sub,k2.right.mono g1.ext,e2,fun vs H2 F2 g2 q2 => ?_⟩⟩
    exact w (v :: vs) H2 F2 (g1.trans g2) (.cons (q1.mono g2.ext) q2)
noncomputable def mLim (m:PEnv→Option (List PV)):PEnv→Option (List PV):=fun γ=>(m γ).bind fun xs=>if xs.length≤LIM then some xs else none
noncomputable def mTup (m:PEnv→Option (List PV)):MEx:=fun γ=>(m γ).bind fun xs=>if xs.length≤LIM then some (.tup xs) else none
theorem Yt {x1} (h:AM X ms es ma):EM X ms (.Tuple es x1 pos) (mTup ma) :=
  PE.imp (pe_tup h) fun σ H Q ⟨F,γ,r,k1,k2,k3,w⟩=>by
    obtain ⟨xs,e1,k3⟩:=Qg k3
    obtain ⟨c,rfl⟩:=QC k3
    refine ⟨F,γ,xs,k1,k2,e1,fun vs H1 F1 g1 q1=>⟨by rw [q1.length];exact Nat.le_trans c ZI,fun p hp => ?_⟩⟩
    refine w _ _ _ (g1.trans (.laid g1.sub hp)) ?_
    unfold Rep
    exact ⟨p,vs,rfl,.of Qp,q1.mono (Grow.laid g1.sub hp).ext⟩
theorem Ze (h:AM X ms es ma):EO X ms (.List es pos) (mLim ma) :=
  PE.imp (pe_lst h) fun σ H Q ⟨F,γ,r,k1,k2,k3,w⟩=>by
    obtain ⟨xs,e1,k3⟩:=Qg k3
    obtain ⟨c,rfl⟩:=QC k3
    refine ⟨F,γ,xs,k1,k2,e1,fun vs H1 F1 g1 q1=>⟨by rw [q1.length];exact Nat.le_trans c ZI,fun p hp => ?_⟩⟩
    exact w p vs _ F1 (g1.trans (.side g1.sub hp)) (g1.same.free hp) (g1.sub.free hp) Qp q1

noncomputable def rMA (K:PySem.W.Frag) (g:List PV→Option PV):List V→Hp→VK→Prop:=fun vs H Q=>∃ F ps r,Same F H∧RepL K F ps vs∧g ps=some r∧Wv K F H r Q
noncomputable def rMAO (K:PySem.W.Frag) (g:List PV→Option (List PV)):List V→Hp→VK→Prop:=fun vs H Q=>∃ F ps r,Same F H∧RepL K F ps vs∧g ps=some r∧Wo K F H r Q
noncomputable def QfG (X:Cx) (f:Value) (g:List PV→Option PV):Prop:=Xj X f (rMA X.K g)
noncomputable def Qo (g:List PV→Option α) (ma:PEnv→Option (List PV)):PEnv→Option α:=fun γ=>(ma γ).bind g
theorem tCB_of {K:PySem.W.Frag} {g:List PV→Option PV} {σ:St} {H:Hp} {Q:VK} (h:tM K ms (Qo g ma) σ H Q):tCB (rMA K g) (tMA K ms ma) σ H Q:=by
  obtain ⟨F,γ,r,k1,k2,k3,w⟩:=h
  obtain ⟨xs,e1,k3⟩:=Qg k3
  exact ⟨F,γ,xs,k1,k2,e1,fun vs H1 F1 g1 q1=>⟨F1,xs,r,g1.sub,q1,k3,w.go g1⟩⟩
variable {x:Str} {p:Pos} {id T:String}
theorem Qw {g:List PV→Option PV} (hc:QfG X (.builtin id) g) (hg:Gl X x) (hm:X.mg x=none) (hv:bootBuiltins x=some (.builtin id)) (ha:AM X ms (e :: es) ma) (hn:x ≠ "__name__":=by decide) (hdb:(x==("__debug__":Str))=false:=by decide)
    (he:starEach (e :: es) X.env=(false,eval e X.env) :: starEach es X.env:=by rfl) (hpl:(backTo pos (starEach es X.env)).any (·.1)=false:=by rfl):EM X ms (.Call (.Name x p) (e :: es) [] pos) (Qo g ma) :=
  PE.imp (XE hc hg hm hv ha hn hdb he hpl) fun _ _ _ h=>tCB_of h
theorem Qdj {g:List PV→Option PV} (hc:QfG X (.type T) g) (hg:Gl X x) (hm:X.mg x=none) (hv:bootBuiltins x=some (.type T)) (ha:AM X ms (e :: es) ma) (hn:x ≠ "__name__":=by decide) (hdb:(x==("__debug__":Str))=false:=by decide)
    (he:starEach (e :: es) X.env=(false,eval e X.env) :: starEach es X.env:=by rfl) (hpl:(backTo pos (starEach es X.env)).any (·.1)=false:=by rfl):EM X ms (.Call (.Name x p) (e :: es) [] pos) (Qo g ma) :=
  PE.imp (Qdb hc hg hm hv ha hn hdb he hpl) fun _ _ _ h=>tCB_of h
noncomputable def spM (K:PySem.W.Frag) (n:Nat) (g:List PV→Option PV):Sp:=fun vs H Q _=>vs.length=n∧rMA K g vs H Q
noncomputable def spO (K:PySem.W.Frag) (n:Nat) (g:List PV→Option (List PV)):Sp:=fun vs H Q _=>vs.length=n∧rMAO K g vs H Q
theorem tCall_of {K:PySem.W.Frag} {n:Nat} {g:List PV→Option PV} {E:XK} {σ:St} {H:Hp} {Q:VK} (hn:∀ ps r,g ps=some r→ps.length=n) (h:tM K ms (Qo g ma) σ H Q):Qhw (spM K n g) [] E (tMA K ms ma) σ H Q:=by
  obtain ⟨F,γ,r,k1,k2,k3,w⟩:=h
  obtain ⟨xs,e1,k3⟩:=Qg k3
  refine ⟨F,γ,xs,k1,k2,e1,fun vs H1 F1 g1 q1 => ?_⟩
  dsimp only
  rw [List.append_nil]
  exact ⟨by rw [q1.length];exact hn _ _ k3,F1,xs,r,g1.sub,q1,k3,w.go g1⟩
theorem QgI {K:PySem.W.Frag} {n:Nat} {g:List PV→Option (List PV)} {E:XK} {σ:St} {H:Hp} {Q:VK} (hn:∀ ps r,g ps=some r→ps.length=n) (h:tMO K ms (Qo g ma) σ H Q):Qhw (spO K n g) [] E (tMA K ms ma) σ H Q:=by
  obtain ⟨F,γ,r,k1,k2,k3,w⟩:=h
  obtain ⟨xs,e1,k3⟩:=Qg k3
  refine ⟨F,γ,xs,k1,k2,e1,fun vs H1 F1 g1 q1 => ?_⟩
  dsimp only
  rw [List.append_nil]
  exact ⟨by rw [q1.length];exact hn _ _ k3,F1,xs,r,g1.sub,q1,k3,w.go g1⟩
variable {CX:CXT} {k n:Nat} {f:Addr} {fd:FuncData} {ps:List Str}
theorem em_call {g:List PV→Option PV} (F:FnOk X.prog X.w X.K X.mg X.base CX0 k f fd ps (spM X.K n g)) (hn:∀ ps r,g ps=some r→ps.length=n) (hr:Room k X.A) (hg:Gl X x) (hm:X.mg x=some (.ref f)) (hk:PySem.W.keepIn X.K (.ref f)=true) (hb:Yz X.K fd ps [])
    (ha:AM X ms (e :: es) ma) (hdb:(x==("__debug__":Str))=false:=by decide) (he:starEach (e :: es) X.env=(false,eval e X.env) :: starEach es X.env:=by rfl) (hpl:(backTo pos (starEach es X.env)).any (·.1)=false:=by rfl) :
    EM X ms (.Call (.Name x p) (e :: es) [] pos) (Qo g ma) :=
  PE.imp (QdI (E:=E0) F hr hg hm hk hb .nil pass0 ha hdb he hpl) fun _ _ _ h=>tCall_of hn h
theorem eo_call {g:List PV→Option (List PV)} (F:FnOk X.prog X.w X.K X.mg X.base CX0 k f fd ps (spO X.K n g)) (hn:∀ ps r,g ps=some r→ps.length=n) (hr:Room k X.A) (hg:Gl X x) (hm:X.mg x=some (.ref f)) (hk:PySem.W.keepIn X.K (.ref f)=true) (hb:Yz X.K fd ps [])
    (ha:AM X ms (e :: es) ma) (hdb:(x==("__debug__":Str))=false:=by decide) (he:starEach (e :: es) X.env=(false,eval e X.env) :: starEach es X.env:=by rfl) (hpl:(backTo pos (starEach es X.env)).any (·.1)=false:=by rfl) :
    EO X ms (.Call (.Name x p) (e :: es) [] pos) (Qo g ma) :=
  PE.imp (QdI (E:=E0) F hr hg hm hk hb .nil pass0 ha hdb he hpl) fun _ _ _ h=>QgI hn h
end
end L2.PM

noncomputable section
namespace L2.PM
open PySem PySem.Spec PyProof.Rows

inductive Out where
  | nx (γ:PEnv) | rt (p:PV) | ro (xs:List PV) | bk (γ:PEnv) | ct (γ:PEnv)
noncomputable abbrev MSt:=PEnv→Option Out
noncomputable def flat:PV→Bool
  | .tup _=>false
  | .lst _=>false
  | .obj _ _ _=>false
  | .dct _=>false
  | .dcw _=>false
  | _=>true
theorem Rep.flat {K:PySem.W.Frag} {F F':Hp} {p:PV} {v:V} (f:flat p=true) (h:Rep K F p v):Rep K F' p v:=by
  cases p <;> unfold Rep at h ⊢ <;> first | exact h | (cases f;done)
theorem RepL.flat {K:PySem.W.Frag} {F F':Hp}:∀ {ps:List PV} {vs:List V},ps.all PM.flat=true→RepL K F ps vs→RepL K F' ps vs
  | [],_,_,h=>by unfold RepL at h ⊢;exact h
  | p :: ps,_,f,h=>by
    rw [List.all_cons,Bool.and_eq_true] at f
    unfold RepL at h
    obtain ⟨v,r,rfl,h2,h3⟩:=h
    exact .cons (h2.flat f.1) (RepL.flat f.2 h3)

structure OD (B F:Hp) (σ:St) (H:Hp) (γ:PEnv):Prop where
  at_:∀ (i:Nat) kvs,γ[i]?=some (.od kvs)→∃ a,σ[i]?=some (some (.ref a))∧H a=some (.dK (dvK kvs))∧F a=none∧B a=none
  dj:∀ (i j:Nat) kvs lvs a,i≠j→γ[i]?=some (.od kvs)→γ[j]?=some (.od lvs)→σ[i]?=some (some (.ref a))→σ[j]?≠some (some (.ref a))
theorem OD.mv {B F B' F':Hp} {σ σ':St} {H H':Hp} {γ γ':PEnv} (x:OD B F σ H γ) (hγ:∀ (j:Nat) kvs,γ'[j]?=some (.od kvs)→γ[j]?=some (.od kvs)∧σ'[j]?=σ[j]?)
    (hH:∀ a kvs,H a=some (.dK kvs)→F a=none→B a=none→H' a=H a∧F' a=none∧B' a=none):OD B' F' σ' H' γ':=by
  refine ⟨fun i kvs e => ?_,fun i j kvs lvs a n e1 e2 e3 => ?_⟩
  · obtain ⟨e1,e2⟩:=hγ i kvs e
    obtain ⟨a,k1,k2,k3,k4⟩:=x.at_ i kvs e1
    obtain ⟨m1,m2,m3⟩:=hH a _ k2 k3 k4
    exact ⟨a,by rw [e2];exact k1,by rw [m1];exact k2,m2,m3⟩
  · obtain ⟨k1,k2⟩:=hγ i kvs e1
    obtain ⟨k3,k4⟩:=hγ j lvs e2
    rw [k2] at e3
    rw [k4]
    exact x.dj i j kvs lvs a n k1 k3 e3
theorem OD.set {B F:Hp} {σ:St} {H:Hp} {γ:PEnv} (x:OD B F σ H γ) (i:Nat) {t:Slot} {v:Option V} (ht:∀ kvs,t ≠ .od kvs):OD B F (σ.set i v) H (γ.set i t) :=
  x.mv (fun j kvs e=>by
    by_cases q:i=j
    · subst q
      by_cases hi:i < γ.length
      · rw [List.getElem?_set_self hi] at e
        exact absurd (Option.some.inj e) (ht kvs)
      · rw [List.getElem?_eq_none (by simpa using hi)] at e;cases e
    · rw [List.getElem?_set_ne q] at e
      exact ⟨e,List.getElem?_set_ne q⟩) fun a kvs h1 h2 h3=>⟨rfl,h2,h3⟩
theorem OD.setG {B F:Hp} {σ:St} {H:Hp} {γ:PEnv} (x:OD B F σ H γ) (i:Nat) {t:Slot} (ht:∀ kvs,t ≠ .od kvs):OD B F σ H (γ.set i t) :=
  x.mv (fun j kvs e=>by
    by_cases q:i=j
    · subst q
      by_cases hi:i < γ.length
      · rw [List.getElem?_set_self hi] at e
        exact absurd (Option.some.inj e) (ht kvs)
      · rw [List.getElem?_eq_none (by simpa using hi)] at e;cases e
    · rw [List.getElem?_set_ne q] at e
      exact ⟨e,rfl⟩) fun a kvs h1 h2 h3=>⟨rfl,h2,h3⟩
structure SR (K:PySem.W.Frag) (B F₀ F:Hp) (σ:St) (H:Hp) (γ:PEnv):Prop where
  sub:Same F H
  base:Same B H
  f0:Same F₀ F
  fb:∀ a o,F a=some o→F₀ a=some o∨B a=none
  len:σ.length=γ.length
  fz:∀ (i:Nat) p,γ[i]?=some (.fz p)→∃ v,σ[i]?=some (some v)∧Rep K F p v
  ow:∀ (i:Nat) xs,γ[i]?=some (.ow xs)→∃ a vs,σ[i]?=some (some (.ref a))∧H a=some (.lst vs)∧RepL K F xs vs∧F a=none∧B a=none
  dj:∀ (i j:Nat) xs ys a,i≠j→γ[i]?=some (.ow xs)→γ[j]?=some (.ow ys)→σ[i]?=some (some (.ref a))→σ[j]?≠some (some (.ref a))
  dq:OD B F σ H γ

noncomputable def frz1 (γ:PEnv) (i:Nat):PEnv:=match γ[i]? with
  | some (.ow xs)=>γ.set i (.fz (.lst xs))
  | some (.od kvs)=>γ.set i (.fz (.dcw kvs))
  | _=>γ
noncomputable def frz (ms:List Nat) (γ:PEnv):PEnv:=ms.foldl frz1 γ
theorem Qhg (γ:PEnv) (i j:Nat):getV (frz1 γ i) j=getV γ j:=by
  unfold frz1
  split
  · rename_i xs h
    unfold getV
    by_cases e:i=j
    · subst e
      have hi:i < γ.length:=(List.getElem?_eq_some_iff.mp h).1
      rw [List.getElem?_set_self hi,h]
      rfl
    · rw [List.getElem?_set_ne e]
  · rename_i xs h
    unfold getV
    by_cases e:i=j
    · subst e
      have hi:i < γ.length:=(List.getElem?_eq_some_iff.mp h).1
      rw [List.getElem?_set_self hi,h]
      rfl
    · rw [List.getElem?_set_ne e]
  · rfl
theorem Qcr:∀ (ms:List Nat) (γ:PEnv) (j:Nat),getV (frz ms γ) j=getV γ j
  | [],_,_=>rfl
  | i :: ms,γ,j=>by
    show getV (frz ms (frz1 γ i)) j=_
    rw [Qcr ms,Qhg]

section
variable {K:PySem.W.Frag} {B F₀ F F' H H':Hp} {σ:St} {γ:PEnv}
theorem SR.frz1 (S:SR K B F₀ F σ H γ) (i:Nat):∃ F1,SR K B F₀ F1 σ H (frz1 γ i)∧Same F F1:=by
  unfold PM.frz1
  split
  · rename_i xs h
    obtain ⟨a,vs,h1,h2,h3,h4,h5⟩:=S.ow i xs h
    have hi:i < γ.length:=(List.getElem?_eq_some_iff.mp h).1
    have gx:Same F (upd F a (.lst vs)):=fun b u q=>by rw [Qk (Qn q h4)];exact q
    refine ⟨upd F a (.lst vs),⟨fun b u q => ?_,S.base,S.f0.trans gx,fun b u q => ?_,by simpa using S.len,fun j p e => ?_,fun j ys e => ?_,fun j k ys zs c hjk e1 e2 e3 => ?_,(S.dq.setG i (t := .fz (.lst xs)) (fun kvs z=>nomatch z)).mv (fun j kvs e=>⟨e,rfl⟩) fun b kvs k1 k2 k3=>⟨rfl,by rw [Qk (QhD k1 h2 (fun z=>nomatch z))];exact k2,k3⟩⟩,gx⟩
    · by_cases z:b=a
      · subst z;rw [Qp] at q;rw [h2];exact q
      · rw [Qk z] at q;exact S.sub b u q
    · by_cases z:b=a
      · subst z;exact .inr h5
      · rw [Qk z] at q;exact S.fb b u q
    · by_cases e':i=j
      · subst e'
        rw [List.getElem?_set_self hi] at e
        cases e
        refine ⟨.ref a,h1,?_⟩
        unfold Rep
        exact ⟨a,vs,rfl,.of Qp,h3.mono gx⟩
      · rw [List.getElem?_set_ne e'] at e
        obtain ⟨v,k1,k2⟩:=S.fz j p e
        exact ⟨v,k1,k2.mono gx⟩
    · by_cases e':i=j
      · subst e'
        rw [List.getElem?_set_self hi] at e
        cases e
      · rw [List.getElem?_set_ne e'] at e
        obtain ⟨c,us,k1,k2,k3,k4,k5⟩:=S.ow j ys e
        have hca:c≠a:=fun z=>by
          subst z
          exact S.dj i j xs ys c e' h e h1 k1
        exact ⟨c,us,k1,k2,k3.mono gx,by rw [Qk hca];exact k4,k5⟩
    · have f:∀ (n:Nat) (zs:List PV),(γ.set i (.fz (.lst xs)))[n]?=some (.ow zs)→γ[n]?=some (.ow zs):=fun n zs q=>by
        by_cases e':i=n
        · subst e'
          rw [List.getElem?_set_self hi] at q
          cases q
        · rw [List.getElem?_set_ne e'] at q;exact q
      exact S.dj j k ys zs c hjk (f j ys e1) (f k zs e2) e3
  · rename_i kvs h
    obtain ⟨a,h1,h2,h4,h5⟩:=S.dq.at_ i kvs h
    have hi:i < γ.length:=(List.getElem?_eq_some_iff.mp h).1
    have gx:Same F (upd F a (.dK (dvK kvs))):=fun b u q=>by rw [Qk (Qn q h4)];exact q
    have f:∀ (n:Nat) (t:Slot),(γ.set i (.fz (.dcw kvs)))[n]?=some t→(∀ p,t ≠ .fz p)→i≠n∧γ[n]?=some t:=fun n t q z=>by
      by_cases e':i=n
      · subst e'
        rw [List.getElem?_set_self hi] at q
        exact absurd (Option.some.inj q).symm (z _)
      · rw [List.getElem?_set_ne e'] at q;exact ⟨e',q⟩
    refine ⟨upd F a (.dK (dvK kvs)),⟨fun b u q => ?_,S.base,S.f0.trans gx,fun b u q => ?_,by simpa using S.len,fun j p e => ?_,fun j ys e => ?_,fun j k ys zs c hjk e1 e2 e3 => ?_,⟨fun j ls e => ?_,fun j k ks ls c hjk e1 e2 e3 => ?_⟩⟩,gx⟩
    · by_cases z:b=a
      · subst z;rw [Qp] at q;rw [h2];exact q
      · rw [Qk z] at q;exact S.sub b u q
    · by_cases z:b=a
      · subst z;exact .inr h5
      · rw [Qk z] at q;exact S.fb b u q
    · by_cases e':i=j
      · subst e'
        rw [List.getElem?_set_self hi] at e
        cases e
        refine ⟨.ref a,h1,?_⟩
        unfold Rep
        exact ⟨a,(),rfl,⟨.inl Qp⟩⟩
      · rw [List.getElem?_set_ne e'] at e
        obtain ⟨v,k1,k2⟩:=S.fz j p e
        exact ⟨v,k1,k2.mono gx⟩
    · obtain ⟨e',e⟩:=f j _ e (fun p z=>nomatch z)
      obtain ⟨c,us,k1,k2,k3,k4,k5⟩:=S.ow j ys e
      exact ⟨c,us,k1,k2,k3.mono gx,by rw [Qk (QhD k2 h2 (fun z=>nomatch z))];exact k4,k5⟩
    · exact S.dj j k ys zs c hjk (f j _ e1 (fun p z=>nomatch z)).2 (f k _ e2 (fun p z=>nomatch z)).2 e3
    · obtain ⟨e',e⟩:=f j _ e (fun p z=>nomatch z)
      obtain ⟨c,k1,k2,k4,k5⟩:=S.dq.at_ j ls e
      have hca:c≠a:=fun z=>by
        subst z
        exact S.dq.dj i j kvs ls c e' h e h1 k1
      exact ⟨c,k1,k2,by rw [Qk hca];exact k4,k5⟩
    · exact S.dq.dj j k ks ls c hjk (f j _ e1 (fun p z=>nomatch z)).2 (f k _ e2 (fun p z=>nomatch z)).2 e3
  · exact ⟨F,S,Same.refl _⟩
theorem SR.frz:∀ (ms:List Nat) {F:Hp} {γ:PEnv},SR K B F₀ F σ H γ→∃ F1,SR K B F₀ F1 σ H (frz ms γ)∧Same F F1
  | [],F,_,S=>⟨F,S,Same.refl _⟩
  | i :: ms,F,γ,S=>by
    obtain ⟨F1,S1,e1⟩:=S.frz1 i
    obtain ⟨F2,S2,e2⟩:=SR.frz ms S1
    exact ⟨F2,S2,e1.trans e2⟩
noncomputable def YC (γ:PEnv) (j:Nat):Prop:=(∀ xs,γ[j]?≠some (.ow xs))∧∀ kvs,γ[j]?≠some (.od kvs)
theorem Qhi {γ:PEnv} {i j:Nat} (h:YC γ j):YC (PM.frz1 γ i) j:=by
  unfold PM.frz1
  split
  · rename_i ys e
    by_cases e':i=j
    · subst e'
      exact absurd e (h.1 ys)
    · exact ⟨fun xs=>by rw [List.getElem?_set_ne e'];exact h.1 xs,fun xs=>by rw [List.getElem?_set_ne e'];exact h.2 xs⟩
  · rename_i ys e
    by_cases e':i=j
    · subst e'
      exact absurd e (h.2 ys)
    · exact ⟨fun xs=>by rw [List.getElem?_set_ne e'];exact h.1 xs,fun xs=>by rw [List.getElem?_set_ne e'];exact h.2 xs⟩
  · exact h
theorem Qhh {γ:PEnv} {i:Nat}:YC (PM.frz1 γ i) i:=by
  unfold PM.frz1
  split
  · rename_i ys e
    have hi:i < γ.length:=(List.getElem?_eq_some_iff.mp e).1
    exact ⟨(fun xs z=>by rw [List.getElem?_set_self hi] at z;cases z),(fun xs z=>by rw [List.getElem?_set_self hi] at z;cases z)⟩
  · rename_i ys e
    have hi:i < γ.length:=(List.getElem?_eq_some_iff.mp e).1
    exact ⟨(fun xs z=>by rw [List.getElem?_set_self hi] at z;cases z),(fun xs z=>by rw [List.getElem?_set_self hi] at z;cases z)⟩
  · rename_i h1 h2
    exact ⟨h1,h2⟩
theorem QeL:∀ (ms:List Nat) {γ:PEnv} {j:Nat},YC γ j→YC (PM.frz ms γ) j
  | [],_,_,h=>h
  | i :: ms,γ,j,h=>QeL ms (γ:=PM.frz1 γ i) (Qhi h)
theorem Qgt:∀ (ms:List Nat) {γ:PEnv} {j:Nat},j∈ms→YC (PM.frz ms γ) j
  | [],_,_,h=>by cases h
  | i :: ms,γ,j,h=>by
    rcases List.mem_cons.mp h with rfl | h
    · exact QeL ms (γ:=PM.frz1 γ j) Qhh
    · exact Qgt ms (γ:=PM.frz1 γ i) h
theorem SR.erep (S:SR K B F₀ F σ H γ) {ms:List Nat} (h:∀ i∈ms,YC γ i):ERep K F σ γ ms:=fun i hi p e=>by
  unfold getV at e
  cases q:γ[i]? with
  | none=>rw [q] at e;cases e
  | some t =>
    cases t with
    | un=>rw [q] at e;cases e
    | fz p' =>
      rw [q] at e
      cases e
      exact S.fz i p q
    | ow xs=>exact absurd q ((h i hi).1 xs)
    | od xs=>exact absurd q ((h i hi).2 xs)
theorem SR.see (S:SR K B F₀ F σ H γ) (ms:List Nat):∃ F1,SR K B F₀ F1 σ H (PM.frz ms γ)∧Same F F1∧ERep K F1 σ γ ms:=by
  obtain ⟨F1,S1,e1⟩:=SR.frz ms S
  refine ⟨F1,S1,e1,fun i hi p e => ?_⟩
  exact S1.erep (ms:=ms) (fun j hj=>Qgt ms hj) i hi p (by rw [Qcr];exact e)
theorem SR.same (S:SR K B F₀ F σ H γ) (e:Same H H'):SR K B F₀ F σ H' γ :=
  ⟨S.sub.trans e,S.base.trans e,S.f0,S.fb,S.len,S.fz,fun i xs h=>by
    obtain ⟨a,vs,h1,h2,h3⟩:=S.ow i xs h
    exact ⟨a,vs,h1,e _ _ h2,h3⟩,S.dj,S.dq.mv (fun _ _ q=>⟨q,rfl⟩) fun a kvs h1 h2 h3=>⟨by rw [h1];exact e _ _ h1,h2,h3⟩⟩
theorem SR.grow (S:SR K B F₀ F σ H γ) (g:Grow F H F' H'):SR K B F₀ F' σ H' γ:=by
  refine ⟨g.sub,S.base.trans g.same,S.f0.trans g.ext,fun a o e => ?_,S.len,fun i p h => ?_,fun i xs h => ?_,S.dj,S.dq.mv (fun _ _ q=>⟨q,rfl⟩) fun a kvs h1 h2 h3=>⟨by rw [h1];exact g.same _ _ h1,?_,h3⟩⟩
  · rcases g.new a o e with z | z
    · exact S.fb a o z
    · exact .inr (S.base.free z)
  · obtain ⟨v,h1,h2⟩:=S.fz i p h
    exact ⟨v,h1,h2.mono g.ext⟩
  · obtain ⟨a,vs,h1,h2,h3,h4,h5⟩:=S.ow i xs h
    refine ⟨a,vs,h1,g.same _ _ h2,h3.mono g.ext,?_,h5⟩
    cases q:F' a with
    | none=>rfl
    | some o =>
      rcases g.new a o q with z | z
      · rw [h4] at z;cases z
      · rw [h2] at z;cases z
  · cases q:F' a with
    | none=>rfl
    | some u =>
      rcases g.new a u q with z | z
      · rw [h2] at z;cases z
      · rw [h1] at z;cases z
theorem SR.setFz (S:SR K B F₀ F σ H γ) (i:Nat) {p:PV} {v:V} (r:Rep K F p v):SR K B F₀ F (σ.set i (some v)) H (γ.set i (.fz p)):=by
  have f:∀ (n:Nat) (zs:List PV),(γ.set i (.fz p))[n]?=some (.ow zs)→i≠n∧γ[n]?=some (.ow zs):=fun n zs q=>by
    by_cases e':i=n
    · subst e'
      by_cases hi:i < γ.length
      · rw [List.getElem?_set_self hi] at q;cases q
      · rw [List.getElem?_eq_none (by simpa using hi)] at q;cases q
    · rw [List.getElem?_set_ne e'] at q;exact ⟨e',q⟩
  refine ⟨S.sub,S.base,S.f0,S.fb,by simpa using S.len,fun j q e => ?_,fun j ys e => ?_,fun j k ys zs c hjk e1 e2 e3 => ?_,S.dq.set i (fun kvs z=>nomatch z)⟩
  · by_cases e':i=j
    · subst e'
      by_cases hi:i < γ.length
      · rw [List.getElem?_set_self hi] at e
        cases e
        exact ⟨v,by rw [List.getElem?_set_self (by rw [S.len];exact hi)],r⟩
      · rw [List.getElem?_eq_none (by simpa using hi)] at e;cases e
    · rw [List.getElem?_set_ne e'] at e
      obtain ⟨u,h1,h2⟩:=S.fz j q e
      exact ⟨u,by rw [List.getElem?_set_ne e'];exact h1,h2⟩
  · obtain ⟨ne,e⟩:=f j ys e
    obtain ⟨a,vs,h1,h2⟩:=S.ow j ys e
    exact ⟨a,vs,by rw [List.getElem?_set_ne ne];exact h1,h2⟩
  · obtain ⟨n1,e1⟩:=f j ys e1
    obtain ⟨n2,e2⟩:=f k zs e2
    rw [List.getElem?_set_ne n1] at e3
    rw [List.getElem?_set_ne n2]
    exact S.dj j k ys zs c hjk e1 e2 e3
theorem SR.setOw (S:SR K B F₀ F σ H γ) (i:Nat) {xs:List PV} {a:Addr} {vs:List V} (hH:H a=some (.lst vs)) (r:RepL K F xs vs) (nF:F a=none) (nB:B a=none)
    (nd:∀ (j:Nat) ys,i≠j→γ[j]?=some (.ow ys)→σ[j]?≠some (some (.ref a))):SR K B F₀ F (σ.set i (some (.ref a))) H (γ.set i (.ow xs)):=by
  refine ⟨S.sub,S.base,S.f0,S.fb,by simpa using S.len,fun j q e => ?_,fun j ys e => ?_,fun j k ys zs c hjk e1 e2 e3 e4 => ?_,S.dq.set i (fun kvs z=>nomatch z)⟩
  · by_cases e':i=j
    · subst e'
      by_cases hi:i < γ.length
      · rw [List.getElem?_set_self hi] at e;cases e
      · rw [List.getElem?_eq_none (by simpa using hi)] at e;cases e
    · rw [List.getElem?_set_ne e'] at e
      obtain ⟨u,h1,h2⟩:=S.fz j q e
      exact ⟨u,by rw [List.getElem?_set_ne e'];exact h1,h2⟩
  · by_cases e':i=j
    · subst e'
      by_cases hi:i < γ.length
      · rw [List.getElem?_set_self hi] at e
        cases e
        exact ⟨a,vs,by rw [List.getElem?_set_self (by rw [S.len];exact hi)],hH,r,nF,nB⟩
      · rw [List.getElem?_eq_none (by simpa using hi)] at e;cases e
    · rw [List.getElem?_set_ne e'] at e
      obtain ⟨b,us,h1,h2⟩:=S.ow j ys e
      exact ⟨b,us,by rw [List.getElem?_set_ne e'];exact h1,h2⟩
  · by_cases z1:i=j
    · subst z1
      by_cases hi:i < γ.length
      · rw [List.getElem?_set_self (by rw [S.len];exact hi)] at e3
        cases e3
        rw [List.getElem?_set_ne hjk] at e2 e4
        exact nd k zs hjk e2 e4
      · rw [List.getElem?_eq_none (by simpa using hi)] at e1;cases e1
    · rw [List.getElem?_set_ne z1] at e1 e3
      by_cases z2:i=k
      · subst z2
        by_cases hi:i < γ.length
        · rw [List.getElem?_set_self (by rw [S.len];exact hi)] at e4
          cases e4
          exact nd j ys z1 e1 e3
        · rw [List.getElem?_eq_none (by simpa using hi)] at e2;cases e2
      · rw [List.getElem?_set_ne z2] at e2 e4
        exact S.dj j k ys zs c hjk e1 e2 e3 e4
theorem SR.write (S:SR K B F₀ F σ H γ) {i:Nat} {xs ys:List PV} {a:Addr} {us:List V} (hi:γ[i]?=some (.ow xs)) (ha:σ[i]?=some (some (.ref a))) (r:RepL K F ys us) :
    SR K B F₀ F σ (upd H a (.lst us)) (γ.set i (.ow ys)):=by
  obtain ⟨a',vs,h1,h2,h3,h4,h5⟩:=S.ow i xs hi
  rw [ha] at h1
  cases h1
  have hil:i < γ.length:=(List.getElem?_eq_some_iff.mp hi).1
  have stay:∀ b o,H b=some o→b≠a→upd H a (.lst us) b=some o:=fun b o e n=>by rw [Qk n];exact e
  refine ⟨fun b o e=>stay b o (S.sub b o e) (Qn e h4),fun b o e=>stay b o (S.base b o e) (Qn e h5),S.f0,S.fb,by simpa using S.len,fun j q e => ?_,fun j zs e => ?_,fun j k ws zs c hjk e1 e2 e3 e4 => ?_,(S.dq.setG i (t := .ow ys) (fun kvs z=>nomatch z)).mv (fun _ _ q=>⟨q,rfl⟩) fun b kvs k1 k2 k3=>⟨Qk (QhD k1 h2 (fun z=>nomatch z)),k2,k3⟩⟩
  · by_cases e':i=j
    · subst e'
      rw [List.getElem?_set_self hil] at e;cases e
    · rw [List.getElem?_set_ne e'] at e;exact S.fz j q e
  · by_cases e':i=j
    · subst e'
      rw [List.getElem?_set_self hil] at e
      cases e
      exact ⟨a,us,ha,Qp,r,h4,h5⟩
    · rw [List.getElem?_set_ne e'] at e
      obtain ⟨b,ts,k1,k2,k3⟩:=S.ow j zs e
      have hb:b≠a:=fun z=>by
        subst z
        exact S.dj i j xs zs b e' hi e ha k1
      exact ⟨b,ts,k1,stay _ _ k2 hb,k3⟩
  · have f:∀ (n:Nat) (ws:List PV),(γ.set i (.ow ys))[n]?=some (.ow ws)→∃ ws',γ[n]?=some (.ow ws'):=fun n ws q=>by
      by_cases e':i=n
      · subst e';exact ⟨xs,hi⟩
      · rw [List.getElem?_set_ne e'] at q;exact ⟨ws,q⟩
    obtain ⟨ws',e1⟩:=f j ws e1
    obtain ⟨zs',e2⟩:=f k zs e2
    exact S.dj j k _ _ c hjk e1 e2 e3 e4
theorem SR.up (S:SR K B F₀ F σ H γ) {F1:Hp} (e1:Same F₀ F1) (e:Same F1 F):SR K B F1 F σ H γ :=
  ⟨S.sub,S.base,e,fun a o q=>(S.fb a o q).imp (fun z=>e1 a o z) id,S.len,S.fz,S.ow,S.dj,S.dq⟩
theorem SR.down {F1:Hp} (S:SR K B F1 F σ H γ) (e1:Same F₀ F1) (fb1:∀ a o,F1 a=some o→F₀ a=some o∨B a=none):SR K B F₀ F σ H γ :=
  ⟨S.sub,S.base,e1.trans S.f0,fun a o q=>(S.fb a o q).elim (fun z=>fb1 a o z) .inr,S.len,S.fz,S.ow,S.dj,S.dq⟩
theorem Grow.down {F1:Hp} (g:Grow F1 B F' H') (e1:Same F₀ F1) (fb1:∀ a o,F1 a=some o→F₀ a=some o∨B a=none):Grow F₀ B F' H' :=
  ⟨e1.trans g.ext,g.sub,g.same,fun a o q=>(g.new a o q).elim (fun z=>fb1 a o z) .inr⟩
theorem SR.gr (S:SR K B F₀ F σ H γ):Grow F₀ B F H:=⟨S.f0,S.sub,S.base,S.fb⟩
end

noncomputable def QhI (K:PySem.W.Frag) (B F₀:Hp) (D:Ends):Out→Prop
  | .nx γ=>∀ σ H F,SR K B F₀ F σ H γ→D.nx σ H
  | .rt p=>∀ v H F,Grow F₀ B F H→Rep K F p v→D.rt v H
  | .ro xs=>∀ a vs H F,Grow F₀ B F H→B a=none→F a=none→H a=some (.lst vs)→RepL K F xs vs→D.rt (.ref a) H
  | .bk γ=>∀ σ H F,SR K B F₀ F σ H γ→D.bk σ H
  | .ct γ=>∀ σ H F,SR K B F₀ F σ H γ→D.ct σ H
noncomputable def tMS (K:PySem.W.Frag) (m:MSt):TS:=fun D σ H=>∃ B F₀ F γ o,SR K B F₀ F σ H γ∧m γ=some o∧QhI K B F₀ D o
noncomputable def SM (X:Cx) (st:Stmt) (m:MSt):Prop:=PS X st (tMS X.K m)
noncomputable def SMs (X:Cx) (sts:List Stmt) (m:MSt):Prop:=PSs X sts (tMS X.K m)

section
variable {X:Cx} {e a b c:Expr} {st:Stmt} {sts:List Stmt} {ms ns ls:List Nat} {m m1 m2 m3:MEx} {s1 s2:MSt} {pos p2:Pos}
theorem _root_.L2.PSs.imp {t t':TS} (h:PSs X sts t) (i:∀ D σ H,t' D σ H→t D σ H):PSs X sts t':=fun pins s σ H D I q=>h pins s σ H D I (i D σ H q)
noncomputable def sNx:MSt:=fun γ=>some (.nx γ)
noncomputable def sSeq (s1 s2:MSt):MSt:=fun γ=>(s1 γ).bind fun o=>match o with
  | .nx γ'=>s2 γ'
  | o=>some o
theorem QE:SMs X [] sNx:=PSs.imp pss_nil fun D σ H ⟨B,F₀,F,γ,o,S,e,ok⟩=>by
  cases e
  exact ok σ H F S
theorem Ql (h:SM X st s1):SMs X [st] s1:=QdG h
theorem Qi (h:SM X st s1) (hr:SMs X sts s2):SMs X (st :: sts) (sSeq s1 s2):=PSs.imp (QeC h hr) fun D σ H ⟨B,F₀,F,γ,o,S,e,ok⟩=>by
  obtain ⟨o1,e1,e2⟩:=Qg e
  refine ⟨B,F₀,F,γ,o1,S,e1,?_⟩
  cases o1 with
  | nx γ'=>exact fun σ' H' F' S'=>⟨B,F₀,F',γ',o,S',e2,ok⟩
  | rt p=>cases e2;exact ok
  | ro xs=>cases e2;exact ok
  | bk γ'=>cases e2;exact ok
  | ct γ'=>cases e2;exact ok
noncomputable def sBk:MSt:=fun γ=>some (.bk γ)
noncomputable def sCt:MSt:=fun γ=>some (.ct γ)
noncomputable def sRet (m:MEx):MSt:=fun γ=>(m γ).map .rt
noncomputable def Qcw (m:PEnv→Option (List PV)):MSt:=fun γ=>(m γ).map .ro
noncomputable def Qaj (i:Nat):MSt:=fun γ=>match γ[i]? with
  | some (.ow xs)=>some (.ro xs)
  | some (.fz p)=>some (.rt p)
  | _=>none
theorem Qy (h:EM X ms e m):SM X (.Return (some e) pos) (sRet m):=PS.imp (QfO h) fun D σ H ⟨B,F₀,F,γ,o,S,e,ok⟩=>by
  obtain ⟨r,e1,e2⟩:=QZ e
  subst e2
  obtain ⟨F1,S1,x1,er⟩:=S.see ms
  exact ⟨F1,γ,r,S1.sub,er,e1,fun v H' F' g q=>ok v H' F' (S1.grow g).gr q⟩
theorem Qca {m:PEnv→Option (List PV)} (h:EO X ms e m):SM X (.Return (some e) pos) (Qcw m):=PS.imp (QfO h) fun D σ H ⟨B,F₀,F,γ,o,S,e,ok⟩=>by
  obtain ⟨r,e1,e2⟩:=QZ e
  subst e2
  obtain ⟨F1,S1,x1,er⟩:=S.see ms
  exact ⟨F1,γ,r,S1.sub,er,e1,fun a vs H' F' g n nF hH q=>ok a vs H' F' (S1.grow g).gr (S1.base.free n) nF hH q⟩
theorem QaV (i:Nat) {x:Str} (h:PE X (.Name x p2) (tVar i)):SM X (.Return (some (.Name x p2)) pos) (Qaj i):=PS.imp (QfO h) fun D σ H ⟨B,F₀,F,γ,o,S,e,ok⟩=>by
  unfold Qaj at e
  split at e
  · rename_i xs h
    cases e
    obtain ⟨a,vs,h1,h2,h3,h4,h5⟩:=S.ow i xs h
    exact ⟨.ref a,h1,ok a vs H F S.gr h5 h4 h2 h3⟩
  · rename_i p h
    cases e
    obtain ⟨v,h1,h2⟩:=S.fz i p h
    exact ⟨v,h1,ok v H F S.gr h2⟩
  · cases e
noncomputable def sIf (t:PEnv→Option Bool) (s1 s2:MSt):MSt:=fun γ=>(t γ).bind fun k=>if k=true then s1 γ else s2 γ
theorem Zo {t:PEnv→Option Bool} {xs ys:List Stmt} (hc:TM X ms c t) (ha:SMs X xs s1) (hb:SMs X ys s2):SM X (.If c xs ys pos) (sIf t s1 s2):=PS.imp (ps_if hc ha hb) fun D σ H ⟨B,F₀,F,γ,o,S,e,ok⟩=>by
  obtain ⟨k,e1,e2⟩:=Qg e
  obtain ⟨F1,S1,x1,er⟩:=S.see ms
  refine ⟨F1,γ,k,S1.sub,er,e1,fun H' F' g => ?_⟩
  cases k with
  | true=>rw [if_pos rfl] at e2 ⊢;exact ⟨B,F₀,F,γ,o,S.same g.same,e2,ok⟩
  | false=>rw [if_neg Bool.false_ne_true] at e2 ⊢;exact ⟨B,F₀,F,γ,o,S.same g.same,e2,ok⟩
noncomputable def Zd (k:Bool) (ms:List Nat) (γ:PEnv):PEnv:=if k=true then γ else frz ms γ
noncomputable def sSet (ms:List Nat) (i:Nat) (m:MEx):MSt:=fun γ=>(m γ).map fun r => .nx ((Zd (flat r) ms γ).set i (.fz r))
noncomputable def Yw (ms:List Nat) (i:Nat) (m:PEnv→Option (List PV)):MSt:=fun γ=>(m γ).map fun xs => .nx ((Zd (xs.all flat) ms γ).set i (.ow xs))
theorem SR.val {K:PySem.W.Frag} {B F₀ F F1 F' H H':Hp} {σ:St} {γ:PEnv} {r:PV} {v:V} (S:SR K B F₀ F σ H γ) (S1:SR K B F₀ F1 σ H (PM.frz ms γ)) (g:Grow F1 H F' H') (q:Rep K F' r v) :
    ∃ F2,SR K B F₀ F2 σ H' (Zd (flat r) ms γ)∧Rep K F2 r v:=by
  unfold Zd
  cases f:flat r with
  | true=>rw [if_pos rfl];exact ⟨F,S.same g.same,q.flat f⟩
  | false=>rw [if_neg Bool.false_ne_true];exact ⟨F',S1.grow g,q⟩
theorem SR.valO {K:PySem.W.Frag} {B F₀ F F1 F' H H':Hp} {σ:St} {γ:PEnv} {r:List PV} {vs:List V} (S:SR K B F₀ F σ H γ) (x1:Same F F1) (S1:SR K B F₀ F1 σ H (PM.frz ms γ)) (g:Grow F1 H F' H') (q:RepL K F' r vs) :
    ∃ F2,SR K B F₀ F2 σ H' (Zd (r.all flat) ms γ)∧RepL K F2 r vs∧Same F2 F':=by
  unfold Zd
  cases f:r.all flat with
  | true=>rw [if_pos rfl];exact ⟨F,S.same g.same,q.flat f,x1.trans g.ext⟩
  | false=>rw [if_neg Bool.false_ne_true];exact ⟨F',S1.grow g,q,Same.refl _⟩
theorem QV {i:Nat} {x:Str} (hN:X.N.Nodup) (hi:X.N[i]?=some x) (hx:Loc X.env.scope x) (h:EM X ms e m) (hs:swapsWith e (some (.Name x p2)) pos.line X.env=pure false:=by rfl) (hf:X.fn x=true∨X.env.scope.names.lookup x=some .local:=by first | exact .inl rfl | exact .inr rfl | assumption) :
    SM X (.Assign [.Name x p2] e pos) (sSet ms i m):=PS.imp (ps_set hN hi hx h hs hf) fun D σ H ⟨B,F₀,F,γ,o,S,e,ok⟩=>by
  obtain ⟨r,e1,e2⟩:=QZ e
  subst e2
  obtain ⟨F1,S1,x1,er⟩:=S.see ms
  refine ⟨F1,γ,r,S1.sub,er,e1,fun v H' F' g q => ?_⟩
  obtain ⟨F2,S2,q2⟩:=S.val S1 g q
  exact ok _ _ F2 (S2.setFz i q2)
theorem SR.setNew {K:PySem.W.Frag} {B F₀ F F1 F' H H':Hp} {σ:St} {γ:PEnv} {r:List PV} {vs:List V} {a:Addr} (S:SR K B F₀ F σ H γ) (x1:Same F F1) (S1:SR K B F₀ F1 σ H (PM.frz ms γ)) (g:Grow F1 H F' H') (n:H a=none) (nF:F' a=none) (hH:H' a=some (.lst vs)) (q:RepL K F' r vs) (i:Nat) :
    ∃ F2,SR K B F₀ F2 (σ.set i (some (.ref a))) H' ((Zd (r.all flat) ms γ).set i (.ow r)):=by
  obtain ⟨F2,S2,q2,x2⟩:=S.valO x1 S1 g q
  have own:∀ (j:Nat) ys,(Zd (r.all flat) ms γ)[j]?=some (.ow ys)→σ[j]?≠some (some (.ref a)):=fun j ys e1 e2=>by
    have key:∀ {F:Hp} {γ:PEnv},SR K B F₀ F σ H γ→γ[j]?=some (.ow ys)→False:=fun {F γ} T e1=>by
      obtain ⟨b,us,h1,h2,_⟩:=T.ow j ys e1
      rw [e2] at h1
      cases h1
      rw [n] at h2;cases h2
    unfold Zd at e1
    split at e1
    · exact key S e1
    · exact key S1 e1
  exact ⟨F2,S2.setOw i hH q2 (x2.free nF) (S.base.free n) fun j ys _ e1=>own j ys e1⟩
theorem Zs {i:Nat} {x:Str} {m:PEnv→Option (List PV)} (hN:X.N.Nodup) (hi:X.N[i]?=some x) (hx:Loc X.env.scope x) (h:EO X ms e m) (hs:swapsWith e (some (.Name x p2)) pos.line X.env=pure false:=by rfl) (hf:X.fn x=true∨X.env.scope.names.lookup x=some .local:=by first | exact .inl rfl | exact .inr rfl | assumption) :
    SM X (.Assign [.Name x p2] e pos) (Yw ms i m):=PS.imp (ps_set hN hi hx h hs hf) fun D σ H ⟨B,F₀,F,γ,o,S,e,ok⟩=>by
  obtain ⟨r,e1,e2⟩:=QZ e
  subst e2
  obtain ⟨F1,S1,x1,er⟩:=S.see ms
  refine ⟨F1,γ,r,S1.sub,er,e1,fun a vs H' F' g n nF hH q => ?_⟩
  obtain ⟨F2,S2⟩:=S.setNew x1 S1 g n nF hH q i
  exact ok _ _ F2 S2
end
end L2.PM

noncomputable section
namespace L2.PM
open PySem PySem.Spec PyProof.Rows

theorem _root_.L2.PG.imp {X:Cx} {e:Expr} {t t':TG} (h:PG X e t) (i:∀ v σ H Q,t' v σ H Q→t v σ H Q):PG X e t':=fun pins s σ H v u Q I r q=>h pins s σ H v u Q I r (i v σ H Q q)
theorem Qfo (k:Bool) (ms:List Nat) (γ:PEnv) (j:Nat):getV (Zd k ms γ) j=getV γ j:=by
  unfold Zd
  split
  · rfl
  · exact Qcr ms γ j
theorem ERep.of_getV {K:PySem.W.Frag} {F:Hp} {σ:St} {γ γ':PEnv} {ms:List Nat} (h:ERep K F σ γ ms) (e:∀ j,getV γ j=getV γ' j):ERep K F σ γ' ms:=fun i hi p hp=>h i hi p (by rw [e];exact hp)
theorem Qdg:∀ (ms:List Nat) {γ:PEnv} {j:Nat},j∉ms→(frz ms γ)[j]?=γ[j]?
  | [],_,_,_=>rfl
  | i :: ms,γ,j,h=>by
    show (frz ms (frz1 γ i))[j]?=_
    rw [Qdg ms (fun z=>h (List.mem_cons_of_mem _ z))]
    unfold frz1
    split
    · rw [List.getElem?_set_ne (fun z=>h (by simp [z]))]
    · rw [List.getElem?_set_ne (fun z=>h (by simp [z]))]
    · rfl
theorem Qbf {k:Bool} {ms:List Nat} {γ:PEnv} {i:Nat} {xs:List PV} (h:γ[i]?=some (.ow xs)) (c:(k || !ms.contains i)=true):(Zd k ms γ)[i]?=some (.ow xs):=by
  unfold Zd
  cases k with
  | true=>rw [if_pos rfl];exact h
  | false =>
    rw [if_neg Bool.false_ne_true]
    have:i∉ms:=by simpa using c
    rw [Qdg ms this];exact h

section
variable {X:Cx} {e a b c:Expr} {st:Stmt} {sts:List Stmt} {ms ns ls:List Nat} {m m1 m2 m3 mi mv:MEx} {s1 s2:MSt} {pos p2 p3:Pos}

noncomputable def tMG (K:PySem.W.Frag) (ts:List Nat) (g:PV→PEnv→Option PEnv):TG:=fun v σ H Q=>∃ B F₀ F γ p γ',SR K B F₀ F σ H γ∧Rep K F p v∧g p γ=some γ' ∧
  ∀ σ',SR K B F₀ F σ' H γ'→σ'.length=σ.length→(∀ n,n∉ts→σ'[n]?=σ[n]?)→Q σ' H
noncomputable def GM (X:Cx) (ts:List Nat) (tg:Expr) (g:PV→PEnv→Option PEnv):Prop:=PG X tg (tMG X.K ts g)
noncomputable def gSet (i:Nat):PV→PEnv→Option PEnv:=fun p γ=>some (γ.set i (.fz p))
noncomputable def gSet2 (i j:Nat):PV→PEnv→Option PEnv:=fun p γ=>match p with
  | .tup [x,y]=>some ((γ.set i (.fz x)).set j (.fz y))
  | _=>none
noncomputable def QhG (i j k:Nat):PV→PEnv→Option PEnv:=fun p γ=>match p with
  | .tup [x,y,z]=>some (((γ.set i (.fz x)).set j (.fz y)).set k (.fz z))
  | _=>none
theorem ZA {i:Nat} {x:Str} (h:PG X (.Name x pos) (Qdw i)):GM X [i] (.Name x pos) (gSet i):=PG.imp h fun v σ H Q ⟨B,F₀,F,γ,p,γ',S,r,e,w⟩=>by
  cases e
  refine w _ (S.setFz i r) (by simp) fun n hn => ?_
  rw [List.getElem?_set_ne (fun z=>hn (by simp [z]))]
theorem gm_tup3 {i j k:Nat} {x y z:Expr} {kt:Nat} (h:PG X (.Tuple [x,y,z] kt pos) (gTup X.K 3 (QhH (Qdw i) (QhH (Qdw j) (QhH (Qdw k) gNil))))):GM X [i,j,k] (.Tuple [x,y,z] kt pos) (QhG i j k) :=
  PG.imp h fun v σ H Q ⟨B,F₀,F,γ,p,γ',S,r,e,w⟩=>by
    unfold QhG at e
    split at e
    · rename_i x y z
      cases e
      unfold Rep at r
      obtain ⟨a,vs,rfl,k2,k3⟩:=r
      unfold RepL at k3
      obtain ⟨v1,r1,rfl,q1,k3⟩:=k3
      unfold RepL at k3
      obtain ⟨v2,r2,rfl,q2,k3⟩:=k3
      unfold RepL at k3
      obtain ⟨v3,r3,rfl,q3,k3⟩:=k3
      unfold RepL at k3
      subst k3
      refine ⟨a,_,rfl,S.sub.seqT k2,rfl,v1,_,rfl,v2,_,rfl,v3,_,rfl,rfl,?_⟩
      refine w _ (((S.setFz i q1).setFz j q2).setFz k q3) (by simp) fun n hn => ?_
      rw [List.getElem?_set_ne (fun z=>hn (by simp [z])),List.getElem?_set_ne (fun z=>hn (by simp [z])),List.getElem?_set_ne (fun z=>hn (by simp [z]))]
    · cases e
noncomputable def sAsg (ms:List Nat) (g:PV→PEnv→Option PEnv) (m:MEx):MSt:=fun γ=>(m γ).bind fun r=>(g r (Zd (flat r) ms γ)).map .nx
theorem sm_asg {tg:Expr} {ts:List Nat} {g:PV→PEnv→Option PEnv} (h:EM X ms e m) (hg:GM X ts tg g) (hs:swapsWithSole [tg] e pos.line X.env=pure false:=by rfl) (hw:swappedStores [tg] e X.env=pure none:=by rfl)
    (h1:(assignEach [tg] X.env).map (·.2)=[assign tg X.env]:=by rfl):SM X (.Assign [tg] e pos) (sAsg ms g m):=PS.imp (ps_asg h hg hs hw h1) fun D σ H ⟨B,F₀,F,γ,o,S,e,ok⟩=>by
  obtain ⟨r,e1,e2⟩:=Qg e
  obtain ⟨γ',e4,e3⟩:=QZ e2
  subst e3
  obtain ⟨F1,S1,x1,er⟩:=S.see ms
  refine ⟨F1,γ,r,S1.sub,er,e1,fun v H' F' g q => ?_⟩
  obtain ⟨F2,S2,q2⟩:=S.val S1 g q
  exact ⟨B,F₀,F2,_,r,γ',S2,q2,e4,fun σ' S' _ _=>ok _ _ F2 S'⟩

noncomputable def sApp (ms:List Nat) (i:Nat) (m:MEx):MSt:=fun γ=>match γ[i]? with
  | some (.ow xs)=>(m γ).bind fun r=>if xs.length < LIM∧(flat r || !ms.contains i)=true then some (.nx ((Zd (flat r) ms γ).set i (.ow (xs++[r])))) else none
  | _=>none
theorem Qcj {K:PySem.W.Frag} {H:Hp} {a:Addr} {vs:List V} (h:SqL K H a vs):tyV K "list" (.ref a) H := .inl ⟨rfl,vs,h⟩
theorem QfK {i:Nat} {x:Str} {apos cpos:Pos} (hx:PE X (.Name x p2) (tVar i)) (h:EM X ms e m) (ps:PS X (.Expr (.Call (.Attribute (.Name x p2) "append" apos) [e] [] cpos) pos) (Qhv (tBM X.K "list" Qgg (tVar i) (tMA X.K ms (Qc m aNil))))) :
    SM X (.Expr (.Call (.Attribute (.Name x p2) "append" apos) [e] [] cpos) pos) (sApp ms i m):=PS.imp ps fun D σ H ⟨B,F₀,F,γ,o,S,e,ok⟩=>by
  unfold sApp at e
  split at e
  · rename_i xs hi
    obtain ⟨r,e1,e⟩:=Qg e
    obtain ⟨⟨hl,c⟩,rfl⟩:=QC e
    obtain ⟨a,vs,h1,h2,_⟩:=S.ow i xs hi
    obtain ⟨F1,S1,x1,er⟩:=S.see ms
    refine ⟨.ref a,h1,Qcj (.of h2),F1,γ,[r],S1.sub,er,by simp [Qc,aNil,e1],fun us H' F' g q => ?_⟩
    unfold RepL at q
    obtain ⟨v,t,rfl,q,qt⟩:=q
    unfold RepL at qt
    subst qt
    obtain ⟨F2,S2,q2⟩:=S.val S1 g q
    have hi2:=Qbf (k:=flat r) hi c
    obtain ⟨a2,vs2,k1,k2,k3,_⟩:=S2.ow i xs hi2
    rw [h1] at k1
    cases k1
    refine ⟨a,vs2,v,rfl,rfl,k2,?_,?_⟩
    · rw [k3.length];exact Nat.lt_of_lt_of_le hl ZI
    · exact ok _ _ F2 (S2.write hi2 h1 (k3.snoc q2))
  · cases e
noncomputable def YY (ms:List Nat) (i:Nat) (mv mi:MEx):MSt:=fun γ=>match γ[i]? with
  | some (.ow xs)=>(mv γ).bind fun r=>(mi γ).bind fun k=>match k with
    | .int j=>(ixN xs.length j).bind fun n=>if (flat r || !ms.contains i)=true then some (.nx ((Zd (flat r) ms γ).set i (.ow (xs.set n r)))) else none
    | _=>none
  | _=>none
theorem Qex {i:Nat} {x:Str} (hx:PE X (.Name x p2) (tVar i)) (hv:EM X ms e mv) (hi:EM X ns b mi) (hs:swapsWithSole [.Subscript (.Name x p2) b p3] e pos.line X.env=pure false:=by rfl) (hw:swappedStores [.Subscript (.Name x p2) b p3] e X.env=pure none:=by rfl)
    (h1:(assignEach [.Subscript (.Name x p2) b p3] X.env).map (·.2)=[assign (.Subscript (.Name x p2) b p3) X.env]:=by rfl)
    (ha:∀ v,assign (.Subscript (.Name x p2) b p3) X.env v=(do
      let ov ← holding [v] (eval (.Name x p2) X.env)
      let iv ← holding [v,ov] (eval b X.env)
      standAt p3
      holding [v,ov,iv] (setItem ov iv v)
      release [v,ov,iv] []):=by intro _;rfl):SM X (.Assign [.Subscript (.Name x p2) b p3] e pos) (YY ms i mv mi):=PS.imp (ps_asg hv (pg_sub hx hi set_list ha) hs hw h1) fun D σ H ⟨B,F₀,F,γ,o,S,e,ok⟩=>by
  unfold YY at e
  split at e
  · rename_i xs hi
    obtain ⟨r,e1,e⟩:=Qg e
    obtain ⟨k,e2,e⟩:=Qg e
    split at e
    · rename_i j
      obtain ⟨n,e3,e⟩:=Qg e
      obtain ⟨c,rfl⟩:=QC e
      obtain ⟨F1,S1,x1,er⟩:=S.see ms
      refine ⟨F1,γ,r,S1.sub,er,e1,fun v H' F' g q => ?_⟩
      obtain ⟨F2,S2,q2⟩:=S.val S1 g q
      have hi2:=Qbf (k:=flat r) hi c
      obtain ⟨a,vs,k1,_⟩:=S2.ow i xs hi2
      obtain ⟨F3,S3,x3,er3⟩:=S2.see ns
      refine ⟨.ref a,k1,F3,γ,.int j,S3.sub,er3.of_getV (Qfo _ _ _),e2,fun kv H2 F4 g2 qk => ?_⟩
      unfold Rep at qk
      have S4:=S2.same g2.same
      obtain ⟨a4,vs4,l1,l2,l3,_⟩:=S4.ow i xs hi2
      rw [k1] at l1
      cases l1
      refine ⟨a,vs4,j,n,rfl,qk,l2,by rw [l3.length];exact e3,?_⟩
      exact ok _ _ F2 (S4.write hi2 k1 (l3.set n q2))
    · cases e
  · cases e

structure ItRep (K:PySem.W.Frag) (J:It) (F:Hp) (xs:List PV):Prop where
  go:∀ i H,i < xs.length→Same F H→J.go i H
  yld:∀ i H x H',i < xs.length→Same F H→J.yld i H x H'→∃ p,xs[i]?=some p∧∀ F1,Same F F1→Same F1 H→∃ F2,Grow F1 H F2 H'∧Rep K F2 p x
  stop:∀ H,Same F H→J.stop xs.length H
noncomputable def tMI (K:PySem.W.Frag) (ms:List Nat) (m:PEnv→Option (List PV)):TI:=fun σ H R=>∃ F γ xs,Same F H∧ERep K F σ γ ms∧m γ=some xs∧∀ J H' F',Grow F H F' H'→ItRep K J F' xs→R J H'
noncomputable def IM (X:Cx) (ms:List Nat) (tg iter:Expr) (m:PEnv→Option (List PV)):Prop:=PI X tg iter (tMI X.K ms m)
theorem _root_.L2.PI.imp {tg:Expr} {t t':TI} (h:PI X tg e t) (i:∀ σ H R,t' σ H R→t σ H R):PI X tg e t':=fun pins s σ H R I q=>h pins s σ H R I (i σ H R q)
noncomputable def iLst (m:MEx):PEnv→Option (List PV):=fun γ=>(m γ).bind fun p=>match p with
  | .lst xs=>some xs
  | _=>none
noncomputable def iTpl (m:MEx):PEnv→Option (List PV):=fun γ=>(m γ).bind fun p=>match p with
  | .tup xs=>some xs
  | _=>none
theorem QfR {tg:Expr} (h:EM X ms e m):IM X ms tg e (iLst m):=PI.imp (pi_list h) fun σ H R ⟨F,γ,xs,h1,h2,h3,w⟩=>by
  obtain ⟨p,e1,e2⟩:=Qg h3
  refine ⟨F,γ,p,h1,h2,e1,fun v H' F' g q => ?_⟩
  cases p with
  | lst ys =>
    cases e2
    unfold Rep at q
    obtain ⟨a,vs,rfl,k2,k3⟩:=q
    refine ⟨a,rfl,⟨vs,g.sub.seq k2⟩,w _ _ _ g ?_⟩
    refine ⟨fun i H hi e => ?_,fun i H x H' hi e y => ?_,fun H e => ?_⟩
    · have hv:i < vs.length:=by rw [k3.length];exact hi
      exact ⟨vs,vs[i],e.seq k2,by simp [hv]⟩
    · obtain ⟨rfl,y⟩:=y
      obtain ⟨p,e2,e3⟩:=k3.back (y vs (e.seq k2))
      exact ⟨p,e2,fun F1 x1 x2=>⟨F1,.refl x2,e3.mono x1⟩⟩
    · exact ⟨vs,e.seq k2,by rw [k3.length];exact Nat.le_refl _⟩
  | _=>cases e2
theorem im_tup {tg:Expr} (h:EM X ms e m):IM X ms tg e (iTpl m):=PI.imp (pi_tup h) fun σ H R ⟨F,γ,xs,h1,h2,h3,w⟩=>by
  obtain ⟨p,e1,e2⟩:=Qg h3
  refine ⟨F,γ,p,h1,h2,e1,fun v H' F' g q => ?_⟩
  cases p with
  | tup ys =>
    cases e2
    unfold Rep at q
    obtain ⟨a,vs,rfl,k2,k3⟩:=q
    refine ⟨a,rfl,⟨vs,g.sub.seqT k2⟩,w _ _ _ g ?_⟩
    refine ⟨fun i H hi e => ?_,fun i H x H' hi e y => ?_,fun H e => ?_⟩
    · have hv:i < vs.length:=by rw [k3.length];exact hi
      exact ⟨vs,vs[i],e.seqT k2,by simp [hv]⟩
    · obtain ⟨rfl,y⟩:=y
      obtain ⟨p,e2,e3⟩:=k3.back (y vs (e.seqT k2))
      exact ⟨p,e2,fun F1 x1 x2=>⟨F1,.refl x2,e3.mono x1⟩⟩
    · exact ⟨vs,e.seqT k2,by rw [k3.length];exact Nat.le_refl _⟩
  | _=>cases e2
noncomputable def rngL (lo hi:Int):List PV:=(List.range (hi - lo).toNat).map fun k => .int (lo + (k:Nat))
theorem Qcl (lo hi:Int):(rngL lo hi).length=(hi - lo).toNat:=by simp [rngL]
theorem QdM {K:PySem.W.Frag} {F:Hp} (lo hi:Int):ItRep K (Itr lo (hi - lo).toNat) F (rngL lo hi):=by
  refine ⟨fun i H hi' e => ?_,fun i H x H' hi' e y => ?_,fun H e => ?_⟩
  · rw [Qcl] at hi';exact hi'
  · obtain ⟨rfl,rfl⟩:=y
    rw [Qcl] at hi'
    exact ⟨.int (lo + i),by simp [rngL,hi'],fun F1 x1 x2=>⟨F1,.refl x2,Zz _⟩⟩
  · show (hi - lo).toNat≤_
    rw [Qcl];exact Nat.le_refl _
noncomputable def rOk (j:Int):Bool:=cls (-(2 ^ 62)≤j∧j < 2 ^ 62)
theorem XR {j:Int} (h:rOk j=true) : -(2 ^ 62)≤j∧j < 2 ^ 62:=XU h
theorem QfM {j:Int} (h1 : -(2 ^ 62)≤j) (h2:j < 2 ^ 62):rOk j=true:=QbG ⟨h1,h2⟩
noncomputable def iRg1 (m:MEx):PEnv→Option (List PV):=fun γ=>(m γ).bind fun p=>match p with
  | .int j=>if rOk j=true then some (rngL 0 j) else none
  | _=>none
noncomputable def iRg2 (m1 m2:MEx):PEnv→Option (List PV):=fun γ=>(m1 γ).bind fun p=>(m2 γ).bind fun q=>match p,q with
  | .int i,.int j=>if rOk i=true∧rOk j=true then some (rngL i j) else none
  | _,_=>none
theorem Qhc {tg:Expr} (hg:Gl X "range") (hm:X.mg "range"=none) (ha:AM X ms [a] (Qc m aNil)) (hs:starEach [a] X.env=[(false,eval a X.env)]:=by rfl):IM X ms tg (.Call (.Name "range" p2) [a] [] pos) (iRg1 m) :=
  PI.imp (Qda hg hm ha hs) fun σ H R ⟨F,γ,xs,h1,h2,h3,w⟩=>by
    obtain ⟨p,e1,e2⟩:=Qg h3
    refine ⟨F,γ,[p],h1,h2,by simp [Qc,aNil,e1],fun vs H' F' g q => ?_⟩
    unfold RepL at q
    obtain ⟨v,t,rfl,q,qt⟩:=q
    unfold RepL at qt
    subst qt
    cases p with
    | int j =>
      obtain ⟨c,rfl⟩:=QC e2
      obtain ⟨c1,c2⟩:=XR c
      unfold Rep at q
      subst q
      refine ⟨j,rfl,c1,c2,w _ _ _ g ?_⟩
      have:=QdM (K:=X.K) (F:=F') 0 j
      simpa using this
    | _=>cases e2
noncomputable def forL (g:PV→PEnv→Option PEnv) (b:MSt):List PV→PEnv→Option Out
  | [],γ=>some (.nx γ)
  | x :: xs,γ=>(g x γ).bind fun γ1=>(b γ1).bind fun o=>match o with
    | .nx γ2=>forL g b xs γ2
    | .ct γ2=>forL g b xs γ2
    | .bk γ2=>some (.nx γ2)
    | .rt p=>some (.rt p)
    | .ro ys=>some (.ro ys)
noncomputable def sFor (ms:List Nat) (mi:PEnv→Option (List PV)) (g:PV→PEnv→Option PEnv) (b:MSt):MSt:=fun γ=>(mi γ).bind fun xs=>forL g b xs (frz ms γ)
theorem QeM {K:PySem.W.Frag} {g:PV→PEnv→Option PEnv} {ts:List Nat} {sb:MSt} {D:Ends} {B F₀ F' H':Hp} {J:It} {xs:List PV} {γ1:PEnv} {σ:St} {o:Out} (S1:SR K B F₀ F' σ H' γ1) (it:ItRep K J F' xs) (e2:forL g sb xs γ1=some o) (ok:QhI K B F₀ D o) :
    ∃ W:Nat→Nat→St→Hp→Prop,(∃ m,W 0 m σ H')∧∀ i m σ H,W i m σ H →
      (J.stop i H∧D.nx σ H)∨(J.go i H∧∃ N:St→Hp→Prop,(∀ σ' H',N σ' H'→∃ m',m' < m∧W (i + 1) m' σ' H')∧∀ x H',J.yld i H x H'→tMG K ts g x σ H' fun σ2 H2=>tMS K sb { D with nx:=N,ct:=N,bk:=D.nx } σ2 H2):=by
  refine ⟨fun i m σ H=>m=xs.length - i∧i≤xs.length∧∃ F γ,SR K B F₀ F σ H γ∧Same F' F∧forL g sb (xs.drop i) γ=some o,⟨xs.length,by simp,Nat.zero_le _,F',γ1,S1,Same.refl _,by simpa using e2⟩,?_⟩
  rintro i m σ2 H2 ⟨rfl,hi,F2,γ2,S2,x2,e2⟩
  by_cases hlt:i < xs.length
  · refine .inr ⟨it.go i H2 hlt (x2.trans S2.sub),fun σ H=>∃ F γ,SR K B F₀ F σ H γ∧Same F' F∧forL g sb (xs.drop (i + 1)) γ=some o,fun σ' H' q=>⟨xs.length - (i + 1),by omega,rfl,hlt,q⟩,fun x H3 y => ?_⟩
    obtain ⟨p,e3,hy⟩:=it.yld i H2 x H3 hlt (x2.trans S2.sub) y
    obtain ⟨F3,g3,r3⟩:=hy F2 x2 S2.sub
    have S3:=S2.grow g3
    have ed:xs.drop i=p :: xs.drop (i + 1):=by
      have q:=(List.getElem?_eq_some_iff.mp e3)
      obtain ⟨q1,q2⟩:=q
      rw [← q2]
      exact List.drop_eq_getElem_cons q1
    rw [ed] at e2
    unfold forL at e2
    obtain ⟨γ4,e4,e2⟩:=Qg e2
    obtain ⟨ob,e5,e2⟩:=Qg e2
    refine ⟨B,F₀,F3,γ2,p,γ4,S3,r3,e4,fun σ4 S4 _ _ => ?_⟩
    have x3:Same F' F3:=x2.trans g3.ext
    refine ⟨B,F',F3,γ4,ob,S4.up S1.f0 x3,e5,?_⟩
    cases ob with
    | nx γ5=>exact fun σ H F S=>⟨F,γ5,S.down S1.f0 S1.fb,S.f0,e2⟩
    | ct γ5=>exact fun σ H F S=>⟨F,γ5,S.down S1.f0 S1.fb,S.f0,e2⟩
    | bk γ5 =>
      cases e2
      exact fun σ H F S=>ok σ H F (S.down S1.f0 S1.fb)
    | rt p =>
      cases e2
      exact fun v H F gr r=>ok v H F (gr.down S1.f0 S1.fb) r
    | ro ys =>
      cases e2
      exact fun a vs H F gr n nF hH r=>ok a vs H F (gr.down S1.f0 S1.fb) n nF hH r
  · have e:i=xs.length:=by omega
    subst e
    rw [List.drop_length] at e2
    cases e2
    exact .inl ⟨it.stop H2 (x2.trans S2.sub),ok σ2 H2 F2 S2⟩
theorem QfJ {tg iter:Expr} {ts:List Nat} {mi:PEnv→Option (List PV)} {g:PV→PEnv→Option PEnv} {sb:MSt} {body:List Stmt} (hp:PassesOwn (model X.prog X.w) X.A X.env X.xe) (hc:X.calm=true) (hi:IM X ms tg iter mi) (hg:GM X ts tg g) (hb:SMs X body sb)
    (hs:∀ x,foldedSetIterable iter X.env x=pure x:=by intro _;rfl):SM X (.For tg iter body [] pos) (sFor ms mi g sb):=PS.imp (ps_for hp hc hi hg hb hs) fun D σ H ⟨B,F₀,F,γ,o,S,e,ok⟩=>by
  obtain ⟨xs,e1,e2⟩:=Qg e
  obtain ⟨F1,S1,x1,er⟩:=S.see ms
  exact ⟨F1,γ,xs,S1.sub,er,e1,fun J H' F' gr it=>QeM (S1.grow gr) it e2 ok⟩
noncomputable def Qak (mi:PEnv→Option (List PV)) (g:PV→PEnv→Option PEnv) (b:MSt):MSt:=fun γ=>(mi γ).bind fun xs=>forL g b xs γ
noncomputable def IMR (X:Cx) (ms:List Nat) (tg iter:Expr) (m:PEnv→Option (List PV)):Prop:=PI X tg iter fun σ H R=>∃ F γ xs,Same F H∧ERep X.K F σ γ ms∧m γ=some xs∧∀ J H',Same H H'→(∀ F,ItRep X.K J F xs)→R J H'
theorem YO {tg iter:Expr} {ts:List Nat} {mi:PEnv→Option (List PV)} {g:PV→PEnv→Option PEnv} {sb:MSt} {body:List Stmt} (hp:PassesOwn (model X.prog X.w) X.A X.env X.xe) (hc:X.calm=true) (hi:IMR X ms tg iter mi) (hg:GM X ts tg g) (hb:SMs X body sb)
    (hs:∀ x,foldedSetIterable iter X.env x=pure x:=by intro _;rfl):SM X (.For tg iter body [] pos) (Qak mi g sb):=PS.imp (ps_for hp hc hi hg hb hs) fun D σ H ⟨B,F₀,F,γ,o,S,e,ok⟩=>by
  obtain ⟨xs,e1,e2⟩:=Qg e
  obtain ⟨F1,S1,x1,er⟩:=S.see ms
  exact ⟨F1,γ,xs,S1.sub,er,e1,fun J H' sm it=>QeM (S.same sm) (it F) e2 ok⟩
theorem ZM {tg:Expr} (hg:Gl X "range") (hm:X.mg "range"=none) (ha:AM X ms [a] (Qc m aNil)) (hs:starEach [a] X.env=[(false,eval a X.env)]:=by rfl):IMR X ms tg (.Call (.Name "range" p2) [a] [] pos) (iRg1 m) :=
  PI.imp (Qda hg hm ha hs) fun σ H R ⟨F,γ,xs,h1,h2,h3,w⟩=>by
    obtain ⟨p,e1,e2⟩:=Qg h3
    refine ⟨F,γ,[p],h1,h2,by simp [Qc,aNil,e1],fun vs H' F' g q => ?_⟩
    unfold RepL at q
    obtain ⟨v,t,rfl,q,qt⟩:=q
    unfold RepL at qt
    subst qt
    cases p with
    | int j =>
      obtain ⟨c,rfl⟩:=QC e2
      obtain ⟨c1,c2⟩:=XR c
      unfold Rep at q
      subst q
      refine ⟨j,rfl,c1,c2,w _ _ g.same fun F => ?_⟩
      have:=QdM (K:=X.K) (F:=F) 0 j
      simpa using this
    | _=>cases e2
theorem Qfn {tg:Expr} (hg:Gl X "range") (hm:X.mg "range"=none) (ha:AM X ms [a,b] (Qc m1 (Qc m2 aNil))) (hs:starEach [a,b] X.env=[(false,eval a X.env),(false,eval b X.env)]:=by rfl) (hs2:starEach [b] X.env=[(false,eval b X.env)]:=by rfl):IMR X ms tg (.Call (.Name "range" p2) [a,b] [] pos) (iRg2 m1 m2) :=
  PI.imp (QgQ hg hm ha hs hs2) fun σ H R ⟨F,γ,xs,h1,h2,h3,w⟩=>by
    obtain ⟨p,e1,e0⟩:=Qg h3
    obtain ⟨p',e1',e2⟩:=Qg e0
    clear e0
    refine ⟨F,γ,[p,p'],h1,h2,by simp [Qc,aNil,e1,e1'],fun vs H' F' g q => ?_⟩
    unfold RepL at q
    obtain ⟨v,t,rfl,q,qt⟩:=q
    unfold RepL at qt
    obtain ⟨v',t',rfl,q',qt⟩:=qt
    unfold RepL at qt
    subst qt
    cases p <;> cases p' <;> first
      | (exfalso;cases e2;done)
      | skip
    rename_i i j
    have e2:(if rOk i=true∧rOk j=true then some (rngL i j) else none)=some xs:=e2
    obtain ⟨⟨ci,cj⟩,rfl⟩:=QC e2
    have c : -(2 ^ 62)≤i∧i < 2 ^ 62 ∧ -(2 ^ 62)≤j∧j < 2 ^ 62:=⟨(XR ci).1,(XR ci).2,(XR cj).1,(XR cj).2⟩
    unfold Rep at q q'
    subst q q'
    exact ⟨i,j,rfl,c,w _ _ g.same fun F=>QdM i j⟩
end
end L2.PM

noncomputable section
namespace L2.PM
open PySem PySem.Spec PyProof.Rows

noncomputable def capS (γ:PEnv) (j:Nat):Slot:=match getV γ j with
  | some p => .fz p
  | none => .un
noncomputable def blkG (nt:Nat) (caps:List Nat) (γ:PEnv):PEnv:=List.replicate nt .un++caps.map (capS γ)
noncomputable def XA (g:PV→PEnv→Option PEnv) (t:PEnv→Option Bool) (e:MEx) (γ:PEnv):List PV→Option (List PV)
  | []=>some []
  | x :: xs=>(g x γ).bind fun γ1=>(t γ1).bind fun k=>if k=true then (e γ1).bind fun y=>(XA g t e γ xs).map (y :: ·) else XA g t e γ xs
noncomputable def QfD (mi:PEnv→Option (List PV)) (nt:Nat) (caps:List Nat) (g:PV→PEnv→Option PEnv) (t:PEnv→Option Bool) (e:MEx):PEnv→Option (List PV) :=
  fun γ=>(mi γ).bind fun xs=>if xs.length≤LIM then XA g t e (blkG nt caps γ) xs else none
noncomputable def Qbw:PEnv→Option Bool:=fun _=>some true
noncomputable def IfM (X:Cx) (ms:List Nat) (ifs:List Expr) (t:PEnv→Option Bool):Prop:=PIfs X ifs (tMT X.K ms t)
theorem QfS {X:Cx}:IfM X [] [] Qbw:=fun pins s σ H Q I ⟨F,γ,r,h1,h2,h3,w⟩=>pifs_nil pins s σ H Q I (by
  cases h3
  exact w H F (.refl h1))
theorem blk_sr {K:PySem.W.Frag} {F H:Hp} {σ:St} {γ:PEnv} {nt:Nat} {caps:List Nat} (h:Same F H) (er:ERep K F σ γ caps):SR K H F F (YJ nt caps σ) H (blkG nt caps γ):=by
  have key:∀ (i:Nat) (t:Slot),(blkG nt caps γ)[i]?=some t→t = .un∨∃ j p,caps[i - nt]?=some j∧nt≤i∧getV γ j=some p∧t = .fz p:=fun i t e=>by
    unfold blkG at e
    by_cases hi:i < nt
    · rw [List.getElem?_append_left (by simpa using hi),List.getElem?_replicate,if_pos hi] at e
      exact .inl (Option.some.inj e).symm
    · rw [List.getElem?_append_right (by simpa using hi),List.length_replicate,List.getElem?_map] at e
      cases q:caps[i - nt]? with
      | none=>rw [q] at e;cases e
      | some j =>
        rw [q] at e
        have e:capS γ j=t:=Option.some.inj e
        unfold capS at e
        split at e
        · rename_i p hp
          exact .inr ⟨j,p,rfl,by omega,hp,e.symm⟩
        · exact .inl e.symm
  refine ⟨h,Same.refl _,Same.refl _,fun a o e => .inl e,by simp [YJ,blkG],fun i p e => ?_,fun i xs e => ?_,fun i j xs ys a _ e => ?_,⟨fun i xs e => ?_,fun i j xs ys a _ e => ?_⟩⟩
  · rcases key i _ e with z | ⟨j,p',e1,hi,e2,z⟩
    · cases z
    · cases z
      obtain ⟨v,h1,h2⟩:=er j (List.mem_of_getElem? e1) p e2
      refine ⟨v,?_,h2⟩
      unfold YJ
      rw [List.getElem?_append_right (by simpa using hi),List.length_replicate,List.getElem?_map,e1]
      show some ((σ[j]?).getD none)=some (some v)
      rw [h1]
      rfl
  · rcases key i _ e with z | ⟨j,p',e1,hi,e2,z⟩ <;> cases z
  · rcases key i _ e with z | ⟨j',p',e1,hi,e2,z⟩ <;> cases z
  · rcases key i _ e with z | ⟨j,p',e1,hi,e2,z⟩ <;> cases z
  · rcases key i _ e with z | ⟨j',p',e1,hi,e2,z⟩ <;> cases z
theorem noOw_set {γ:PEnv} {i:Nat} {p:PV} (h:∀ (j:Nat),YC γ j):∀ (j:Nat),YC (γ.set i (.fz p)) j:=fun j=>by
  by_cases z:i=j
  · subst z
    by_cases hi:i < γ.length
    · exact ⟨(fun xs e=>by rw [List.getElem?_set_self hi] at e;cases e),(fun xs e=>by rw [List.getElem?_set_self hi] at e;cases e)⟩
    · exact ⟨(fun xs e=>by rw [List.getElem?_eq_none (by simpa using hi)] at e;cases e),(fun xs e=>by rw [List.getElem?_eq_none (by simpa using hi)] at e;cases e)⟩
  · exact ⟨(fun xs e=>by rw [List.getElem?_set_ne z] at e;exact (h j).1 xs e),(fun xs e=>by rw [List.getElem?_set_ne z] at e;exact (h j).2 xs e)⟩
theorem Qgy {nt:Nat} {caps:List Nat} {γ:PEnv} {j:Nat} {t:Slot} (e:(blkG nt caps γ)[j]?=some t):t = .un∨∃ p,t = .fz p:=by
  unfold blkG at e
  by_cases hi:j < nt
  · rw [List.getElem?_append_left (by simpa using hi),List.getElem?_replicate,if_pos hi] at e
    exact .inl (Option.some.inj e).symm
  · rw [List.getElem?_append_right (by simpa using hi),List.length_replicate,List.getElem?_map] at e
    cases q:caps[j - nt]? with
    | none=>rw [q] at e;cases e
    | some k =>
      rw [q] at e
      have e:capS γ k=t:=Option.some.inj e
      unfold capS at e
      split at e
      · exact .inr ⟨_,e.symm⟩
      · exact .inl e.symm
theorem noOw_blk {nt:Nat} {caps:List Nat} {γ:PEnv}:∀ (j:Nat),YC (blkG nt caps γ) j:=fun j =>
  ⟨(fun xs e=>by rcases Qgy e with z | ⟨p,z⟩ <;> cases z),(fun xs e=>by rcases Qgy e with z | ⟨p,z⟩ <;> cases z)⟩
noncomputable def NoOw (g:PV→PEnv→Option PEnv):Prop:=∀ p γ γ',g p γ=some γ'→(∀ (j:Nat),YC γ j)→∀ (j:Nat),YC γ' j
theorem Qbe (i:Nat):NoOw (gSet i):=fun p γ γ' e h=>by cases e;exact noOw_set h
section
variable {X:Cx} {pins:List (Addr×Obj)} {scope:Scope} {N':List Str} {nt:Nat} {caps:List Nat} {tg iter elt:Expr} {ifs:List Expr} {pos:Pos} {ms ns ls:List Nat} {ts:List Nat}
  {mi:PEnv→Option (List PV)} {g:PV→PEnv→Option PEnv} {t:PEnv→Option Bool} {m:MEx}
theorem Qhq {K:PySem.W.Frag} {F1 H1:Hp} {J:It} {σ:St} {γ:PEnv} {xs ys:List PV} {Qd:Addr→Hp→Prop} (hts:∀ i∈ts,i < nt) (hno:NoOw g) (h1:Same F1 H1) (er:ERep K F1 σ γ caps) (it:ItRep K J F1 xs) (hl:xs.length≤LIM) (e:XA g t m (blkG nt caps γ) xs=some ys)
    (w:∀ D vs H2 F2,Grow F1 H1 F2 H2→H1 D=none→F2 D=none→H2 D=some (.lst vs)→RepL K F2 ys vs→Qd D H2) :
    Qeb J nt caps (tMG K ts g) (tMT K ns t) (tM K ls m) σ H1 Qd:=by
  intro D hD
  have nF1:F1 D=none:=h1.free hD
  refine ⟨fun i k acc H=>k=xs.length - i∧i≤xs.length∧∃ F ps rest,Grow F1 H1 F H∧F D=none∧H D=some (.lst acc)∧RepL K F ps acc∧XA g t m (blkG nt caps γ) (xs.drop i)=some rest∧ps++rest=ys∧ps.length≤i,
    ⟨xs.length,by simp,Nat.zero_le _,F1,[],ys,.side h1 hD,nF1,Qp,.nil,by simpa using e,rfl,Nat.le_refl _⟩,?_⟩
  rintro i k acc H ⟨rfl,hi,F,ps,rest,gr,nF,hH,rp,e,ey,hpl⟩
  by_cases hlt:i < xs.length
  · refine .inr ⟨it.go i H hlt (gr.ext.trans gr.sub),fun x H3 y => ?_⟩
    obtain ⟨p,e3,hy⟩:=it.yld i H x H3 hlt (gr.ext.trans gr.sub) y
    obtain ⟨F3,g3,r3⟩:=hy F gr.ext gr.sub
    have ed:xs.drop i=p :: xs.drop (i + 1):=by
      obtain ⟨q1,q2⟩:=List.getElem?_eq_some_iff.mp e3
      rw [← q2]
      exact List.drop_eq_getElem_cons q1
    rw [ed] at e
    unfold XA at e
    obtain ⟨γ4,e4,e⟩:=Qg e
    obtain ⟨b,e5,e⟩:=Qg e
    have g13:=gr.trans g3
    have S3:=blk_sr (nt:=nt) g3.sub (er.mono g13.ext)
    refine ⟨H3,F3,F3,_,p,γ4,S3,r3,e4,fun σ4 S4 l4 k4=>⟨⟨l4,fun n v hv => ?_⟩,?_⟩⟩
    · by_cases hn:n∈ts
      · have hn':=hts n hn
        unfold YJ at hv
        rw [List.getElem?_append_left (by simpa using hn'),List.getElem?_replicate,if_pos hn'] at hv
        cases hv
      · rw [k4 n hn];exact hv
    · have no4:=hno p _ γ4 e4 noOw_blk
      refine ⟨F3,γ4,b,g3.sub,S4.erep fun j _=>no4 j,e5,fun H5 F5 g5 => ?_⟩
      have nD:∀ {F' H':Hp},Grow F H F' H'→F' D=none:=fun {F' H'} gg=>by
        cases q:F' D with
        | none=>rfl
        | some o =>
          rcases gg.new D o q with z | z
          · rw [nF] at z;cases z
          · rw [hH] at z;cases z
      dsimp only
      cases b with
      | true =>
        rw [if_pos rfl] at e ⊢
        obtain ⟨yv,e6,e⟩:=Qg e
        obtain ⟨rest',e7,e8⟩:=QZ e
        refine ⟨F5,γ4,yv,g5.sub,(S4.erep fun j _=>no4 j).mono g5.ext,e6,fun v H6 F6 g6 q6 => ?_⟩
        have gg:=g3.trans (g5.trans g6)
        have hD6:H6 D=some (.lst acc):=gg.same _ _ hH
        have nF6:=nD gg
        refine ⟨hD6,?_,xs.length - (i + 1),by omega,rfl,hlt,F6,ps++[yv],rest',?_,nF6,Qp,(rp.mono gg.ext).snoc q6,e7,?_,?_⟩
        · rw [rp.length]
          exact Nat.lt_of_lt_of_le (by omega) ZI
        · have g16:=gr.trans gg
          refine ⟨g16.ext,fun a o q => ?_,fun a o q => ?_,g16.new⟩
          · rw [Qk (Qn q nF6)];exact g16.sub a o q
          · rw [Qk (Qn q hD)];exact g16.same a o q
        · rw [List.append_assoc,List.singleton_append,e8];exact ey
        · rw [List.length_append,List.length_singleton];omega
      | false =>
        rw [if_neg Bool.false_ne_true] at e ⊢
        have gg:=g3.trans g5
        exact ⟨xs.length - (i + 1),by omega,rfl,hlt,F5,ps,rest,gr.trans gg,nD gg,gg.same _ _ hH,rp.mono gg.ext,e,ey,by omega⟩
  · have e':i=xs.length:=by omega
    subst e'
    rw [List.drop_length] at e
    cases e
    rw [List.append_nil] at ey
    subst ey
    exact .inl ⟨it.stop H (gr.ext.trans gr.sub),w D acc H F gr hD nF hH rp⟩
theorem QdP (hc:X.calm=true) (ck:CompOk X.N X.env.scope scope N' nt caps) (hts:∀ i∈ts,i < nt) (hno:NoOw g) (hi:IM X ms tg iter mi)
    (hg:∀ pins cl C s H fp,GM (Qan X pins N' (ZL X.env.scope scope) cl C s H fp) ts tg g)
    (ht:∀ pins cl C s H fp,IfM (Qan X pins N' (ZL X.env.scope scope) cl C s H fp) ns ifs t)
    (he:∀ pins cl C s H fp,EM (Qan X pins N' (ZL X.env.scope scope) cl C s H fp) ls elt m)
    (hs:∀ x,foldedSetIterable iter X.env x=pure x:=by intro _;rfl) (hrel:relabel scope X.env=ZL X.env.scope scope:=by rfl) :
    EO X (ms++caps) (.ListComp elt [⟨tg,iter,ifs,0⟩] scope pos) (QfD mi nt caps g t m) :=
  PE.imp (pe_comp (g:=tMG X.K ts g) (tc:=tMT X.K ns t) (te:=tM X.K ls m) hc ck hi hg ht he hs hrel) fun σ H Q ⟨F,γ,ys,h1,h2,h3,w⟩=>by
    obtain ⟨xs,e1,h3⟩:=Qg h3
    have hl:xs.length≤LIM:=by
      by_cases c:xs.length≤LIM
      · exact c
      · rw [if_neg c] at h3;cases h3
    rw [if_pos hl] at h3
    refine ⟨F,γ,xs,h1,h2.left,e1,fun J H1 F1 g1 it => ?_⟩
    exact Qhq hts hno g1.sub (h2.right.mono g1.ext) it hl h3 fun D vs H2 F2 g2 n nF hH q=>w D vs H2 F2 (g1.trans g2) (g1.same.free n) nF hH q
end

noncomputable def Zj (n:Nat) (ps:List PV):PEnv:=ps.map .fz++List.replicate (n - ps.length) .un
noncomputable def outV:Out→Option PV
  | .nx _=>some .non
  | .rt p=>some p
  | .ro xs=>some (.lst xs)
  | _=>none
noncomputable def outO:Out→Option (List PV)
  | .ro xs=>some xs
  | _=>none
noncomputable def runV (N n:Nat) (m:MSt) (ps:List PV):Option PV:=if ps.length=n then (m (Zj N ps)).bind outV else none
noncomputable def runO (N n:Nat) (m:MSt) (ps:List PV):Option (List PV):=if ps.length=n then (m (Zj N ps)).bind outO else none
theorem QP {N n:Nat} {m:MSt}:∀ ps r,runV N n m ps=some r→ps.length=n:=fun ps r h=>by
  unfold runV at h
  by_cases c:ps.length=n
  · exact c
  · rw [if_neg c] at h;cases h
theorem runO_len {N n:Nat} {m:MSt}:∀ ps r,runO N n m ps=some r→ps.length=n:=fun ps r h=>by
  unfold runO at h
  by_cases c:ps.length=n
  · exact c
  · rw [if_neg c] at h;cases h
theorem QaK {K:PySem.W.Frag} {F H:Hp} {N:List Str} {ps:List PV} {vs:List V} (h:Same F H) (r:RepL K F ps vs):SR K H F F (Yq N vs) H (Zj N.length ps):=by
  have key:∀ (i:Nat) (t:Slot),(Zj N.length ps)[i]?=some t→t = .un∨∃ p,ps[i]?=some p∧t = .fz p:=fun i t e=>by
    unfold Zj at e
    by_cases hi:i < ps.length
    · rw [List.getElem?_append_left (by simpa using hi),List.getElem?_map] at e
      cases q:ps[i]? with
      | none=>rw [q] at e;cases e
      | some p=>rw [q] at e;exact .inr ⟨p,rfl,(Option.some.inj e).symm⟩
    · rw [List.getElem?_append_right (by simpa using hi),List.getElem?_replicate] at e
      split at e
      · exact .inl (Option.some.inj e).symm
      · cases e
  refine ⟨h,Same.refl _,Same.refl _,fun a o e => .inl e,?_,fun i p e => ?_,fun i xs e => ?_,fun i j xs ys a _ e => ?_,⟨fun i xs e => ?_,fun i j xs ys a _ e => ?_⟩⟩
  · unfold Yq Zj
    rw [List.length_append,List.length_append,List.length_map,List.length_map,List.length_replicate,List.length_replicate,r.length]
  · rcases key i _ e with z | ⟨p',e1,z⟩
    · cases z
    · cases z
      obtain ⟨v,h1,h2⟩:=r.get e1
      refine ⟨v,?_,h2⟩
      unfold Yq
      have hi:i < vs.length:=(List.getElem?_eq_some_iff.mp h1).1
      rw [List.getElem?_append_left (by simpa using hi),List.getElem?_map,h1]
      rfl
  · rcases key i _ e with z | ⟨p',e1,z⟩ <;> cases z
  · rcases key i _ e with z | ⟨p',e1,z⟩ <;> cases z
  · rcases key i _ e with z | ⟨p',e1,z⟩ <;> cases z
  · rcases key i _ e with z | ⟨p',e1,z⟩ <;> cases z
section
variable {P:Program} {w:World} {K:PySem.W.Frag} {mg:Str→Option Value} {base:Heap}
theorem fnM {x qual:Str} {st:Stmt} {f:Addr} {fd:FuncData} {N ps:List Str} {k n:Nat} {m:MSt} (Fn:Fun K x qual st f fd) (Sc:FnScope N ps (Qf st)) (hn:ps.length=n)
    (hbody:∀ (cdv:Value) (A:Around) (outer:List Env) (s:Shared) (H:Hp) (E:XK),Room k (A.deeper (envOfC qual (Qf st) s.heap.objs.size f cdv)) →
      SMs (cxOf CX0 P w K mg base N qual (Qf st) f cdv A outer s H E).nox (Qm st) m):FnOk P w K mg base CX0 (k + 1) f fd ps (spM K n (runV N.length n m)):=by
  refine Fn.ok Sc (fun vs H Q E h=>by rw [h.1,hn]) fun cdv A outer s H vs Q E hr h => ?_
  refine ⟨_,hbody cdv A outer s H E hr,?_⟩
  obtain ⟨hl,F,qs,r,h1,h2,h3,wv⟩:=h
  unfold runV at h3
  have hq:qs.length=n:=by rw [← h2.length];exact hl
  rw [if_pos hq] at h3
  obtain ⟨o,e1,e2⟩:=Qg h3
  refine ⟨H,F,F,_,o,QaK h1 h2,e1,?_⟩
  cases o with
  | nx γ=>cases e2;exact fun σ' H' F' S=>wv .non H' F' S.gr Qcc
  | rt p=>cases e2;exact fun v H' F' g q=>wv v H' F' g q
  | ro xs=>cases e2;exact fun a vs H' F' g n nF hH q=>wv.of_lst a vs H' F' g n nF hH q
  | bk γ=>cases e2
  | ct γ=>cases e2
theorem fnO {x qual:Str} {st:Stmt} {f:Addr} {fd:FuncData} {N ps:List Str} {k n:Nat} {m:MSt} (Fn:Fun K x qual st f fd) (Sc:FnScope N ps (Qf st)) (hn:ps.length=n)
    (hbody:∀ (cdv:Value) (A:Around) (outer:List Env) (s:Shared) (H:Hp) (E:XK),Room k (A.deeper (envOfC qual (Qf st) s.heap.objs.size f cdv)) →
      SMs (cxOf CX0 P w K mg base N qual (Qf st) f cdv A outer s H E).nox (Qm st) m):FnOk P w K mg base CX0 (k + 1) f fd ps (spO K n (runO N.length n m)):=by
  refine Fn.ok Sc (fun vs H Q E h=>by rw [h.1,hn]) fun cdv A outer s H vs Q E hr h => ?_
  refine ⟨_,hbody cdv A outer s H E hr,?_⟩
  obtain ⟨hl,F,qs,r,h1,h2,h3,wv⟩:=h
  unfold runO at h3
  have hq:qs.length=n:=by rw [← h2.length];exact hl
  rw [if_pos hq] at h3
  obtain ⟨o,e1,e2⟩:=Qg h3
  refine ⟨H,F,F,_,o,QaK h1 h2,e1,?_⟩
  cases o with
  | ro xs=>cases e2;exact fun a vs H' F' g n nF hH q=>wv a vs H' F' g n nF hH q
  | nx γ=>cases e2
  | rt p=>cases e2
  | bk γ=>cases e2
  | ct γ=>cases e2
theorem _root_.L2.FnOk.sw {k n:Nat} {f:Addr} {fd:FuncData} {ps:List Str} {g g':List PV→Option PV} (F:FnOk P w K mg base CX0 k f fd ps (spM K n g)) (h:∀ qs r,g' qs=some r→g qs=some r):FnOk P w K mg base CX0 k f fd ps (spM K n g') :=
  F.imp fun vs H Q E ⟨hl,F,qs,r,h1,h2,h3,wv⟩=>⟨hl,F,qs,r,h1,h2,h qs r h3,wv⟩
end
end L2.PM

noncomputable section
namespace L2.PM
open PySem PySem.Spec PyProof.Rows

section
variable {X:Cx} {e a b c:Expr} {es:List Expr} {ms ns ls:List Nat} {m m1 m2 m3:MEx} {pos p p2 p3:Pos} {x:Str} {id T:String}

noncomputable def tyName:PV→String
  | .non => "NoneType"
  | .bl _ => "bool"
  | .int _ => "int"
  | .str _ => "str"
  | .tup _ => "tuple"
  | .lst _ => "list"
  | .obj _ _ _ => "object"
  | .opq _ => "object"
  | .dct _ => "object"
  | .dcw _ => "object"
noncomputable def isO:PV→Bool
  | .obj _ _ _=>true
  | .opq _=>true
  | .dct _=>true
  | .dcw _=>true
  | _=>false
noncomputable def isInt:PV→Bool
  | .int _=>true
  | .bl _=>true
  | _=>false
noncomputable def isBl:PV→Bool
  | .bl _=>true
  | _=>false
noncomputable def Qej:PV→Bool
  | .str _=>true
  | _=>false
noncomputable def Qei:PV→Bool
  | .tup _=>true
  | _=>false
noncomputable def isLst:PV→Bool
  | .lst _=>true
  | _=>false
noncomputable def Isi (T:String) (f:PV→Bool):Prop:=∀ (p:PV) (K:PySem.W.Frag),isO p=false→PySem.W.kitOne K (.type (tyName p)) (.type T)=some (f p)
theorem isi_int:Isi "int" isInt:=fun p K ho=>by cases p <;> first | (cases ho;done) | kernel_rfl
theorem isi_bl:Isi "bool" isBl:=fun p K ho=>by cases p <;> first | (cases ho;done) | kernel_rfl
theorem Qcd:Isi "str" Qej:=fun p K ho=>by cases p <;> first | (cases ho;done) | kernel_rfl
theorem Qgq:Isi "tuple" Qei:=fun p K ho=>by cases p <;> first | (cases ho;done) | kernel_rfl
theorem Qfk {pins:List (Addr×Obj)} {σ:St} {H F:Hp} {s:Shared} {A:Around} {E:Value→Shared→Prop} {Q:Value→Shared→Prop} {v:V} {u:Value} {q:PV} {f:PV→Bool} (I:Inv X pins σ H s) (hF:Same F H) (hi:Isi T f) (r:Rep X.K F q v) (rv:RelV v u)
    (ho:isO q=false) (h:∀ tk,Q (.bool (f q)) { s with toks:=tk }):wpAny (model X.prog X.w) A (call (.builtin "isinstance") [u,.type T]) Q E s:=by
  have e:=hi q X.K ho
  cases q with
  | non=>unfold Rep at r;subst r;cases rv;exact PySem.W.kia_one PySem.W.kitx_none I.kIn True.intro e (fun z=>nomatch z) h
  | bl y=>unfold Rep at r;subst r;cases rv;exact PySem.W.kia_one PySem.W.kitx_bool I.kIn True.intro e (fun z=>nomatch z) h
  | int y=>unfold Rep at r;subst r;obtain ⟨t,rfl⟩:=rv;exact PySem.W.kia_one PySem.W.kitx_int I.kIn True.intro e (fun z=>nomatch z) h
  | str y=>unfold Rep at r;subst r;obtain ⟨t,rfl⟩:=rv;exact PySem.W.kia_one PySem.W.kitx_str I.kIn True.intro e (fun z=>nomatch z) h
  | tup ys =>
    unfold Rep at r
    obtain ⟨a,vs,rfl,k2,_⟩:=r
    cases rv
    obtain ⟨its,_,⟨o,ho,hc,_⟩,_⟩:=I.tuple (hF.seqT k2)
    exact PySem.W.kia_one PySem.W.kitx_tuple I.kIn ⟨o,ho,hc⟩ e (fun z=>nomatch z) h
  | lst ys =>
    unfold Rep at r
    obtain ⟨a,vs,rfl,k2,_⟩:=r
    cases rv
    obtain ⟨its,_,⟨o,n,ho,hc,_⟩,_⟩:=I.list (hF.seq k2)
    exact PySem.W.kia_one PySem.W.kitx_list I.kIn ⟨o,ho,hc⟩ e (fun z=>nomatch z) h
  | obj=>cases ho
  | opq=>cases ho
  | dct=>cases ho
  | dcw=>cases ho
theorem Qeo {f:PV→Bool} (hi:Isi T f):Xj X (.builtin "isinstance") (fun vs H Q=>∃ F v q,vs=[v,.ty T]∧Same F H∧Rep X.K F q v∧isO q=false∧Q (.bl (f q)) H):=by
  intro pins s σ H vs us Q I rs h
  obtain ⟨F,v,q,rfl,h1,h2,ho,h3⟩:=h
  obtain ⟨u,w,rfl,ru,rw'⟩:=vals2 rs
  obtain rfl:w=Value.type T:=rw'
  exact Qfk I h1 hi h2 ru ho fun tk=>⟨.bl (f q),H,I.tok tk,rfl,h3⟩
noncomputable def isiK (f:PV→Bool) (q:PV):Option PV:=if isO q=false then some (.bl (f q)) else none
noncomputable def mIsi (f:PV→Bool) (m:MEx):MEx:=fun γ=>(m γ).bind (isiK f)
theorem ZS {f:PV→Bool} (hi:Isi T f) (h:EM X ms e m) (hg:Gl X "isinstance") (hm:X.mg "isinstance"=none) (hgT:Gl X x) (hmT:X.mg x=none) (hvT:bootBuiltins x=some (.type T))
    (hn:x ≠ "__name__":=by decide) (hdb:(x==("__debug__":Str))=false:=by decide)
    (hs1:starEach (e :: [.Name x p3]) X.env=(false,eval e X.env) :: starEach [.Name x p3] X.env:=by rfl) (hs2:starEach [.Name x p3] X.env=(false,eval (.Name x p3) X.env) :: starEach [] X.env:=by rfl) (hpl:(backTo pos (starEach [.Name x p3] X.env)).any (·.1)=false:=by rfl) :
    EM X ms (.Call (.Name "isinstance" p2) [e,.Name x p3] [] pos) (mIsi f m) :=
  PE.imp (XE (Qeo hi) hg hm (by kernel_rfl) (ZX h (ZX (Qgi (v := .ty T) hgT hmT hvT rfl hn hdb) Qbz hs2) hs1) (by decide) (by decide) hs1 hpl) fun σ H Q ⟨F,γ,r,k1,k2,k3,w⟩=>by
    obtain ⟨q,e1,e2⟩:=Qg k3
    obtain ⟨ho,e2⟩:=QC (show (if isO q=false then some (PV.bl (f q)) else none)=some r from e2)
    subst e2
    exact ⟨F,γ,q,k1,k2,e1,fun v H1 F1 g1 q1=>⟨F1,v,q,rfl,g1.sub,q1,ho,(w.go g1).here g1.sub (ZQ _)⟩⟩

noncomputable def pLen:List PV→Option PV
  | [.lst xs]=>some (.int xs.length)
  | [.tup xs]=>some (.int xs.length)
  | [.str z]=>if z.length≤LIM then some (.int z.length) else none
  | _=>none
theorem QY:QfG X (.builtin "len") pLen:=by
  intro pins s σ H vs us Q I rs h
  obtain ⟨F,ps,r,h1,h2,h3,w⟩:=h
  refine call_len pins s σ H vs us Q I rs ?_
  unfold pLen at h3
  split at h3
  · cases h3
    unfold RepL at h2
    obtain ⟨v,t,rfl,h2,ht⟩:=h2
    unfold RepL at ht
    subst ht
    unfold Rep at h2
    obtain ⟨a,us,rfl,k2,k3⟩:=h2
    exact ⟨.ref a,_,rfl,.inl ⟨us,h1.seq k2,k3.length.symm⟩,w.here h1 (Zz _)⟩
  · cases h3
    unfold RepL at h2
    obtain ⟨v,t,rfl,h2,ht⟩:=h2
    unfold RepL at ht
    subst ht
    unfold Rep at h2
    obtain ⟨a,us,rfl,k2,k3⟩:=h2
    exact ⟨.ref a,_,rfl,.inr ⟨us,h1.seqT k2,k3.length.symm⟩,w.here h1 (Zz _)⟩
  · rename_i z
    obtain ⟨c,rfl⟩:=QC h3
    unfold RepL at h2
    obtain ⟨v,t,rfl,h2,ht⟩:=h2
    unfold RepL at ht
    subst ht
    unfold Rep at h2
    subst h2
    exact ⟨.str z,_,rfl,⟨Nat.le_trans c ZI,rfl⟩,w.here h1 (Zz _)⟩
  · cases h3
noncomputable def QaG:List PV→Option PV
  | [.lst xs]=>some (.tup xs)
  | [.tup xs]=>some (.tup xs)
  | _=>none
theorem QeR:QfG X (.type "tuple") QaG:=by
  intro pins s σ H vs us Q I rs h
  obtain ⟨F,ps,r,h1,h2,h3,w⟩:=h
  refine QcJ pins s σ H vs us Q I rs ?_
  unfold QaG at h3
  split at h3
  · cases h3
    unfold RepL at h2
    obtain ⟨v,t,rfl,h2,ht⟩:=h2
    unfold RepL at ht
    subst ht
    unfold Rep at h2
    obtain ⟨a,us,rfl,k2,k3⟩:=h2
    refine ⟨a,us,rfl,.inl ⟨h1.seq k2,fun l hl=>w _ _ _ (.laid h1 hl) ?_⟩⟩
    unfold Rep
    exact ⟨l,us,rfl,.of Qp,k3.mono (Grow.laid h1 hl).ext⟩
  · cases h3
    unfold RepL at h2
    obtain ⟨v,t,rfl,h2,ht⟩:=h2
    unfold RepL at ht
    subst ht
    obtain ⟨a,us,rfl,k2,k3⟩:=(by unfold Rep at h2;exact h2:∃ a us,v = .ref a∧SqT X.K F a us∧RepL X.K F _ us)
    exact ⟨a,us,rfl,.inr ⟨h1.seqT k2,w.here h1 h2⟩⟩
  · cases h3
end
end L2.PM

noncomputable section
namespace L2.PM
open PySem PySem.Spec PyProof.Rows

noncomputable def Xh:List PV→Option (List Str)
  | []=>some []
  | .str i :: xs=>(Xh xs).map (i :: ·)
  | _ :: _=>none
theorem strs?_map (ns:List Str):Xh (ns.map .str)=some ns:=by
  induction ns with
  | nil=>rfl
  | cons n ns ih=>simp [Xh,ih]
theorem QcU:∀ {xs:List PV} {ns:List Str},Xh xs=some ns→xs=ns.map .str
  | [],ns,h=>by cases h;rfl
  | x :: xs,ns,h=>by
    cases x with
    | str i =>
      unfold Xh at h
      cases e:Xh xs with
      | none=>rw [e] at h;cases h
      | some ms=>rw [e] at h;cases h;rw [QcU e];rfl
    | _=>cases h
theorem QbP {K:PySem.W.Frag} {F:Hp}:∀ (ns:List Int),RepL K F (ns.map .int) (ns.map V.int)
  | [] => .nil
  | n :: ns => .cons (Zz n) (QbP ns)
theorem QcX {K:PySem.W.Frag} {F:Hp}:∀ {ns:List Str} {vs:List V},RepL K F (ns.map .str) vs→vs=ns.map V.str
  | [],vs,h=>by rw [List.map_nil] at h;unfold RepL at h;exact h
  | n :: ns,vs,h=>by
    rw [List.map_cons] at h
    unfold RepL at h
    obtain ⟨v,r,rfl,h2,h3⟩:=h
    unfold Rep at h2
    rw [h2,QcX h3]
    rfl
theorem Qab {K:PySem.W.Frag} {F:Hp}:∀ (ns:List Str),RepL K F (ns.map .str) (ns.map V.str)
  | [] => .nil
  | n :: ns => .cons (XQ n) (Qab ns)
theorem QbN:∀ {ns:List Str} {us:List Value},Vals (ns.map V.str) us→StrsAre us ns
  | [],us,r=>by rw [List.map_nil] at r;cases r;exact .nil
  | n :: ns,us,r=>by
    rw [List.map_cons] at r
    cases r with
    | cons r1 r2 =>
      obtain ⟨t,e⟩:=r1
      subst e
      exact .cons n t (QbN r2)
section
variable {X:Cx} {e a b c:Expr} {es:List Expr} {ms ns ls:List Nat} {m m1 m2 m3:MEx} {pos p p2 p3:Pos} {x:Str} {id T:String}
noncomputable def sLe (a b:Str):Bool := !decide (b.cps.toList < a.cps.toList)
noncomputable def rMt (K:PySem.W.Frag) (g:PV→List PV→Option PV):V→List V→Hp→VK→Prop:=fun x vs H Q=>∃ F p ps r,Same F H∧Rep K F p x∧RepL K F ps vs∧g p ps=some r∧Wv K F H r Q
noncomputable def rMtO (K:PySem.W.Frag) (g:PV→List PV→Option (List PV)):V→List V→Hp→VK→Prop:=fun x vs H Q=>∃ F p ps r,Same F H∧Rep K F p x∧RepL K F ps vs∧g p ps=some r∧Wo K F H r Q
noncomputable def tyOk (T:String):PV→Bool
  | .str _=>T == "str"
  | .int _=>T == "int"
  | .lst _=>T == "list"
  | _=>false
noncomputable def mMt (T:String) (g:PV→List PV→Option α) (m:MEx) (ma:PEnv→Option (List PV)):PEnv→Option α:=fun γ=>(m γ).bind fun p=>if tyOk T p=true then (ma γ).bind fun ps=>g p ps else none
theorem Qgb {K:PySem.W.Frag} {F H:Hp} {p:PV} {v:V} (h:Same F H) (r:Rep K F p v) (t:tyOk T p=true):tyV K T v H:=by
  cases p with
  | str z=>unfold Rep at r;subst r;exact eq_of_beq t
  | int z=>unfold Rep at r;subst r;exact eq_of_beq t
  | lst xs=>unfold Rep at r;obtain ⟨a,vs,rfl,k2,_⟩:=r;exact .inl ⟨eq_of_beq t,vs,h.seq k2⟩
  | _=>cases t
variable {o:Expr} {ma:PEnv→Option (List PV)}
theorem em_mt {g:PV→List PV→Option PV} (h:EM X ms o m) (ha:AM X ns (e :: es) ma) {name:Str} {apos cpos:Pos}
    (hp:PE X (.Call (.Attribute o name apos) (e :: es) [] cpos) (tBM X.K T (rMt X.K g) (tM X.K ms m) (tMA X.K ns ma))):EM X (ms++ns) (.Call (.Attribute o name apos) (e :: es) [] cpos) (mMt T g m ma) :=
  PE.imp hp fun σ H Q ⟨F,γ,r,k1,k2,k3,w⟩=>by
    obtain ⟨p,e1,k3⟩:=Qg k3
    have c:tyOk T p=true:=by
      by_cases c:tyOk T p=true
      · exact c
      · rw [if_neg c] at k3;cases k3
    rw [if_pos c] at k3
    obtain ⟨ps,e2,k3⟩:=Qg k3
    refine ⟨F,γ,p,k1,k2.left,e1,fun v H1 F1 g1 q1=>⟨Qgb g1.sub q1 c,F1,γ,ps,g1.sub,k2.right.mono g1.ext,e2,fun vs H2 F2 g2 q2 => ?_⟩⟩
    exact ⟨F2,p,ps,r,g2.sub,q1.mono g2.ext,q2,k3,w.go (g1.trans g2)⟩
theorem eo_mt {g:PV→List PV→Option (List PV)} (h:EM X ms o m) (ha:AM X ns (e :: es) ma) {name:Str} {apos cpos:Pos}
    (hp:PE X (.Call (.Attribute o name apos) (e :: es) [] cpos) (tBM X.K T (rMtO X.K g) (tM X.K ms m) (tMA X.K ns ma))):EO X (ms++ns) (.Call (.Attribute o name apos) (e :: es) [] cpos) (mMt T g m ma) :=
  PE.imp hp fun σ H Q ⟨F,γ,r,k1,k2,k3,w⟩=>by
    obtain ⟨p,e1,k3⟩:=Qg k3
    have c:tyOk T p=true:=by
      by_cases c:tyOk T p=true
      · exact c
      · rw [if_neg c] at k3;cases k3
    rw [if_pos c] at k3
    obtain ⟨ps,e2,k3⟩:=Qg k3
    refine ⟨F,γ,p,k1,k2.left,e1,fun v H1 F1 g1 q1=>⟨Qgb g1.sub q1 c,F1,γ,ps,g1.sub,k2.right.mono g1.ext,e2,fun vs H2 F2 g2 q2 => ?_⟩⟩
    exact ⟨F2,p,ps,r,g2.sub,q1.mono g2.ext,q2,k3,w.go (g1.trans g2)⟩
noncomputable def mMt0 (T:String) (g:PV→List PV→Option α) (m:MEx):PEnv→Option α:=fun γ=>(m γ).bind fun p=>if tyOk T p=true then g p [] else none
noncomputable def Qfy:PV→List PV→Option PV
  | .str x,[.lst xs]=>match Xh xs with
    | some ys=>if (ys.map (·.length)).sum + ys.length * x.length≤LIM then some (.str (Txt.join x ys)) else none
    | none=>none
  | _,_=>none
theorem mm_join:MtR X "str.join" (rMt X.K Qfy):=by
  intro pins s σ H x xs v us Q I rx rs h
  obtain ⟨F,p,ps,r,h1,h2,h3,h4,w⟩:=h
  unfold Qfy at h4
  split at h4
  · rename_i sep zs
    split at h4
    · rename_i ys hys
      obtain ⟨c,rfl⟩:=QC h4
      unfold Rep at h2
      subst h2
      obtain ⟨t,rfl⟩:=rx
      unfold RepL at h3
      obtain ⟨v1,r1,rfl,h3,ht⟩:=h3
      unfold RepL at ht
      subst ht
      unfold Rep at h3
      obtain ⟨a,ws,rfl,k2,k3⟩:=h3
      obtain ⟨u,rfl,ru⟩:=Qds rs
      cases ru
      have e2:=QcU hys
      subst e2
      have e3:=QcX k3
      subst e3
      obtain ⟨its,rv,pl,_⟩:=I.list (h1.seq k2)
      refine join_list pl.isList (by simpa using QbN rv) (Nat.le_trans c (by decide)) fun t' k=>⟨.str _,H,I.tok _,⟨_,rfl⟩,w.here h1 (XQ _)⟩
    · cases h4
  · cases h4
theorem em_join {apos cpos:Pos} (h:EM X ms o m) (ha:AM X ns (e :: es) ma) (hbase:attributeBase o "join" X.env (eval o X.env)=eval o X.env:=by rfl)
    (hfew:((backTo cpos (starEach (e :: es) X.env)).all (fun x => !x.1)&&(backToKw cpos (keywordEach [] X.env)).all (fun x=>x.1.isSome)
      && decide ((e :: es).length + ([]:List Keyword).length + (if ([]:List Keyword).isEmpty then 0 else 1) < 30))=true:=by rfl)
    (hline:(apos.endLine==cpos.line)=true:=by rfl) (hs:starEach (e :: es) X.env=(false,eval e X.env) :: starEach es X.env:=by rfl) (hplain:(backTo cpos (starEach es X.env)).any (·.1)=false:=by rfl) :
    EM X (ms++ns) (.Call (.Attribute o "join" apos) (e :: es) [] cpos) (mMt "str" Qfy m ma) :=
  em_mt h ha (Qdt PySem.F.plainAttrs_str PySem.F.slot_str_join PySem.F.type_str_join mm_join h ha hbase hfew hline hs hplain)

noncomputable def rSlS:V→Option Int→Option Int→Hp→VK→Prop:=fun x lo hi H Q=>∃ z,x = .str z∧z.length≤sizeLine∧Q (.str (Txt.slice z lo hi)) H
theorem Qfl {h:Heap} {a:Addr} {vl vu:Value} {lo hi:Option Int} (hs:h.IsSliceOf a vl vu .none) (pl:IsPart vl lo) (pu:IsPart vu hi):∃ l u,h.IsSlice a l u none∧l.map (·.1)=lo∧u.map (·.1)=hi:=by
  cases pl with
  | none =>
    cases pu with
    | none=>exact ⟨none,none,hs,rfl,rfl⟩
    | int j t=>exact ⟨none,some (j,t),hs,rfl,rfl⟩
  | int i t' =>
    cases pu with
    | none=>exact ⟨some (i,t'),none,hs,rfl,rfl⟩
    | int j t=>exact ⟨some (i,t'),some (j,t),hs,rfl,rfl⟩
theorem sl_str:SlR X rSlS:=by
  intro pins s σ H x v vl vu lo hi sl Q I rx hs pl pu h
  obtain ⟨z,rfl,hz,q⟩:=h
  obtain ⟨t,rfl⟩:=rx
  obtain ⟨l,u,hsl,rfl,rfl⟩:=Qfl hs pl pu
  refine ⟨"str",_,PySem.F.slot_str_getitem.lookup,typeIs_str _ _ _,wpAny_getItem_str_slice (l:=l) (u:=u) (st:=none) hsl rfl ?_⟩
  exact post_val_or_str ⟨Nat.le_trans (Txt.slice_le z _ _) hz,fun t' k=>⟨.str _,H,I.tok _,⟨_,rfl⟩,q⟩⟩
noncomputable def Qhz:PV→Option Int→Option Int→Option PV
  | .str z,lo,hi=>if z.length≤LIM then some (.str (Txt.slice z lo hi)) else none
  | _,_,_=>none
variable {lo hi:Option Expr} {ml mh:PEnv→Option (Option Int)}
theorem Qgw (he:EM X ms e m) (hl:OM X ns lo ml) (hh:OM X ls hi mh):EM X (ms++(ns++ls)) (.Subscript e (.Slice lo hi none p2) pos) (sl3 Qhz m ml mh):=by
  refine PE.imp (QeD sl_str he hl hh) fun σ H Q ⟨F,γ,r,h1,h2,h3,w⟩ => ?_
  obtain ⟨x,e1,h3⟩:=Qg h3
  obtain ⟨l,e2,h3⟩:=Qg h3
  obtain ⟨h,e3,h3⟩:=Qg h3
  refine ⟨F,γ,x,h1,h2.left,e1,fun vx H1 F1 g1 r1=>⟨F1,γ,l,g1.sub,h2.right.left.mono g1.ext,e2,fun H2 F2 g2=>⟨F2,γ,h,g2.sub,h2.right.right.mono (g1.ext.trans g2.ext),e3,fun H3 F3 g3 => ?_⟩⟩⟩
  have g:=g1.trans (g2.trans g3)
  cases x with
  | str z =>
    have h3:(if z.length≤LIM then some (PV.str (Txt.slice z l h)) else none)=some r:=h3
    obtain ⟨c,rfl⟩:=QC h3
    unfold Rep at r1
    exact ⟨z,r1,Nat.le_trans c ZI,(w.go g).here g.sub (XQ _)⟩
  | _=>cases h3
end
end L2.PM

noncomputable section
namespace L2.PM
open PySem PySem.Spec PyProof.Rows

section
variable {X:Cx} {e a b c:Expr} {es:List Expr} {ms ns ls:List Nat} {m m1 m2 m3:MEx} {pos p p1 p2 p3 pos':Pos} {x:Str} {id T:String}
end
end L2.PM

noncomputable section
namespace L2.PM
open PySem PySem.Spec PyProof.Rows

noncomputable def QdS (N:List Str) (osc scope:Scope) (N':List Str) (nt:Nat) (caps:List Nat):Bool :=
  (scope.kind == .function)&&scope.names.all (fun x=>x.2 != NameKind.cell)&&scope.names.all (fun x=>x.2 != NameKind.local||scope.names.lookup x.1==some .local) &&
  scope.names.all (fun x=>x.2 != NameKind.free||(osc.names.lookup x.1==some .cell||osc.names.lookup x.1==some .free))&&(N'.length==nt + caps.length) &&
  (caps.zip (N'.drop nt)).all (fun p=>N[p.1]?==some p.2&&scope.names.lookup p.2==some NameKind.free)
theorem Qhr {N:List Str} {osc scope:Scope} {N':List Str} {nt:Nat} {caps:List Nat} (h:QdS N osc scope N' nt caps=true):CompOk N osc scope N' nt caps:=by
  unfold QdS at h
  simp only [Bool.and_eq_true,List.all_eq_true,Bool.or_eq_true,bne_iff_ne,beq_iff_eq,ne_eq] at h
  obtain ⟨⟨⟨⟨⟨h1,h2⟩,h3⟩,h4⟩,h5⟩,h6⟩:=h
  refine ⟨h1,h2,fun x hx e => ?_,fun x hx e => ?_,h5,h6⟩
  · rcases h3 x hx with z | z
    · exact absurd e z
    · exact z
  · rcases h4 x hx with z | z
    · exact absurd e z
    · exact z
theorem ck_of {X:Cx} {N:List Str} {osc scope:Scope} {N':List Str} {nt:Nat} {caps:List Nat} (h1:X.N=N) (h2:X.env.scope=osc) (h:QdS N osc scope N' nt caps=true):CompOk X.N X.env.scope scope N' nt caps:=by
  rw [h1,h2];exact Qhr h
noncomputable def Cal (P:Program) (w:World) (K:PySem.W.Frag) (mg:Str→Option Value) (base:Heap) (k:Nat) (x:Str) (n:Nat) (g:List PV→Option PV):Prop :=
  ∃ f fd ps,FnOk P w K mg base CX0 k f fd ps (spM K n g)∧mg x=some (.ref f)∧PySem.W.keepIn K (.ref f)=true∧Yz K fd ps []
noncomputable def CalO (P:Program) (w:World) (K:PySem.W.Frag) (mg:Str→Option Value) (base:Heap) (k:Nat) (x:Str) (n:Nat) (g:List PV→Option (List PV)):Prop :=
  ∃ f fd ps,FnOk P w K mg base CX0 k f fd ps (spO K n g)∧mg x=some (.ref f)∧PySem.W.keepIn K (.ref f)=true∧Yz K fd ps []
section
variable {X:Cx} {e:Expr} {es:List Expr} {ms:List Nat} {ma:PEnv→Option (List PV)} {x:Str} {p pos:Pos} {k j n:Nat}
theorem QW {g:List PV→Option PV} (c:Cal X.prog X.w X.K X.mg X.base k x n g) (hn:∀ ps r,g ps=some r→ps.length=n) (hr:Room k X.A) (hg:Gl X x)
    (ha:AM X ms (e :: es) ma) (hdb:(x==("__debug__":Str))=false:=by decide) (he:starEach (e :: es) X.env=(false,eval e X.env) :: starEach es X.env:=by rfl) (hpl:(backTo pos (starEach es X.env)).any (·.1)=false:=by rfl) :
    EM X ms (.Call (.Name x p) (e :: es) [] pos) (Qo g ma):=by
  obtain ⟨f,fd,ps,F,hm,hk,hb⟩:=c
  exact em_call F hn hr hg hm hk hb ha hdb he hpl
theorem eo_cal {g:List PV→Option (List PV)} (c:CalO X.prog X.w X.K X.mg X.base k x n g) (hn:∀ ps r,g ps=some r→ps.length=n) (hr:Room k X.A) (hg:Gl X x)
    (ha:AM X ms (e :: es) ma) (hdb:(x==("__debug__":Str))=false:=by decide) (he:starEach (e :: es) X.env=(false,eval e X.env) :: starEach es X.env:=by rfl) (hpl:(backTo pos (starEach es X.env)).any (·.1)=false:=by rfl) :
    EO X ms (.Call (.Name x p) (e :: es) [] pos) (Qo g ma):=by
  obtain ⟨f,fd,ps,F,hm,hk,hb⟩:=c
  exact eo_call F hn hr hg hm hk hb ha hdb he hpl
theorem QaQ {m:MEx} (h:EM X ms e m) (hs:starEach [e] X.env=(false,eval e X.env) :: starEach [] X.env:=by rfl):PA X [e] (tMA X.K ms (Qc m aNil)):=by
  have z:=Qb h Qh hs
  unfold AM at z
  rw [List.append_nil] at z
  exact z
theorem law_sp {K:PySem.W.Frag} {H:Hp} {a:Addr} {ns:List Int} {g:List PV→Option PV} {E:XK} (h:∀ ns:List Int,ns.length≤63→g [.lst (ns.map .int)]=some (.bl true)) (hl:ns.length≤63) (hS:SqL K H a (ns.map V.int)) :
    spM K 1 g [.ref a] H (fun v _=>v = .bl true) E:=by
  refine ⟨rfl,H,[.lst (ns.map .int)],.bl true,Same.refl _,.cons ?_ .nil,h ns hl,fun v H' F' _ r => ?_⟩
  · unfold Rep
    exact ⟨a,ns.map V.int,rfl,hS,QbP ns⟩
  · unfold Rep at r
    exact r
end
end L2.PM

noncomputable section
namespace L2.PM
open PySem PySem.Spec PyProof.Rows
noncomputable def pN (n:Nat):PV := .int (n:Int)
noncomputable def mN (n:Nat):MEx:=mC (pN n)
noncomputable def iSeq (m:MEx):PEnv→Option (List PV):=fun γ=>(m γ).bind fun p=>match p with
  | .lst xs=>some xs
  | .tup xs=>some xs
  | _=>none
noncomputable def once {α:Type} [BEq α]:List α→List α
  | []=>[]
  | x :: xs=>x :: (once xs).filter fun y => !(y==x)
end L2.PM

noncomputable section
namespace L2.PM
open PySem PySem.Spec PyProof.Rows
noncomputable def Up (xs:Array Nat):Prop:=xs.toList.Pairwise (· < ·)
theorem Up.get {xs:Array Nat} (h:Up xs) {i k:Nat} {x y:Nat} (hik:i < k) (hx:xs[i]?=some x) (hy:xs[k]?=some y):x < y:=by
  unfold Up at h
  rw [List.pairwise_iff_getElem] at h
  obtain ⟨hi,rfl⟩:=Array.getElem?_eq_some_iff.mp hx
  obtain ⟨hk,rfl⟩:=Array.getElem?_eq_some_iff.mp hy
  have:=h i k (by simpa using hi) (by simpa using hk) hik
  simpa using this
theorem Qcv {xs:Array Nat} {j:Nat} (up:Up xs):∀ (fuel lo hi:Nat),hi - lo≤fuel→lo≤hi→hi≤xs.size→(∀ i x,i < lo→xs[i]?=some x→x < j)→(∀ i x,hi≤i→xs[i]?=some x→j≤x) →
    SetTable.below.go xs j fuel lo hi≤xs.size∧(∀ i x,i < SetTable.below.go xs j fuel lo hi→xs[i]?=some x→x < j)∧(∀ i x,SetTable.below.go xs j fuel lo hi≤i→xs[i]?=some x→j≤x)
  | 0,lo,hi,hf,hl,hh,h1,h2=>by
    have:lo=hi:=by omega
    subst this
    exact ⟨hh,h1,h2⟩
  | fuel + 1,lo,hi,hf,hl,hh,h1,h2=>by
    unfold SetTable.below.go
    by_cases hlt:lo < hi
    · rw [if_pos hlt]
      dsimp only
      have hm:(lo + hi) / 2 < xs.size:=by omega
      have hg:xs[(lo + hi) / 2]?=some xs[(lo + hi) / 2]:=Array.getElem?_eq_getElem hm
      have hd:xs.getD ((lo + hi) / 2) j=xs[(lo + hi) / 2]:=by simp [Array.getD,hm]
      by_cases hc:xs.getD ((lo + hi) / 2) j < j
      · rw [if_pos hc]
        refine Qcv up fuel _ hi (by omega) (by omega) hh (fun i x hi' hx => ?_) h2
        rcases Nat.lt_or_ge i ((lo + hi) / 2) with z | z
        · have:=up.get z hx hg
          omega
        · have:i=(lo + hi) / 2:=by omega
          subst this
          rw [hg] at hx
          cases hx
          omega
      · rw [if_neg hc]
        refine Qcv up fuel lo _ (by omega) (by omega) (by omega) h1 fun i x hi' hx => ?_
        rcases Nat.lt_or_ge ((lo + hi) / 2) i with z | z
        · have:=up.get z hg hx
          omega
        · have:i=(lo + hi) / 2:=by omega
          subst this
          rw [hg] at hx
          cases hx
          omega
    · rw [if_neg hlt]
      have:lo=hi:=by omega
      subst this
      exact ⟨hh,h1,h2⟩
theorem QbX {xs:Array Nat} (up:Up xs) (j:Nat):SetTable.below xs j≤xs.size∧(∀ i x,i < SetTable.below xs j→xs[i]?=some x→x < j)∧(∀ i x,SetTable.below xs j≤i→xs[i]?=some x→j≤x) :=
  Qcv up xs.size 0 xs.size (by omega) (by omega) (Nat.le_refl _) (fun i x h _=>by omega) (fun i x h e=>by
    have:=(Array.getElem?_eq_some_iff.mp e).1
    omega)
theorem below_at {xs:Array Nat} (up:Up xs) {i j:Nat} (h:xs[i]?=some j):SetTable.below xs j=i:=by
  obtain ⟨h1,h2,h3⟩:=QbX up j
  rcases Nat.lt_trichotomy (SetTable.below xs j) i with z | z | z
  · have hi:=(Array.getElem?_eq_some_iff.mp h).1
    have hg:xs[SetTable.below xs j]?=some xs[SetTable.below xs j]:=Array.getElem?_eq_getElem (by omega)
    have a:=h3 _ _ (Nat.le_refl _) hg
    have b:=up.get z hg h
    omega
  · exact z
  · have:=h2 i j z h
    omega
theorem QcH {α:Type} (xs:Array α) (p:Nat) (x:α):(SetTable.insertAt xs p x).toList=xs.toList.take p++x :: xs.toList.drop p:=by
  unfold SetTable.insertAt
  simp [Array.toList_extract,List.extract_eq_take_drop]
  exact List.take_of_length_le (by simp)
theorem QgD {xs:Array Nat} (up:Up xs) {j:Nat} (hn:j∉xs.toList):Up (SetTable.insertAt xs (SetTable.below xs j) j):=by
  obtain ⟨h1,h2,h3⟩:=QbX up j
  unfold Up
  rw [QcH,List.pairwise_append,List.pairwise_cons]
  have lo:∀ y∈xs.toList.take (SetTable.below xs j),y < j:=fun y hy=>by
    obtain ⟨i,hi,rfl⟩:=List.mem_take_iff_getElem.mp hy
    exact h2 i _ (by omega) (by
      rw [Array.getElem?_eq_some_iff]
      exact ⟨by simp at hi;omega,by simp⟩)
  have hi:∀ y∈xs.toList.drop (SetTable.below xs j),j < y:=fun y hy=>by
    have hm:y∈xs.toList:=List.mem_of_mem_drop hy
    obtain ⟨i,hi,rfl⟩:=List.mem_drop_iff_getElem.mp hy
    have:=h3 (SetTable.below xs j + i) _ (by omega) (by
      rw [Array.getElem?_eq_some_iff]
      exact ⟨by simp at hi;omega,rfl⟩)
    have ne:j≠xs.toList[SetTable.below xs j + i]:=fun e=>hn (by rw [e];exact hm)
    simp at ne
    simp
    omega
  refine ⟨List.Pairwise.sublist (List.take_sublist _ _) up,⟨fun y hy=>hi y hy,List.Pairwise.sublist (List.drop_sublist _ _) up⟩,fun a ha b hb => ?_⟩
  rcases List.mem_cons.mp hb with e | e
  · rw [e];exact lo a ha
  · exact Nat.lt_trans (lo a ha) (hi b e)
theorem Qey {t:SetTable} (up:Up t.place) {j:Nat} (h:∀ i,t.slot j ≠ .live i):j∉t.place.toList:=by
  intro hm
  obtain ⟨i,hi,e⟩:=List.mem_iff_getElem.mp hm
  have hg:t.place[i]?=some j:=by
    rw [Array.getElem?_eq_some_iff]
    exact ⟨by simpa using hi,by simpa using e⟩
  have hb:=below_at up hg
  refine h i ?_
  unfold SetTable.slot
  dsimp only
  rw [hb,hg,if_pos (by simp)]
theorem Qcn {t:SetTable} {ha:Nat→Int} {h:Int}:∀ (fuel:Nat) (p:SetTable.Probe) (j:Nat) (d:Option Nat),(∀ q,p.dummy=some q→t.slot q = .dummy)→SetTable.probe.go t ha h fuel p=some (.empty j d)→t.slot j = .empty∧∀ q,d=some q→t.slot q = .dummy
  | 0,p,j,d,_,e=>by cases e
  | fuel + 1,p,j,d,hp,e=>by
    unfold SetTable.probe.go at e
    split at e
    · rename_i hs
      cases e
      exact ⟨hs,hp⟩
    · rename_i hs
      refine Qcn fuel _ j d (fun q hq => ?_) e
      have hq:(t.advance { p with dummy:=some p.j }).dummy=some q:=hq
      have hd:(t.advance { p with dummy:=some p.j }).dummy=some p.j:=by
        unfold SetTable.advance
        split <;> rfl
      rw [hd] at hq
      cases hq
      exact hs
    · split at e
      · cases e
      · refine Qcn fuel _ j d (fun q hq=>hp q ?_) e
        have hd:(t.advance p).dummy=p.dummy:=by
          unfold SetTable.advance
          split <;> rfl
        rw [hd] at hq
        exact hq
theorem QdE {t:SetTable} (up:Up t.place) {h:Int} {j:Nat} {b:Bool} (e:t.freeSlot h=some (j,b)):j∉t.place.toList:=by
  unfold SetTable.freeSlot at e
  split at e
  · rename_i i d hq
    obtain ⟨h1,h2⟩:=Qcn _ _ _ _ (fun q hq=>by cases hq) hq
    cases e
    cases d with
    | none =>
      refine Qey up fun k z => ?_
      have h1:t.slot i = .empty:=h1
      rw [show ((none:Option Nat).getD i)=i from rfl,h1] at z
      cases z
    | some q =>
      refine Qey up fun k z => ?_
      have h2:=h2 q rfl
      rw [show ((some q).getD i)=q from rfl,h2] at z
      cases z
  · cases e
theorem up_range (n:Nat):Up (Array.range n):=by
  unfold Up
  rw [Array.toList_range]
  exact List.pairwise_lt_range
theorem Qdy {α:Type} (f:Nat→Option α) (n:Nat):(((List.range n).filterMap fun j=>(f j).map (j,·)).map (·.1)).Pairwise (· < ·):=by
  have key:∀ l:List Nat,l.Pairwise (· < ·)→(((l.filterMap fun j=>(f j).map (j,·)).map (·.1)).Pairwise (· < ·))∧∀ x∈((l.filterMap fun j=>(f j).map (j,·)).map (·.1)),x∈l:=by
    intro l
    induction l with
    | nil=>intro _;exact ⟨by simp,by simp⟩
    | cons y l ih =>
      intro hp
      rw [List.pairwise_cons] at hp
      obtain ⟨i1,i2⟩:=ih hp.2
      cases hf:f y with
      | none =>
        rw [List.filterMap_cons_none (by rw [hf];rfl)]
        exact ⟨i1,fun x hx=>List.mem_cons_of_mem _ (i2 x hx)⟩
      | some z =>
        rw [List.filterMap_cons_some (b:=(y,z)) (by rw [hf];rfl),List.map_cons]
        refine ⟨List.pairwise_cons.mpr ⟨fun x hx=>hp.1 x (i2 x hx),i1⟩,fun x hx => ?_⟩
        rcases List.mem_cons.mp hx with e | e
        · rw [e];exact List.mem_cons_self
        · exact List.mem_cons_of_mem _ (i2 x e)
  exact (key _ List.pairwise_lt_range).1
noncomputable def Kept (L:Bool) (t:SetTable):Prop:=t.led=L∧Up t.place
theorem Yu {L:Bool} {t:SetTable} (k:Kept L t) (n:Nat):Kept L (t.standIn n):=⟨k.1,up_range n⟩
theorem Qfj {L:Bool} {t:SetTable} (k:Kept L t) (b:Bool):Kept L { t with plain:=b }:=k
theorem Qeh {L:Bool} {t:SetTable} (k:Kept L t) (es:Array (Int×Value)) (h:Int) (x:Value):Kept L (layNew t es h x).2.1:=by
  unfold layNew
  split
  · rename_i j b e
    dsimp only
    unfold SetTable.orStandIn
    have k2:Kept L (t.put j).1:=⟨k.1,QgD k.2 (QdE k.2 e)⟩
    split
    · exact k2
    · exact Yu k2 _
  · exact Yu k _
theorem Qfi {L:Bool} {t:SetTable} (k:Kept L t) (es:Array (Int×Value)) (n:Nat):Kept L (relayAll t es n).2.1:=by
  unfold relayAll
  split
  · rename_i t' order e
    dsimp only
    split
    · unfold SetTable.relaid SetTable.laid at e
      cases hl:SetTable.layClean (SetTable.sizeAbove n - 1) (es.map (·.1)) with
      | none=>rw [hl] at e;cases e
      | some owner =>
        rw [hl] at e
        cases e
        refine ⟨k.1,?_⟩
        unfold Up
        rw [List.toList_toArray]
        exact Qdy (fun j=>owner.getD j none) _
    · exact Yu k _
  · exact Yu k _
end L2.PM

noncomputable section
namespace L2.PM
open PySem PySem.Spec PyProof.Rows
section
variable {prog:Program} {w:World} {A:Around} {E:Value→Shared→Prop} {s:Shared}
noncomputable def SetL (prog:Program) (w:World) (L:Bool) (h:Heap) (a:Addr) (M:List Int):Prop :=
  ∃ o es ep t,h.get? a=some o∧o.ExactSet∧o.data = .set es ep t∧ElemsOf (intKind prog w) es.toList∧(∀ k,k∈M↔∃ e∈es.toList,(intKind prog w).is k e.2=true) ∧
    es.size < scanBound∧t.fits es.size=true∧es.size=M.length∧M.Nodup∧Kept L t
theorem SetL.at {L:Bool} {h h':Heap} {a:Addr} {M:List Int} (x:SetL prog w L h a M) (e:∀ o,h.get? a=some o→h'.get? a=some o):SetL prog w L h' a M:=by
  obtain ⟨o,es,ep,t,ho,r⟩:=x
  exact ⟨o,es,ep,t,e o ho,r⟩
noncomputable def more (M:List Int) (k:Int):List Int:=if k∈M then M else M++[k]
end
end L2.PM

noncomputable section
namespace L2.PM
open PySem PySem.Spec PyProof.Rows
noncomputable def byT (w:World):Bool:=w.params.followText "set-order"
section
variable {prog:Program} {w:World} {A:Around} {E:Value→Shared→Prop} {s:Shared}
theorem setNew (v:Value) {Q₁:Value→Shared→Prop} (fin:Q₁ (.ref s.heap.objs.size) { s with heap:=s.heap.push { cls := .type "set",dict:=none,data := .set #[] 0 (.fresh 0 0 (!byT w)) } }) :
    codeAny (model prog w) A (.call (.builtin "set.__new__") ⟨[.type "set",v],[]⟩) (wants Q₁ E) s:=by
  refine codeAny_of_tree ?_
  show wpAny _ A.in1 (do checkBuiltinCall "set.__new__" ⟨[.type "set",v],[]⟩;again (.builtin "set.__new__" ⟨[.type "set",v],[]⟩)) _ _ s
  refine wpAny_bind (wpAny_of_eq (PySem.F.newCall_set_1 v) (wpAny_pure ⟨plainId_quiet PySem.F.plain_set_new _,codeAny_builtin PySem.F.entry_set_new ?_⟩))
  rw [Around.under_plainId PySem.F.plain_set_new _]
  unfold Builtin.«set.__new__» Builtin.Frozenset.newClass
  have sub:=sub_set_self
  obtain ⟨hp,g,d,tk,os⟩:=s
  dsimp only
  wp_walk
  refine wpAny_askSetting (wpAny_pure ?_)
  dsimp only
  simp only [newObj]
  refine wpAny_bind (wpAny_alloc (wpAny_pure ?_))
  exact wpAny_pure fin
end
end L2.PM

noncomputable section
namespace L2.PM
open PySem PySem.Spec PyProof.Rows
section
variable {prog:Program} {w:World} {A:Around} {E:Value→Shared→Prop} {s:Shared}
end
end L2.PM

noncomputable section
namespace L2.PM
open PySem PySem.Spec PyProof.Rows
namespace SF
end SF
section
variable {prog:Program} {w:World} {A:Around} {E:Value→Shared→Prop} {s:Shared}
end
end L2.PM

noncomputable section
namespace L2.PM
open PySem PySem.Spec PyProof.Rows
noncomputable def SIt (h:Heap) (I D:Addr) (first:Value) (i n ep:Nat):Prop:=∃ o,h.get? I=some o∧o.cls = .type "set_iterator"∧o.data = .fields #[first,rawInt i,.ref D,rawInt n,rawInt ep]
noncomputable def SetC (h:Heap) (D:Addr) (es:Array (Int×Value)) (ep:Nat) (t:SetTable):Prop:=∃ o,h.get? D=some o∧o.ExactSet∧o.data = .set es ep t∧t.fits es.size=true
section
variable {prog:Program} {w:World} {A:Around} {E:Value→Shared→Prop} {s:Shared} {I D:Addr} {es:Array (Int×Value)} {ep:Nat} {t:SetTable} {i:Nat}
theorem SIt.typeIs {first:Value} {n:Nat} (x:SIt s.heap I D first i n ep):s.TypeIs (.ref I) "set_iterator":=let ⟨o,ho,hc,_⟩:=x;⟨o,ho,hc⟩
theorem SIt.at {h h':Heap} {first:Value} {n:Nat} (x:SIt h I D first i n ep) (e:∀ o,h.get? I=some o→h'.get? I=some o):SIt h' I D first i n ep:=let ⟨o,ho,r⟩:=x;⟨o,e _ ho,r⟩
theorem SetC.at {h h':Heap} (x:SetC h D es ep t) (e:∀ o,h.get? D=some o→h'.get? D=some o):SetC h' D es ep t:=let ⟨o,ho,r⟩:=x;⟨o,e _ ho,r⟩
end
end L2.PM

noncomputable section
namespace L2.PM
open PySem PySem.Spec PyProof.Rows
namespace SF
end SF
section
variable {prog:Program} {w:World} {A:Around} {E:Value→Shared→Prop} {s:Shared} {I D:Addr} {es:Array (Int×Value)} {ep:Nat} {t:SetTable}
end
end L2.PM

noncomputable section
namespace L2.PM
open PySem PySem.Spec PyProof.Rows
section
variable {prog:Program} {w:World} {A:Around} {E:Value→Shared→Prop} {s:Shared} {D:Addr} {es:Array (Int×Value)} {ep:Nat} {t:SetTable}
theorem SetC.typeIs (x:SetC s.heap D es ep t):s.TypeIs (.ref D) "set":=let ⟨o,ho,hex,_⟩:=x;⟨o,ho,hex.1⟩
end
end L2.PM

noncomputable section
namespace L2.PM
open PySem PySem.Spec PyProof.Rows
section
variable {prog:Program} {w:World} {A:Around} {E:Value→Shared→Prop} {s:Shared} {D:Addr} {es:Array (Int×Value)} {ep:Nat} {t:SetTable}
end
end L2.PM

noncomputable section
namespace L2.PM
open PySem PySem.Spec PyProof.Rows
section
variable {X:Cx} {e a b c:Expr} {es:List Expr} {ms ns ls:List Nat} {m m1 m2 m3:MEx} {ma:PEnv→Option (List PV)} {pos p p1 p2 p3 pos':Pos} {x:Str} {id T:String}
theorem _root_.L2.Inv.drawn {pins:List (Addr×Obj)} {σ:St} {H:Hp} {s:Shared} (I:Inv X pins σ H s) (d:Drawn):Inv X pins σ H { s with drawn:=d }:=⟨I.ok,I.os,I.bare,I.base,I.loc,I.cell,I.free,I.freeC,I.pin,I.hok,I.len⟩
end
end L2.PM

noncomputable section
namespace L2.PM
open PySem PySem.Spec PyProof.Rows
open PySem.AutoSeq1 (wpAny_loadPart')
section
variable {prog:Program} {w:World} {A:Around} {E:Value→Shared→Prop} {s:Shared}
end
end L2.PM

noncomputable section
namespace L2.PM
open PySem PySem.Spec PyProof.Rows
section
variable {X:Cx} {pins:List (Addr×Obj)} {σ:St} {H:Hp} {s:Shared} {h':Heap}
end
end L2.PM

noncomputable section
namespace L2.PM
open PySem PySem.Spec PyProof.Rows
section
variable {X:Cx} {e a b c:Expr} {es:List Expr} {ms ns ls:List Nat} {m m1 m2 m3:MEx} {ma:PEnv→Option (List PV)} {pos p p1 p2 p3 pos':Pos} {x:Str} {id T:String} {tg:Expr}
theorem im_seq (h:EM X ms e m):IM X ms tg e (iSeq m):=by
  intro pins s σ H R I q
  obtain ⟨F,γ,xs,h1,h2,h3,w⟩:=q
  obtain ⟨p,e1,e2⟩:=Qg h3
  cases p with
  | lst ys =>
    cases e2
    exact QfR h pins s σ H R I ⟨F,γ,_,h1,h2,by unfold iLst;rw [e1];rfl,w⟩
  | tup ys =>
    cases e2
    exact im_tup h pins s σ H R I ⟨F,γ,_,h1,h2,by unfold iTpl;rw [e1];rfl,w⟩
  | _=>cases e2
end
end L2.PM

noncomputable section
namespace L2.PM
open PySem PySem.Spec PyProof.Rows
namespace SF
end SF
section
variable {prog:Program} {w:World} {A:Around} {E:Value→Shared→Prop} {s:Shared}
end
section
variable {X:Cx} {e a b c:Expr} {es:List Expr} {ms ns ls:List Nat} {m m1 m2 m3:MEx} {ma:PEnv→Option (List PV)} {pos p p1 p2 p3 pos':Pos} {x:Str} {id T:String} {tg:Expr}
end
end L2.PM

noncomputable section
namespace L2.PM
open PySem PySem.Spec PyProof.Rows
open PySem.AutoSeq1 (wpAny_loadPart')
section
variable {prog:Program} {w:World} {A:Around} {E:Value→Shared→Prop} {s:Shared}
end
section
variable {X:Cx} {e a b c:Expr} {es:List Expr} {ms ns ls:List Nat} {m m1 m2 m3:MEx} {ma:PEnv→Option (List PV)} {pos p p1 p2 p3 pos':Pos} {x:Str} {id T:String} {tg:Expr}
end
end L2.PM

noncomputable section
namespace L2.PM
open PySem
noncomputable def cMulB (i j:Int):Bool:=cls (i.natAbs.log2 < 4000∧j.natAbs.log2 < 4000)
noncomputable def Qfx:=iop cMulB fun i j => .int (i * j)
noncomputable def pRep:PV→PV→Option (List PV)
  | .lst a,.int k=>if -1000≤k∧k≤1000∧a.length≤1000 then some (List.replicate k.toNat a).flatten else none
  | _,_=>none
noncomputable def bls?:List PV→Option (List Bool)
  | []=>some []
  | .bl b :: xs=>(bls? xs).map (b :: ·)
  | _ :: _=>none
theorem QeV:∀ {xs:List PV} {bs:List Bool},bls? xs=some bs→xs=bs.map PV.bl
  | [],bs,h=>by cases h;rfl
  | .bl b :: xs,bs,h=>by
    have h:(bls? xs).map (b :: ·)=some bs:=h
    cases e:bls? xs with
    | none=>rw [e] at h;cases h
    | some cs=>rw [e] at h;cases h;rw [QeV e];rfl
  | .non :: _,_,h=>by cases h
  | .int _ :: _,_,h=>by cases h
  | .str _ :: _,_,h=>by cases h
  | .tup _ :: _,_,h=>by cases h
  | .lst _ :: _,_,h=>by cases h
theorem QeU:∀ bs:List Bool,bls? (bs.map PV.bl)=some bs
  | []=>rfl
  | b :: bs=>by
    show (bls? (bs.map PV.bl)).map (b :: ·)=_
    rw [QeU bs];rfl
noncomputable def Qfz:List PV→Option PV
  | [.lst xs]=>(bls? xs).map fun bs => .bl (bs.all id)
  | _=>none
end L2.PM

noncomputable section
namespace L2.PM
open PySem PySem.Spec PyProof.Rows
namespace SF
end SF
section
variable {prog:Program} {w:World} {A:Around} {E:Value→Shared→Prop} {s:Shared}
noncomputable def IsRv (h:Heap) (a l:Addr) (i:Int):Prop:=∃ o,h.get? a=some o∧o.cls = .type "reversed"∧o.data = .fields #[.ref l,rawInt i]
theorem IsRv.typeIs {a l:Addr} {i:Int} (x:IsRv s.heap a l i):s.TypeIs (.ref a) "reversed":=let ⟨o,ho,hc,_⟩:=x;⟨o,ho,hc⟩
theorem IsRv.at {h h':Heap} {a l:Addr} {i:Int} (x:IsRv h a l i) (e:∀ o,h.get? a=some o→h'.get? a=some o):IsRv h' a l i:=let ⟨o,ho,r⟩:=x;⟨o,e _ ho,r⟩
end
section
variable {X:Cx} {e a b c:Expr} {es:List Expr} {ms ns ls:List Nat} {m m1 m2 m3:MEx} {ma:PEnv→Option (List PV)} {pos p p1 p2 p3 pos':Pos} {x:Str} {id T:String} {tg:Expr}
theorem QaH {n:Nat} (h:n≤sizeLine):(n:Int) < 2 ^ 63:=by
  have:sizeLine < 2 ^ 63:=by decide
  omega
end
end L2.PM

noncomputable section
namespace L2.PM
open PySem PySem.Spec PyProof.Rows
open PySem.AutoSeq1 (wpAny_loadPart')
section
variable {X:Cx} {e a b c:Expr} {es:List Expr} {ms ns ls:List Nat} {m m1 m2 m3:MEx} {ma:PEnv→Option (List PV)} {pos p p1 p2 p3 pos':Pos} {x:Str} {id T:String} {tg:Expr}
end
end L2.PM

noncomputable section
namespace L2.PM
open PySem PySem.Spec PyProof.Rows
section
variable {X:Cx}
theorem Qeq:∀ {bs:List Bool} {its:List Value},Vals (bs.map V.bl) its→its=bs.map Value.bool
  | [],_,h=>by cases h;rfl
  | b :: bs,_,h=>by
    cases h with
    | cons h1 h2=>rw [Qeq h2,show _=Value.bool b from h1];rfl
theorem QeA {K:PySem.W.Frag} {F:Hp}:∀ {bs:List Bool} {vs:List V},RepL K F (bs.map PV.bl) vs→vs=bs.map V.bl
  | [],vs,h=>by
    rw [List.map_nil] at h
    unfold RepL at h
    exact h
  | b :: bs,vs,h=>by
    rw [List.map_cons] at h
    unfold RepL at h
    obtain ⟨v,t,rfl,h1,h2⟩:=h
    unfold Rep at h1
    rw [h1,QeA h2];rfl
theorem kept_it {s:Shared} {h':Heap} {o:Obj} (hk:∀ b x,b∉[s.heap.objs.size]→(s.heap.push o).get? b=some x→h'.get? b=some x):∀ b x,s.heap.get? b=some x→h'.get? b=some x :=
  fun b x e=>hk b x (fun hm=>by rw [List.mem_singleton.mp hm] at e;exact Nat.lt_irrefl _ (Heap.lt_size e)) (Heap.get?_push_of_some _ e)
theorem rng_all (bs:List Bool):((List.range bs.length).all fun i=>(bs[i]?).getD true)=bs.all id:=by
  rw [Bool.eq_iff_iff,List.all_eq_true,List.all_eq_true]
  constructor
  · intro h x hx
    obtain ⟨i,hi,rfl⟩:=List.mem_iff_getElem.mp hx
    have:=h i (List.mem_range.mpr hi)
    simpa [hi] using this
  · intro h i hi
    have hi:=List.mem_range.mp hi
    simpa [hi] using h bs[i] (List.getElem_mem hi)
theorem Qhs (hc:X.calm=true):Xj X (.builtin "all") (fun vs H Q=>∃ (a:Addr) (bs:List Bool),vs=[.ref a]∧SqL X.K H a (bs.map V.bl)∧Q (.bl (bs.all id)) H):=by
  intro pins s σ H vs us Q I rs h
  obtain ⟨a,bs,rfl,h2,h3⟩:=h
  obtain ⟨u,rfl,ru⟩:=Qds rs
  cases ru
  obtain ⟨its,r,pl,_⟩:=I.list h2
  have e:=Qeq r
  subst e
  have hl:=pl.isList
  have hlt:a < s.heap.objs.size:=by obtain ⟨_,e,_⟩:=hl;exact Heap.lt_size e
  refine call_all_walk (wpAny_pyIter_list hl ?_)
  refine ⟨s.heap.objs.size,[s.heap.objs.size,a],[s.heap.objs.size],(bs.map Value.bool).toArray.size,_,_,fun i=>(bs[i]?).getD true,rfl,Walks.list (A:=X.A.in1) (I.ok.hd hc) _ a (Nat.ne_of_lt hlt) (bs.map Value.bool).toArray,
    ⟨⟨_,Heap.get?_push_size _ rfl,rfl,rfl⟩,hl.push _⟩,fun i v s' Q' E' hP hQ => ?_,fun h' tk hk => ?_⟩
  · have hP:(bs.map Value.bool)[i]?=some v:=by simpa using hP
    rw [List.getElem?_map,Option.map_eq_some_iff] at hP
    obtain ⟨b,e,rfl⟩:=hP
    simp only [e,Option.getD_some] at hQ
    exact wpAny_truthy_bool hQ
  · have e:((List.range (bs.map Value.bool).toArray.size).all fun i=>(bs[i]?).getD true)=bs.all id:=by
      rw [List.size_toArray,List.length_map];exact rng_all bs
    rw [e]
    exact ⟨.bl (bs.all id),H,I.kept (t':=tk) (kept_it hk),rfl,h3⟩
theorem cm_all (hc:X.calm=true):QfG X (.builtin "all") Qfz:=by
  intro pins s σ H vs us Q I rs h
  obtain ⟨F,ps,r,h1,h2,h3,w⟩:=h
  refine Qhs hc pins s σ H vs us Q I rs ?_
  unfold Qfz at h3
  split at h3
  · rename_i xs
    obtain ⟨bs,e1,rfl⟩:=QZ h3
    have e2:=QeV e1
    subst e2
    unfold RepL at h2
    obtain ⟨v,t,rfl,h2,ht⟩:=h2
    unfold RepL at ht
    subst ht
    unfold Rep at h2
    obtain ⟨a,us,rfl,k2,k3⟩:=h2
    have e3:=QeA k3
    subst e3
    exact ⟨a,bs,rfl,h1.seq k2,w.here h1 (ZQ _)⟩
  · cases h3
end
end L2.PM

noncomputable section
namespace L2.PM
open PySem PySem.Spec PyProof.Rows
section
variable {X:Cx} {pos:Pos}
end
end L2.PM

noncomputable section
namespace L2.PM
open PySem PySem.Spec PyProof.Rows
section
variable {X:Cx} {e a b c:Expr} {es:List Expr} {ms ns ls:List Nat} {m m1 m2 m3:MEx} {ma:PEnv→Option (List PV)} {pos p p1 p2 p3 pos':Pos} {x:Str} {id T:String} {tg:Expr}
theorem star_int {i:Int} {j:Nat} {q:Pos} {es:List Expr} {env:Env}:starEach (.Constant (.int i) j q :: es) env=(false,eval (.Constant (.int i) j q) env) :: starEach es env:=rfl
theorem YB {i:Int} {j:Nat} {q:Pos} (hr:AM X [] es ma):AM X [] (.Constant (.int i) j q :: es) (Qc (mC (.int i)) ma):=Qb Qe hr star_int
end
end L2.PM

noncomputable section
namespace L2.PM
open PySem PySem.Spec PyProof.Rows
section
variable {X:Cx}
theorem mulB_ok {i j:Int} (h1:i.natAbs.log2 < 4000) (h2:j.natAbs.log2 < 4000):IntMulOk i j:=by
  unfold IntMulOk
  have bits:∀ k:Int,k.natAbs.log2 < 4000→Builtin.Int.intBits k≤4000:=fun k h=>by unfold Builtin.Int.intBits;split <;> omega
  have a:=bits i h1
  have b:=bits j h2
  have:Builtin.Int.intTooBig (Builtin.Int.intBits i + Builtin.Int.intBits j)=false:=by
    unfold Builtin.Int.intTooBig
    rw [decide_eq_false]
    have hb:(8000:Int)≤bitsLine:=by decide
    omega
  rw [this]
  simp
theorem op_mulB:OpR X (binaryOp .Mult) (rI (fun i j=>i.natAbs.log2 < 4000∧j.natAbs.log2 < 4000) fun i j => .int (i * j)):=opI fun _ _ _ _ _ _ _ hc q=>mul_int q (mulB_ok hc.1 hc.2)
theorem om_mulB:OpM X (binaryOp .Mult) Qfx:=QfA op_mulB (fun i j h=>XU (p:=i.natAbs.log2 < 4000∧j.natAbs.log2 < 4000) h) fun _ _ _ _=>Zz _
theorem op_repS:OpR X (binaryOp .Mult) (fun x y H Q=>∃ l k xs,x = .ref l∧y = .int k∧SqL X.K H l xs ∧ -(2 ^ 63)≤k∧k < 2 ^ 63∧xs.length * k.toNat≤2 ^ 24∧∀ p,H p=none→Q (.ref p) (upd H p (.lst (List.replicate k.toNat xs).flatten))):=by
  intro pins s σ H x y v u Q I rx ry h
  obtain ⟨l,k,xs,rfl,rfl,hH,h1,h2,hz,q⟩:=h
  cases rx
  obtain ⟨t,rfl⟩:=ry
  obtain ⟨its,r,⟨⟨cls,dd,data,sl⟩,n,e,c,_,d⟩,_⟩:=I.list hH
  simp only at c d
  subst c d
  have hsz':its.toArray.size * k.toNat≤2 ^ 24:=by rw [List.size_toArray,← r.length];exact hz
  refine wpAny_binaryOp_repeat_ref (T := "list") (U := "int") (by decide) ⟨_,e,rfl⟩ (fun s'=>typeIs_int s' k t) noFill_list_mul PySem.F.fills_int_mul PySem.F.slot_int_rmul repeat_list PySem.F.slot_int_index.lookup
    (call_meets PySem.F.slot_int_rmul (typeIs_int s k t) PySem.F.entry_int_rmul (PySem.F.args_int_rmul_2 _ _) (lm_int_rmul_list_any k t l its.toArray n dd sl)
      ⟨e,rfl,⟨_,e,rfl⟩,call_meets PySem.F.slot_list_mul ⟨_,e,rfl⟩ PySem.F.entry_list_mul (PySem.F.args_list_mul_2 _ _)
        (lm_list_mul_any l its.toArray n dd sl k t (by simp [Builtin.List.listFitsIndex];omega) (by omega) (by simp [Builtin.List.listTooLong,sizeLine];omega))
        ⟨e,?_⟩⟩)
  rw [listMul_foldl_if]
  have hs:(2:Nat) ^ 24≤sizeLine:=by decide
  exact ⟨.ref _,_,I.lnew (t':=s.toks) (r.rep k.toNat) (by rw [len_rep,Nat.mul_comm];omega),rfl,q _ I.fresh⟩
theorem RepL.rep {K:PySem.W.Frag} {F:Hp} {ps:List PV} {vs:List V} (h:RepL K F ps vs):∀ k:Nat,RepL K F (List.replicate k ps).flatten (List.replicate k vs).flatten
  | 0 => .nil
  | k + 1=>by
    rw [List.replicate_succ,List.flatten_cons,List.replicate_succ,List.flatten_cons]
    exact h.append (RepL.rep h k)
theorem oo_rep:OpO X (binaryOp .Mult) pRep:=by
  intro pins s σ H x y v u Q I rx ry h
  obtain ⟨F,p,q,r,h1,h2,h3,h4,w⟩:=h
  cases p <;> cases q <;> first
    | (exfalso;cases h4;done)
    | skip
  rename_i xs k
  have h4:(if -1000≤k∧k≤1000∧xs.length≤1000 then some (List.replicate k.toNat xs).flatten else none)=some r:=h4
  obtain ⟨c,rfl⟩:=QC h4
  unfold Rep at h2 h3
  obtain ⟨a,vs,rfl,sa,ra⟩:=h2
  subst h3
  refine op_repS pins s σ H _ _ v u Q I rx ry ⟨a,k,vs,rfl,rfl,h1.seq sa,by omega,by omega,?_,fun p hp => ?_⟩
  · rw [ra.length]
    have:k.toNat≤1000:=by omega
    exact Nat.le_trans (Nat.mul_le_mul c.2.2 this) (by decide)
  · have nF:F p=none:=h1.free hp
    exact w p _ _ F (.side h1 hp) hp nF Qp (RepL.rep ra k.toNat)
end
end L2.PM

noncomputable section
namespace L2.PM
open PySem PySem.Spec PyProof.Rows
section
variable {X:Cx} {pos p:Pos} {x:Str}
theorem em_globI {i:Int} {t:Tok} (hg:Gl X x) (hm:X.mg x=some (.int i t)) (hd:(x==("__debug__":Str))=false:=by decide):EM X [] (.Name x pos) (mC (.int i)) :=
  PE.imp (QdH (v := .int i) hg hm ⟨t,rfl⟩ hd) fun σ H Q ⟨F,γ,r,h1,h2,h3,w⟩=>by
    cases h3;exact w.here h1 (by unfold Rep;rfl)
noncomputable def GT (K:PySem.W.Frag) (a:Addr) (ts:List Str):Prop:=∃ (o:Obj) (its:Array Value) (n:Nat),K.lookup a=some o∧o.cls = .type "tuple"∧o.dict=none∧o.data = .seq its n∧its.size≤sizeLine∧Vals (ts.map V.str) its.toList
theorem em_globT {a:Addr} {ts:List Str} (hg:Gl X x) (hm:X.mg x=some (.ref a)) (ht:GT X.K a ts) (hd:(x==("__debug__":Str))=false:=by decide):EM X [] (.Name x pos) (mC (.tup (ts.map .str))) :=
  PE.imp (QdH (v := .ref a) hg hm rfl hd) fun σ H Q ⟨F,γ,r,h1,h2,h3,w⟩=>by
    cases h3
    refine w.here h1 ?_
    unfold Rep
    exact ⟨a,ts.map V.str,rfl,.inr ht,Qab ts⟩
end
end L2.PM

noncomputable section
namespace L2.PM
open PySem PySem.Spec PyProof.Rows
section
variable {X:Cx}
theorem QgS:OpR X (compareOp .LtE) (fun x y H Q=>∃ i j,x = .str i∧y = .str j∧Q (.bl (sLe i j)) H):=by
  intro pins s σ H x y v u Q I rx ry h
  obtain ⟨i,j,rfl,rfl,q⟩:=h
  obtain ⟨t,rfl⟩:=rx
  obtain ⟨t',rfl⟩:=ry
  exact P.le_str (fin_bl I q rfl)
noncomputable def pLeS:PV→PV→Option PV
  | .str a,.str b=>some (.bl (sLe a b))
  | _,_=>none
theorem om_leS:OpM X (compareOp .LtE) pLeS:=by
  intro pins s σ H x y v u Q I rx ry h
  obtain ⟨F,p,q,r,h1,h2,h3,h4,w⟩:=h
  cases p <;> cases q <;> first
    | (exfalso;cases h4;done)
    | skip
  cases h4
  unfold Rep at h2 h3
  exact QgS pins s σ H x y v u Q I rx ry ⟨_,_,h2,h3,w.here h1 (ZQ _)⟩
end
end L2.PM

noncomputable section
namespace L2.PM
open PySem PySem.Spec PyProof.Rows
noncomputable def Its (x:Str):It:=⟨fun i _=>i < x.cps.size,fun i H v H'=>H'=H∧∃ c,x.cps[i]?=some c∧v = .str ⟨#[c]⟩,fun i _=>x.cps.size≤i⟩
theorem turn_str {P:Program} {w:World} {K:PySem.W.Frag} {tg:Expr} (x:Str) (t:Tok) (it:Addr):Turn P w K tg (Its x) [it] it (fun i h=>h.IsStrIter it "str_ascii_iterator" x t i) where
  mem:=by simp
  obj:=fun i h st b hb=>by
    have e:b=it:=by simpa using hb
    subst e
    obtain ⟨o,e,c,d⟩:=st
    exact ⟨o,e,fun v z=>by rw [d] at z;cases z⟩
  keep:=fun i h h' st k=>by
    obtain ⟨o,e,c,d⟩:=st
    exact ⟨o,k it (by simp) o e,c,d⟩
  item:=by
    intro X hP hw hK hc i pins s σ H E I hf st hg
    subst hP hw hK
    have hi:i < x.cps.size:=hg
    obtain ⟨f0,f1,f2,f3,f4,f5⟩:=hf it (by simp)
    refine wpAny_pyNext_ascii_item st (c:=x.cps[i]) (Array.getElem?_eq_getElem hi) fun h' st' sb => ?_
    have I1:Inv X pins σ H { s with heap:=h',toks:=s.toks + 1 }:=I.turned (t':=s.toks + 1) (fun b o hb e=>(sb.2 b hb).trans e) f0 f1 f3 f4 f5
    obtain ⟨o,e,c,d⟩:=id st'
    exact ⟨_,rfl,QhF (s:={ s with heap:=h',toks:=s.toks + 1 }) e c d (by decide) ⟨.str ⟨#[x.cps[i]]⟩,H,I1,⟨_,rfl⟩,⟨rfl,_,Array.getElem?_eq_getElem hi,rfl⟩,st',fun b hb=>(hf b hb).1⟩⟩
  done:=by
    intro X hP hw hK hc i pins s σ H E I hf st hg
    subst hP hw hK
    have hi:x.cps.size≤i:=hg
    obtain ⟨f0,f1,f2,f3,f4,f5⟩:=hf it (by simp)
    exact wpAny_pyNext_ascii_end (I.ok.hd hc) st (Array.getElem?_eq_none hi) fun h' eb=>⟨rfl,I.turned (t':=s.toks) (fun b o hb e=>eb b o hb e) f0 f1 f3 f4 f5⟩
  self:=fun _ _ _ _ _ st h=>wpAny_pyIter_striter_ascii st h
section
variable {X:Cx} {tg e:Expr} {ms:List Nat} {m:MEx}
theorem pi_str {l:Expr} {tl:TE} (hl:PE X l tl):PI X tg l (fun σ H R=>tl σ H fun v H1=>∃ x,v = .str x∧x.cps.all (· < 128)=true∧R (Its x) H1):=by
  intro pins s σ H R I h
  refine thn (hl pins s σ H _ I h) fun v s1 ⟨y,H1,I1,r1,q1⟩ => ?_
  obtain ⟨x,e,ha,q⟩:=q1
  subst e
  obtain ⟨t,rfl⟩:=r1
  refine wpAny_pyIter_ascii ha ?_
  refine ⟨s1.heap.objs.size,[s1.heap.objs.size],_,_,H1,rfl,I1.kept (t':=s1.toks) fun b o e=>Heap.get?_push_of_some _ e,turn_str x t _,⟨_,Heap.get?_push_size _ rfl,rfl,rfl⟩,fun b hb => ?_,q⟩
  have e:b=s1.heap.objs.size:=by simpa using hb
  subst e
  exact I1.fpOk (Nat.le_refl _) (I1.hok.fresh (Nat.le_refl _))
noncomputable def YX (x:Str):List PV:=x.cps.toList.map fun c => .str ⟨#[c]⟩
noncomputable def itX:PV→Option (List PV)
  | .str x=>if x.cps.all (· < 128)=true then some (YX x) else none
  | _=>none
noncomputable def iStr (m:MEx):PEnv→Option (List PV):=fun γ=>(m γ).bind itX
theorem im_str (h:EM X ms e m):IM X ms tg e (iStr m):=PI.imp (pi_str h) fun σ H R ⟨F,γ,xs,h1,h2,h3,w⟩=>by
  obtain ⟨p,e1,e2⟩:=Qg h3
  refine ⟨F,γ,p,h1,h2,e1,fun v H' F' g q => ?_⟩
  cases p with
  | str x =>
    have e2:(if x.cps.all (· < 128)=true then some (YX x) else none)=some xs:=e2
    obtain ⟨ha,rfl⟩:=QC e2
    unfold Rep at q
    subst q
    refine ⟨x,rfl,ha,w _ _ _ g ?_⟩
    have hl:(YX x).length=x.cps.size:=by simp [YX]
    refine ⟨fun i H hi e => ?_,fun i H v H' hi e y => ?_,fun H e => ?_⟩
    · rw [hl] at hi;exact hi
    · obtain ⟨rfl,c,hc,rfl⟩:=y
      refine ⟨.str ⟨#[c]⟩,?_,fun F1 x1 x2=>⟨F1,.refl x2,XQ _⟩⟩
      unfold YX
      rw [List.getElem?_map,Array.getElem?_toList,hc]
      rfl
    · show x.cps.size≤_
      rw [hl]
      exact Nat.le_refl _
  | _=>cases e2
end
end L2.PM

noncomputable section
namespace L2.PM
open PySem PySem.Spec PyProof.Rows PySem.Builtin PySem.Builtin.Str
section
variable {prog:Program} {w:World} {A:Around} {E:Value→Shared→Prop} {s:Shared} {x y:Str} {t u:Tok}
theorem QgK {Q:Value→Shared→Prop} (hy:(y.length==0)=false)
    (h:∀ l k,l.map (·.1)=Txt.split x y→l.length≤sizeLine→Q (.ref s.heap.objs.size) { s with heap:=s.heap.push { cls := .type "list",data := .seq (strValues l).toArray },toks:=k })
    (hsz:x.length + 2≤sizeLine):wpAny (model prog w) A (call (.builtin "str.split") [.str x t,.str y u]) Q E s:=by
  have hn:(partsBetween x (occurrences x y 0 x.length (x.length + 1)) y.length).length≤sizeLine:=by
    have e1:=StrLaws.occ_length_le x y 0 x.length (x.length + 1)
    rw [length_partsBetween];omega
  cases h1:(decide (x.length < y.length)||decide (strKind x < strKind y))
  · cases hf:(occurrences x y 0 x.length (x.length + 1)).isEmpty
    · refine call_meets F.slot_str_split (typeIs_str _ _ _) F.entry_str_split (F.args_str_split_2 _ _) (meets_str_split_sep x y t u h1 hy hf (by omega) hn) ?_
      show wants Q E _ { s with toks:=_,heap:=s.heap.push { cls := .type "list",data := .seq (strsFrom s.toks (partsBetween x (occurrences x y 0 x.length (x.length + 1)) y.length)).toArray } }
      rw [strsFrom_eq]
      refine h (numbered s.toks _) _ ((numbered_texts _ _).trans ((if_neg (ne_true_of_eq_false h1)).trans (if_neg (ne_true_of_eq_false hf))).symm) ?_
      have:=congrArg List.length (numbered_texts s.toks (partsBetween x (occurrences x y 0 x.length (x.length + 1)) y.length))
      rw [List.length_map] at this
      rw [this]
      exact hn
    · exact call_meets F.slot_str_split (typeIs_str _ _ _) F.entry_str_split (F.args_str_split_2 _ _) (meets_str_split_not_found x y t u h1 hy hf)
        (h [(x,t)] s.toks ((if_neg (ne_true_of_eq_false h1)).trans (if_pos hf)).symm (by show 1≤sizeLine;decide))
  · exact call_meets F.slot_str_split (typeIs_str _ _ _) F.entry_str_split (F.args_str_split_2 _ _) (meets_str_split_cannot_occur x y t u h1)
      (h [(x,t)] s.toks (if_pos h1).symm (by show 1≤sizeLine;decide))
end
section
variable {X:Cx} {o e:Expr} {es:List Expr} {ms ns:List Nat} {m:MEx} {ma:PEnv→Option (List PV)}
noncomputable def QbA:PV→List PV→Option (List PV)
  | .str x,[.str y]=>if (y.length==0)=false∧x.length + 2≤LIM then some ((Txt.split x y).map .str) else none
  | _,_=>none
theorem QbM:∀ l:List (Str×Tok),Vals ((l.map (·.1)).map V.str) (strValues l)
  | [] => .nil
  | p :: l => .cons ⟨p.2,rfl⟩ (QbM l)
theorem mm_split:MtR X "str.split" (rMtO X.K QbA):=by
  intro pins s σ H x xs v us Q I rx rs h
  obtain ⟨F,p,ps,r,h1,h2,h3,h4,w⟩:=h
  unfold QbA at h4
  split at h4
  · rename_i x y
    obtain ⟨⟨c1,c2⟩,rfl⟩:=QC h4
    unfold Rep at h2
    subst h2
    obtain ⟨t,rfl⟩:=rx
    unfold RepL at h3
    obtain ⟨v1,r1,rfl,h3,ht⟩:=h3
    unfold RepL at ht
    subst ht
    unfold Rep at h3
    subst h3
    obtain ⟨u,rfl,ru⟩:=Qds rs
    obtain ⟨t2,rfl⟩:=ru
    refine QgK c1 (fun l k el hl => ?_) (Nat.le_trans c2 ZI)
    have hp:H s.heap.objs.size=none:=I.hok.fresh (Nat.le_refl _)
    have nF:F s.heap.objs.size=none:=h1.free hp
    have hv:=QbM l
    rw [el] at hv
    exact ⟨.ref _,_,I.lnew (t':=k) hv (by rw [List.length_map,← el,List.length_map];exact hl),rfl,w _ _ _ F (.side h1 hp) hp nF Qp (Qab _)⟩
  · cases h4
theorem QeO {apos cpos:Pos} (h:EM X ms o m) (ha:AM X ns (e :: es) ma) (hbase:attributeBase o "split" X.env (eval o X.env)=eval o X.env:=by rfl)
    (hfew:((backTo cpos (starEach (e :: es) X.env)).all (fun x => !x.1)&&(backToKw cpos (keywordEach [] X.env)).all (fun x=>x.1.isSome)
      && decide ((e :: es).length + ([]:List Keyword).length + (if ([]:List Keyword).isEmpty then 0 else 1) < 30))=true:=by rfl)
    (hline:(apos.endLine==cpos.line)=true:=by rfl) (hs:starEach (e :: es) X.env=(false,eval e X.env) :: starEach es X.env:=by rfl) (hplain:(backTo cpos (starEach es X.env)).any (·.1)=false:=by rfl) :
    EO X (ms++ns) (.Call (.Attribute o "split" apos) (e :: es) [] cpos) (mMt "str" QbA m ma) :=
  eo_mt h ha (Qdt PySem.F.plainAttrs_str PySem.F.slot_str_split PySem.F.type_str_split mm_split h ha hbase hfew hline hs hplain)
end
end L2.PM

noncomputable section
namespace L2.PM
open PySem PySem.Spec PyProof.Rows
section
variable {X:Cx}
noncomputable def Qgf:V→List V→Hp→VK→Prop:=fun x vs H Q=>∃ l xs y i,x = .ref l∧vs=[.int i,y]∧H l=some (.lst xs)∧0≤i∧i≤xs.length∧xs.length < sizeLine∧xs.length≤100000∧Q .non (upd H l (.lst (xs.take i.toNat++y :: xs.drop i.toNat)))
theorem QgV:MtM X "list.insert" Qgf:=by
  intro pins s σ H x vs v us Q I rx rv h
  obtain ⟨l,xs,y,i,rfl,rfl,hH,h0,hi,hz,hz2,q⟩:=h
  cases rx
  cases rv with
  | cons r1 rv =>
    cases rv with
    | cons r2 rv =>
      cases rv
      obtain ⟨t,rfl⟩:=r1
      obtain ⟨z,its,n,r,hl,e⟩:=I.lstM hH
      have hfit:¬(!Builtin.List.listFitsIndex i)=true:=by
        have:Builtin.List.listFitsIndex i=true:=by
          unfold Builtin.List.listFitsIndex
          simp
          omega
        simp [this]
      refine call_meets PySem.F.slot_list_insert ⟨_,e,rfl⟩ PySem.F.entry_list_insert (PySem.F.args_list_insert_3 _ _ _) (PySem.AutoListH.list_insert_list_int_val_1 l its.toArray n i t _ hfit (by rw [List.size_toArray];omega)) ⟨e,?_⟩
      refine ⟨.non,_,I.lset (its':=its.take i.toNat++_ :: its.drop i.toNat) hH e ?_ ((r.take _).append (.cons r2 (r.drop _))) ?_,rfl,q⟩
      · have h1:¬ i < 0:=by omega
        simp only [h1,if_false,List.size_toArray]
        have h2:min i.toNat its.length=i.toNat:=by omega
        rw [h2]
        apply Array.toList_inj.mp
        simp
        exact List.take_of_length_le (by rw [List.length_drop];exact Nat.le_refl _)
      · rw [List.length_append,List.length_cons,List.length_take,List.length_drop]
        omega
variable {e k:Expr} {ms:List Nat} {m mk:MEx} {p2 pos:Pos}
noncomputable def insK (ms:List Nat) (i:Nat) (γ:PEnv) (xs:List PV) (r:PV):PV→Option Out
  | .int j=>if 0≤j∧j≤xs.length∧xs.length≤1000∧(flat r || !ms.contains i)=true then some (.nx ((Zd (flat r) ms γ).set i (.ow (xs.take j.toNat++r :: xs.drop j.toNat)))) else none
  | _=>none
noncomputable def sIns (ms:List Nat) (i:Nat) (mk m:MEx):MSt:=fun γ=>match γ[i]? with
  | some (.ow xs)=>(mk γ).bind fun j=>(m γ).bind fun r=>insK ms i γ xs r j
  | _=>none
end
end L2.PM

noncomputable section
namespace L2.PM
open PySem PySem.Spec PyProof.Rows
section
variable {X:Cx} {o e:Expr} {es:List Expr} {ms ns:List Nat} {m:MEx} {ma:PEnv→Option (List PV)}
end
end L2.PM

noncomputable section
namespace L2.PM
open PySem PySem.Spec PyProof.Rows
section
variable {X:Cx} {o e:Expr} {es:List Expr} {ms ns:List Nat} {m:MEx} {ma:PEnv→Option (List PV)} {C:Addr} {f:Str} {pos apos:Pos}
variable {k n:Nat} {fa:Addr} {fd:FuncData} {ps:List Str}
end
end L2.PM

noncomputable section
namespace L2.PM
open PySem
noncomputable def QaN:List PV→Option PV
  | [.tup xs]=>match Xh xs with
    | some ss=>if ss.length < 1000 then some (.int (once ss).length) else none
    | none=>none
  | _=>none
end L2.PM

noncomputable section
namespace L2.PM
open PySem PySem.Spec PyProof.Rows
section
variable {X:Cx} {e a b c:Expr} {es:List Expr} {ms ns ls:List Nat} {m m1 m2 m3:MEx} {ma:PEnv→Option (List PV)} {pos p p1 p2 p3 pos':Pos} {x:Str} {id T:String} {tg:Expr}
end
open PySem.AutoSeq1 (wpAny_loadPart')
section
variable {X:Cx} {e a b c:Expr} {es:List Expr} {ms ns ls:List Nat} {m m1 m2 m3:MEx} {ma:PEnv→Option (List PV)} {pos p p1 p2 p3 pos':Pos} {x:Str} {id T:String} {tg:Expr}
end
structure FunD (K:PySem.W.Frag) (x qual:Str) (st:Stmt) (f:Addr) (fd:FuncData) (j:Int):Prop where
  ex:∃ (T:Addr) (oc:Value) (od:Option Addr) (kV doc pm:Value) (an:Option Addr) (cdv ct:Value) (osl:Array (Option Value)),
    fd=PySem.W.fnOf x qual (Qq st) (Qm st) (Qf st) (.ref T) kV doc pm an cdv ct∧K.lookup f=some ⟨oc,od,.func fd,osl⟩∧PySem.W.codeIn K cdv qual=true ∧
    ∃ (tc:Value) (td:Option Addr) (tk:Tok) (tn:Nat) (ts:Array (Option Value)),K.lookup T=some ⟨tc,td,.seq #[.int j tk] tn,ts⟩
  kp:PySem.W.keepIn K (.ref f)=true
theorem funD_mk {K:PySem.W.Frag} {x qual:Str} {st:Stmt} {f T:Addr} {oc tc:Value} {od an td:Option Addr} {osl ts:Array (Option Value)} {kV doc pm cdv ct:Value} {j:Int} {tk:Tok} {tn:Nat} (l:K.lookup f=some ⟨oc,od,.func (PySem.W.fnOf x qual (Qq st) (Qm st) (Qf st) (.ref T) kV doc pm an cdv ct),osl⟩)
    (c:PySem.W.codeIn K cdv qual=true) (k:PySem.W.keepIn K (.ref f)=true) (t:K.lookup T=some ⟨tc,td,.seq #[.int j tk] tn,ts⟩):FunD K x qual st f (PySem.W.fnOf x qual (Qq st) (Qm st) (Qf st) (.ref T) kV doc pm an cdv ct) j :=
  ⟨⟨T,oc,od,kV,doc,pm,an,cdv,ct,osl,rfl,l,c,tc,td,tk,tn,ts,t⟩,k⟩
section
variable {P:Program} {w:World} {K:PySem.W.Frag} {mg:Str→Option Value} {base:Heap}
theorem FunD.ok {x qual:Str} {st:Stmt} {f:Addr} {fd:FuncData} {j:Int} {N ps:List Str} {k:Nat} {sp:Sp} (F:FunD K x qual st f fd j) (S:FnScope N ps (Qf st)) (len:∀ vs H Q E,sp vs H Q E→vs.length=ps.length)
    (hbody:∀ (cdv:Value) (A:Around) (outer:List Env) (s:Shared) (H:Hp) (vs:List V) (Q:VK) (E:XK),Room k (A.deeper (envOfC qual (Qf st) s.heap.objs.size f cdv))→sp vs H Q E →
      ∃ t,PSs (cxOf CX0 P w K mg base N qual (Qf st) f cdv A outer s H E).nox (Qm st) t∧t { nx:=fun _ H'=>Q .non H',rt:=Q } (Yq N vs) H):FnOk P w K mg base CX0 (k + 1) f fd ps sp:=by
  obtain ⟨T,oc,od,kV,doc,pm,an,cdv,ct,osl,rfl,lk,hcd,_⟩:=F.ex
  refine fn_of lk hcd S len fun A outer s H vs Q E hr hsp => ?_
  obtain ⟨t,h,q⟩:=hbody cdv A outer s H vs Q E hr hsp
  exact ⟨t,h.nox,q⟩
theorem FunD.binds {x qual:Str} {st:Stmt} {f:Addr} {fd:FuncData} {j:Int} {ps:List Str} (F:FunD K x qual st f fd j)
    (h:∀ (dV kV doc pm:Value) (an:Option Addr) (cdv ct d:Value) (us:List Value),us.length=ps.length→∃ k:Option (Array Value)→Sem (List (Str×Value)),bindArgs (PySem.W.fnOf x qual (Qq st) (Qm st) (Qf st) dV kV doc pm an cdv ct) ⟨us,[]⟩=seqItems? dV >>= k∧k (some #[d])=pure (ps.zip us)):Yz K fd ps []:=by
  obtain ⟨T,oc,od,kV,doc,pm,an,cdv,ct,osl,rfl,lk,hcd,tc,td,tk,tn,ts,t⟩:=F.ex
  intro s us X hl
  rw [List.append_nil] at hl ⊢
  obtain ⟨k,e1,e2⟩:=h (.ref T) kV doc pm an cdv ct (.int j tk) us hl
  exact BindsTo.of_defaults rfl (X _ _ t) rfl e1 e2
theorem FunD.bindsD {x qual:Str} {st:Stmt} {f:Addr} {fd:FuncData} {j:Int} {ps:List Str} (F:FunD K x qual st f fd j)
    (h:∀ (dV kV doc pm:Value) (an:Option Addr) (cdv ct d:Value) (us:List Value),us.length + 1=ps.length→∃ k:Option (Array Value)→Sem (List (Str×Value)),bindArgs (PySem.W.fnOf x qual (Qq st) (Qm st) (Qf st) dV kV doc pm an cdv ct) ⟨us,[]⟩=seqItems? dV >>= k∧k (some #[d])=pure (ps.zip (us++[d]))) :
    ∃ tk:Tok,Yz K fd ps [.int j tk]:=by
  obtain ⟨T,oc,od,kV,doc,pm,an,cdv,ct,osl,rfl,lk,hcd,tc,td,tk,tn,ts,t⟩:=F.ex
  refine ⟨tk,fun s us X hl => ?_⟩
  obtain ⟨k,e1,e2⟩:=h (.ref T) kV doc pm an cdv ct (.int j tk) us (by simpa using hl)
  exact BindsTo.of_defaults rfl (X _ _ t) rfl e1 e2
end
section
variable {X:Cx} {e:Expr} {es:List Expr} {ms:List Nat} {ma:PEnv→Option (List PV)} {x:Str} {p pos:Pos} {k n:Nat} {j:Int} {m:MEx}
end
end L2.PM

noncomputable section
namespace L2.PM
open PySem PySem.Spec PyProof.Rows
section
variable {prog:Program} {w:World} {A:Around} {E:Value→Shared→Prop} {s:Shared} {z TI TO i1 i2:Addr} {f1 f2:List Addr} {n1 n2 k1 k2:Nat} {P1 P2:Nat→Value→Prop} {S1 S2:Nat→Heap→Prop}
end
noncomputable abbrev hz1 (h:Heap) (a:Addr):Heap:=h.push { cls := .type "tuple_iterator",data := .fields #[.ref a,.int 0 0] }
noncomputable abbrev hz2 (h:Heap) (a c:Addr):Heap:=(hz1 h a).push { cls := .type "list_iterator",data := .fields #[.ref c,.int 0 0] }
section
variable {X:Cx} {e a b c:Expr} {es:List Expr} {ms ns ls:List Nat} {m m1 m2 m3:MEx} {ma:PEnv→Option (List PV)} {pos p p1 p2 p3 pos':Pos} {x:Str} {id T:String} {tg:Expr}
end
end L2.PM

noncomputable section
namespace L2.PM
open PySem PySem.Spec PyProof.Rows
section
variable {prog:Program} {w:World} {A:Around} {E:Value→Shared→Prop} {s:Shared}
noncomputable def XC (prog:Program) (w:World) (L:Bool) (h:Heap) (a:Addr) (M:List Str):Prop :=
  ∃ o es ep t,h.get? a=some o∧o.ExactSet∧o.data = .set es ep t∧ElemsOf (strKind prog w) es.toList∧(∀ k,k∈M↔∃ e∈es.toList,(strKind prog w).is k e.2=true) ∧
    es.size < scanBound∧t.fits es.size=true∧es.size=M.length∧M.Nodup∧Kept L t
theorem XC.at {L:Bool} {h h':Heap} {a:Addr} {M:List Str} (x:XC prog w L h a M) (e:∀ o,h.get? a=some o→h'.get? a=some o):XC prog w L h' a M:=by
  obtain ⟨o,es,ep,t,ho,r⟩:=x
  exact ⟨o,es,ep,t,e o ho,r⟩
noncomputable def ZY (M:List Str) (k:Str):List Str:=if k∈M then M else M++[k]
theorem Xy {M:List Str} (h:M.Nodup) (k:Str):(ZY M k).Nodup:=by
  unfold ZY
  split
  · exact h
  · rename_i hk
    rw [List.nodup_append]
    exact ⟨h,by simp,fun a ha b hb=>by
      rw [List.mem_singleton] at hb
      subst hb
      exact fun e=>hk (e ▸ ha)⟩
theorem Qgh {h:Heap} {a:Addr} {o:Obj} {es:Array (Int×Value)} {ep:Nat} {t:SetTable} (ho:h.get? a=some o) (hd:o.data = .set es ep t) (es':Array (Int×Value)) (t':SetTable) :
    (h.update a (Obj.putSet es' t')).get? a=some { o with data := .set es' (ep + 1) t' }:=by
  have e:=putSet_of es' t' hd
  have z:=Heap.get?_update_self (Obj.putSet es' t') ho (by rw [e];rfl)
  rw [e] at z
  exact z
theorem Qaq {M:List Str} {k:Str} {v:Value} {l l':List (Int×Value)} (hk:(strKind prog w).is k v=true) (hm:∀ k,k∈M↔∃ e∈l,(strKind prog w).is k e.2=true) (hn:k∉M) (p:l'.Perm (l++[((strKind prog w).hash k,v)])) (j:Str) :
    j∈ZY M k↔∃ e∈l',(strKind prog w).is j e.2=true:=by
  unfold ZY
  rw [if_neg hn,List.mem_append,List.mem_singleton]
  constructor
  · rintro (z | rfl)
    · obtain ⟨e,he,q⟩:=(hm j).mp z
      exact ⟨e,p.mem_iff.mpr (List.mem_append_left _ he),q⟩
    · exact ⟨_,p.mem_iff.mpr (List.mem_append_right _ (List.mem_singleton_self _)),hk⟩
  · rintro ⟨e,he,q⟩
    rcases List.mem_append.mp (p.mem_iff.mp he) with z | z
    · exact .inl ((hm j).mpr ⟨e,z,q⟩)
    · rw [List.mem_singleton.mp z] at q
      exact .inr ((strKind prog w).inj v j k q hk)
theorem add_LS {L:Bool} {a:Addr} {M:List Str} {k:Str} {tk:Tok} {Q:Bool→Shared→Prop} (hS:XC prog w L s.heap a M) (room:M.length + 1 < scanBound)
    (fin:∀ b h',Heap.SameBut a s.heap h'→XC prog w L h' a (ZY M k)→Q b { s with heap:=h' }):wpAny (model prog w) A (setAddHashed a (.str k tk) ((strKind prog w).hash k)) Q E s:=by
  obtain ⟨o,es,ep,t,ho,hex,hd,hel,hm,hb,hf,hn,hnd,hkp⟩:=hS
  have hk:(strKind prog w).is k (.str k tk)=true:=strKind_is _ _ _ _
  have hsc:(Value.str k tk).scannable=true:=rfl
  have tail:∀ (g:Bool→Sem Unit),(∀ (b:Bool) (s₁:Shared) (R:Unit→Shared→Prop),R () s₁→wpAny (model prog w) A (g b) R E s₁)→∀ (eA:Array (Int×Value)) (tB:SetTable) (wd:Bool) (R:Option Bool→Shared→Prop),
      ElemsOf (strKind prog w) eA.toList→(∀ j,j∈ZY M k↔∃ e∈eA.toList,(strKind prog w).is j e.2=true)→eA.size < scanBound→tB.fits eA.size=true→eA.size=(ZY M k).length→Kept L tB →
      (∀ h',Heap.SameBut a s.heap h'→XC prog w L h' a (ZY M k)→R (some true) { s with heap:=h' }) →
      wpAny (model prog w) A (do
        storeSet a eA tB
        if (!wd&&tB.tooFull)=true then do
            g (relayAll tB eA (SetTable.grown eA.size)).2.2
            storeSet a (relayAll tB eA (SetTable.grown eA.size)).1 (relayAll tB eA (SetTable.grown eA.size)).2.1
            pure (some true)
          else pure (some true)) R E s:=by
    intro g hg eA tB wd R h1 h2 h3 h4 h5 h6 hR
    have at1:=Qgh ho hd eA tB
    refine wpAny_bind (wpAny_storeSet_of ho hd ?_ (fits_of_scanBound h3))
    have sb1:=Heap.SameBut.update s.heap a (Obj.putSet eA tB)
    split
    · have p:=relayAll_perm tB eA (SetTable.grown eA.size)
      have ff:=relayAll_fits tB eA (SetTable.grown eA.size)
      have kk:=Qfi h6 eA (SetTable.grown eA.size)
      generalize relayAll tB eA (SetTable.grown eA.size)=rl at p ff kk ⊢
      obtain ⟨es2,t3,gave⟩:=rl
      have sz:es2.size=eA.size:=by
        have:=p.length_eq
        simpa using this
      refine wpAny_bind (hg _ _ _ (wpAny_bind (wpAny_storeSet_of at1 rfl ?_ (fits_of_scanBound (by show es2.size < _;rw [sz];exact h3)))))
      have at2:=Qgh at1 rfl es2 t3
      refine wpAny_pure (hR _ (sb1.trans (Heap.SameBut.update _ a _)) ⟨_,es2,_,t3,at2,hex,rfl,h1.perm p,fun j=>(h2 j).trans ⟨fun ⟨e,he,q⟩=>⟨e,p.mem_iff.mpr he,q⟩,fun ⟨e,he,q⟩=>⟨e,p.mem_iff.mp he,q⟩⟩,by rw [sz];exact h3,ff,by rw [sz];exact h5,Xy hnd k,kk⟩)
    · exact wpAny_pure (hR _ sb1 ⟨_,eA,_,tB,at1,hex,rfl,h1,h2,h3,h4,h5,Xy hnd k,h6⟩)
  unfold setAddHashed setAddHashedIn
  refine wpAny_holding (wpAny_bind (wpAny_setState_of ho hd hf ?_))
  dsimp only
  rw [byScan_of hsc hb hel,if_pos rfl]
  unfold setAddByScan
  refine wpAny_bind (wpAny_bind (wpAny_rule (wpAny_bind (wpAny_setScan_of hk ho hd hf hel ?_))))
  cases hr:List.findIdx? (fun e=>(strKind prog w).is k e.2) es.toList with
  | some j =>
    obtain ⟨hj,pj,_⟩:=List.findIdx?_eq_some_iff_getElem.mp hr
    have hkM:k∈M:=(hm k).mpr ⟨_,List.getElem_mem hj,pj⟩
    refine wpAny_pure (wpAny_pure ?_)
    have z:=fin false s.heap (Heap.SameBut.refl a s.heap) (by
      unfold ZY
      rw [if_pos hkM]
      exact ⟨o,es,ep,t,ho,hex,hd,hel,hm,hb,hf,hn,hnd,hkp⟩)
    exact z
  | none =>
    have hkM:k∉M:=fun z=>by
      obtain ⟨e,he,q⟩:=(hm k).mp z
      rw [List.findIdx?_eq_none_iff.mp hr e he] at q
      cases q
    have gw:∀ (b:Bool) (s₁:Shared) (R:Unit→Shared→Prop),R () s₁→wpAny (model prog w) A (match b with | true=>rule "set.scan.the-table-gave-way" | false=>pure ()) R E s₁:=fun b s₁ R hq=>by
      cases b
      · exact wpAny_pure hq
      · exact wpAny_rule hq
    have pm:=layNew_perm t es ((strKind prog w).hash k) (.str k tk)
    have fi:=layNew_fits t es ((strKind prog w).hash k) (.str k tk)
    have kp:=Qeh hkp es ((strKind prog w).hash k) (.str k tk)
    dsimp only
    generalize layNew t es ((strKind prog w).hash k) (.str k tk)=ly at pm fi kp ⊢
    obtain ⟨eA,t1,wd,gave⟩:=ly
    dsimp only at pm fi kp ⊢
    rw [Array.toList_push] at pm
    have sz:eA.size=es.size + 1:=by
      have:=pm.length_eq
      simpa using this
    have szM:eA.size=(ZY M k).length:=by
      unfold ZY
      rw [if_neg hkM,sz,hn]
      simp
    refine wpAny_bind (gw _ _ _ ?_)
    have done:∀ h',Heap.SameBut a s.heap h'→XC prog w L h' a (ZY M k)→wpAny (model prog w) A (match some true with | some added=>pure added | none=>setAddHashedIn a (.str k tk) ((strKind prog w).hash k) 99999) Q E { s with heap:=h' }:=fun h' sb z=>wpAny_pure (fin true h' sb z)
    split
    · refine wpAny_bind ?_
      rw [hashByValue_scannable 8 hsc]
      refine wpAny_pure (tail _ gw eA _ wd _ ((hel.push hk hsc).perm pm) (Qaq hk hm hkM pm) (by omega) ?_ szM ?_ done)
      · split
        · exact fi
        · exact SetTable.fits_plain_off fi
      · split
        · exact kp
        · exact Qfj kp _
    · refine wpAny_bind (wpAny_pure ?_)
      rw [if_pos rfl]
      exact tail _ gw eA _ wd _ ((hel.push hk hsc).perm pm) (Qaq hk hm hkM pm) (by omega) fi szM kp done
end
end L2.PM

noncomputable section
namespace L2.PM
open PySem PySem.Spec PyProof.Rows
noncomputable def Qai (val:Nat→Str) (i:Nat):List Str:=((List.range i).map val).foldl ZY []
theorem QbO (val:Nat→Str) (i:Nat):Qai val (i + 1)=ZY (Qai val i) (val i):=by
  unfold Qai
  rw [List.range_succ,List.map_append,List.foldl_append]
  rfl
theorem QgW (M:List Str) (k:Str):(ZY M k).length≤M.length + 1:=by
  unfold ZY
  split
  · omega
  · simp
theorem QcV (val:Nat→Str):∀ i,(Qai val i).length≤i
  | 0=>Nat.le_refl _
  | i + 1=>by
    rw [QbO]
    have:=QgW (Qai val i) (val i)
    have:=QcV val i
    omega
section
variable {prog:Program} {w:World} {A:Around} {E:Value→Shared→Prop} {s:Shared}
theorem Qes {R:Result→Shared→Prop} {I:Addr} {fp wr:List Addr} {G:Array GenState→Array GenState→Prop} {n:Nat} {P:Nat→Value→Prop} {St:Nat→Shared→Prop} {L:Bool}
    (W:WalksS prog w A.in1 I fp wr G n P St) (D:Addr) (out:D∉fp) (val:Nat→Str) (hval:∀ i v,P i v→∃ t,v = .str (val i) t) (small:n + 1 < scanBound) :
    ∀ (k i:Nat) (s:Shared),n - i=k→i≤n→St i s→XC prog w L s.heap D (Qai val i) →
      (∀ s',Moved (D :: wr) G s s'→XC prog w L s'.heap D (Qai val n)→R (.ok (.ret .none)) s')→codeAny (model prog w) A (.builtin "set.update.loop" ⟨[.ref D,.ref I],[]⟩) R s
  | 0,i,s,hk,hi,st,hS,fin=>by
    obtain rfl:i=n:=by omega
    have dw:D∉wr:=fun z=>out (W.sub _ z)
    refine codeAny_builtin PyProof.Rows.F.entry_set_update_loop ?_
    rw [Around.under_plainId PyProof.Rows.F.plain_set_update_loop _]
    show wpAny _ A.in1 (pyNext (.ref I) >>= _) _ _ s
    refine wpAny_bind (W.done s _ _ st fun s' mv => ?_)
    show wpAny _ A.in1 (ret Value.none) _ _ s'
    exact wpAny_pure (fin s' (mv.mono fun b hb=>List.mem_cons_of_mem _ hb) (hS.at fun o e=>mv.heap D o dw e))
  | k + 1,i,s,hk,hi,st,hS,fin=>by
    have dw:D∉wr:=fun z=>out (W.sub _ z)
    refine codeAny_builtin PyProof.Rows.F.entry_set_update_loop ?_
    rw [Around.under_plainId PyProof.Rows.F.plain_set_update_loop _]
    show wpAny _ A.in1 (pyNext (.ref I) >>= _) _ _ s
    refine wpAny_bind (W.item i s _ _ (by omega) st fun v s' hp st' mv => ?_)
    obtain ⟨t,rfl⟩:=hval i v hp
    show wpAny _ A.in1 (holding [Value.str (val i) t] (setAdd D (.str (val i) t)) >>= _) _ _ s'
    refine wpAny_bind (wpAny_holding ?_)
    unfold setAdd
    refine wpAny_holding (wpAny_bind ((strKind prog w).pyHash (k:=val i) (strKind_is _ _ _ _) ?_))
    have sl:=QcV val i
    refine add_LS (s:={ s' with toks:=s'.toks + 1 }) (hS.at fun o e=>mv.heap D o dw e) (by omega) fun b h' sb z => ?_
    rw [← QbO] at z
    refine wpAny_pure ⟨plainId_quiet PyProof.Rows.F.plain_set_update_loop _,Qes W D out val hval small k (i + 1) _ (by omega) (by omega) (W.frame _ s' _ _ st' (Nat.le_succ _) fun b hb o e => ?_) z fun s'' mv2 z2 => ?_⟩
    · exact (sb.2 b fun q=>out (q ▸ hb)).trans e
    · refine fin s'' (Moved.trans W.gtrans ((mv.mono fun b hb=>List.mem_cons_of_mem _ hb).then_heap (Nat.le_succ _) fun b o hb e => ?_) mv2) z2
      exact (sb.2 b fun q=>hb (q ▸ List.mem_cons_self)).trans e
noncomputable def Qdx:List Value→List Str→Prop
  | [],[]=>True
  | v :: vs,x :: xs=>(∃ t,v = .str x t)∧Qdx vs xs
  | _,_=>False
theorem Qdx.str_at:∀ {vs:List Value} {xs:List Str},Qdx vs xs→∀ (i:Nat) (v:Value),vs[i]?=some v→∃ t,v = .str (xs.getD i "") t
  | [],_,_,i,v,e=>by simp at e
  | w :: vs,[],h,_,_,_=>h.elim
  | w :: vs,x :: xs,h,0,v,e=>by
    simp at e
    subst e
    exact h.1
  | w :: vs,x :: xs,h,i + 1,v,e=>by
    have:=Qdx.str_at h.2 i v (by simpa using e)
    simpa using this
theorem fresh_LS {h:Heap} {a:Addr} (e:h.get? a=some { cls := .type "set",dict:=none,data := .set #[] 0 (.fresh 0 0 (!byT w)) }):XC prog w (!byT w) h a [] :=
  ⟨_,#[],0,_,e,⟨rfl,rfl,rfl⟩,rfl,fun e he=>by simp at he,fun k=>by simp,by decide,by rfl,rfl,.nil,rfl,by unfold Up;simp [SetTable.fresh]⟩
set_option maxHeartbeats 3200000 in
theorem Qft {l:Addr} {its:Array Value} {ns:List Str} {Q:Value→Shared→Prop} (calm:A.handled=none) (hl:s.heap.IsTuple l its) (hi:Qdx its.toList ns) (hb:its.size + 1 < scanBound)
    (fin:∀ (h':Heap) (tk:Nat),XC prog w (!byT w) h' s.heap.objs.size (Qai (fun i=>ns.getD i "") its.size)→(∀ b o,b < s.heap.objs.size→s.heap.get? b=some o→h'.get? b=some o)→Q (.ref s.heap.objs.size) { s with heap:=h',toks:=tk }) :
    wpAny (model prog w) A (call (.type "set") [.ref l]) Q E s:=by
  obtain ⟨c,tl,hmro⟩:=PySem.F.called_set.mro
  have hmade:=PySem.F.called_set.made
  have hsub:=PySem.F.called_set.sub
  refine wpAny_call (codeAny_of_tree ?_)
  show wpAny _ _ (callAny (.type "set") _) _ _ _
  refine wpAny_pure ⟨Code.quiet_builtin _ (by decide +kernel),codeAny_builtin PySem.F.entry_type_call ?_⟩
  rw [Around.under_plain (weight_type_call_type "set" [.ref l] []) rfl]
  have h1:=PySem.F.called_set.notType
  have h2:=PySem.F.called_set.canCreate
  have hct:=PySem.F.typeCall_set_1 (.ref l)
  repeat (any_goals (first | assumption | wp_step))
  refine codeAny_mono (setNew (.ref l) (E:=E) (Q₁:=fun obj s₁=>obj = .ref s.heap.objs.size∧s₁={ s with heap:=s.heap.push { cls := .type "set",dict:=none,data := .set #[] 0 (.fresh 0 0 (!byT w)) } }) ⟨rfl,rfl⟩) fun r s₁ hr => ?_
  cases r with
  | error e=>exact hr
  | ok fl =>
    cases fl with
    | ret obj =>
      obtain ⟨rfl,rfl⟩:=hr
      have at0:(s.heap.push { cls := .type "set",dict:=none,data := .set #[] 0 (.fresh 0 0 (!byT w)) }).get? s.heap.objs.size=some { cls := .type "set",dict:=none,data := .set #[] 0 (.fresh 0 0 (!byT w)) }:=Heap.get?_push_size _ rfl
      have hT:Shared.TypeIs { s with heap:=s.heap.push { cls := .type "set",dict:=none,data := .set #[] 0 (.fresh 0 0 (!byT w)) } } (.ref s.heap.objs.size) "set":=⟨_,at0,rfl⟩
      have hli:=PySem.F.called_set.init.lookup
      have hbi:=PySem.F.called_set.init.bind (.ref s.heap.objs.size)
      repeat (any_goals (first | assumption | wp_step))
      refine codeAny_mono (codeAny_call_builtin (R:=wants (fun r s₂=>r = .none∧∃ h' tk,s₂={ s with heap:=h',toks:=tk }∧XC prog w (!byT w) h' s.heap.objs.size (Qai (fun i=>ns.getD i "") its.size) ∧
          (∀ b o,b < s.heap.objs.size→s.heap.get? b=some o→h'.get? b=some o)) E) PySem.F.called_set.init.plain PySem.F.entry_set_init (check_set_init_1 hT ?_)) fun r₂ s₂ hr₂ => ?_
      · obtain ⟨ol,hol,hcl,nl,hdl⟩:=hl
        obtain ⟨ocls,odict,odata,oslots⟩:=ol
        simp only at hcl hdl
        subst hcl;subst hdl
        have lold:(s.heap.push { cls := .type "set",dict:=none,data := .set #[] 0 (.fresh 0 0 (!byT w)) }).get? l=some { cls := .type "tuple",dict:=odict,data := .seq its nl,slots:=oslots }:=Heap.get?_push_of_some _ hol
        have hsls:=PySem.F.sub_tuple_set
        have hslf:=PySem.F.sub_tuple_frozenset
        have hne:(Value.type "tuple"==Value.type "dict")=false:=by decide
        have lis:(s.heap.push { cls := .type "set",dict:=none,data := .set #[] 0 (.fresh 0 0 (!byT w)) }).IsTuple l its:=⟨_,lold,rfl,nl,rfl⟩
        unfold Builtin.«set.__init__» noKeywords Builtin.Frozenset.updateFrom
        generalize hPI:pyIter=PI
        wp_walk
        subst hPI
        refine wpAny_pyIter_tuple lis (wpAny_bind (wpAny_runValue ?_))
        have llt:l < s.heap.objs.size:=Heap.lt_size hol
        have calm3:A.in1.in1.in1.handled=none:=by simp [calm]
        have ne1:l≠(s.heap.push { cls := .type "set",dict:=none,data := .set #[] 0 (.fresh 0 0 (!byT w)) }).objs.size:=by
          rw [Heap.size_push]
          exact Nat.ne_of_lt (Nat.lt_succ_of_lt llt)
        have nin:s.heap.objs.size∉[(s.heap.push { cls := .type "set",dict:=none,data := .set #[] 0 (.fresh 0 0 (!byT w)) }).objs.size,l]:=by
          rw [Heap.size_push]
          intro z
          rcases List.mem_cons.mp z with z | z
          · exact absurd z (Nat.ne_of_lt (Nat.lt_succ_self _))
          · rw [List.mem_singleton] at z
            exact absurd z (Nat.ne_of_gt llt)
        have hval:∀ (i:Nat) (v:Value),its[i]?=some v→∃ t,v = .str ((fun i=>ns.getD i "") i) t:=fun i v hv=>Qdx.str_at hi i v (by rw [Array.getElem?_toList];exact hv)
        refine Qes (L := !byT w) ((Walks.tuple calm3 _ l ne1 its).toS) s.heap.objs.size nin (fun i=>ns.getD i "") hval hb (its.size - 0) 0 _ (by omega) (Nat.zero_le _) ⟨⟨_,Heap.get?_push_size _ rfl,rfl,rfl⟩,lis.push _⟩ ?Yq ?fin
        case Yq=>exact fresh_LS (Heap.get?_push_of_some _ at0)
        case fin =>
          intro s' hm z
          obtain ⟨h',g',d',tk',os'⟩:=s'
          obtain rfl:g'=s.gens:=hm.gens
          obtain rfl:d'=s.drawn:=hm.drawn
          obtain rfl:os'=s.os:=hm.os
          show wpAny _ _ _ _ _ _
          refine wpAny_pure ?_
          show wpAny _ _ (ret Value.none) _ _ _
          refine wpAny_pure ⟨rfl,h',tk',rfl,z,fun b o hb e => ?_⟩
          refine hm.heap b o (fun q => ?_) (Heap.get?_push_of_some _ (Heap.get?_push_of_some _ e))
          rw [Heap.size_push] at q
          rcases List.mem_cons.mp q with q | q
          · exact absurd q (Nat.ne_of_lt hb)
          · rw [List.mem_singleton] at q
            exact absurd q (Nat.ne_of_lt (Nat.lt_succ_of_lt hb))
      · cases r₂ with
        | error e=>exact hr₂
        | ok fl₂ =>
          cases fl₂ with
          | ret r =>
            obtain ⟨rfl,h',tk,rfl,z,k⟩:=hr₂
            repeat (any_goals (first | assumption | wp_step))
            exact fin _ _ z k
          | _=>exact hr₂.elim
    | _=>exact hr.elim
end
end L2.PM

noncomputable section
namespace L2.PM
open PySem PySem.Spec PyProof.Rows
theorem QgX {M:List Str} {k x:Str}:x∈ZY M k↔x∈M∨x=k:=by
  unfold ZY
  split
  · rename_i h
    exact ⟨.inl,fun q=>q.elim id fun e=>e ▸ h⟩
  · simp
theorem QbU:∀ (l M:List Str),M.Nodup→(l.foldl ZY M).Nodup∧∀ x,x∈l.foldl ZY M↔x∈M∨x∈l
  | [],M,h=>⟨h,fun x=>by simp⟩
  | y :: l,M,h=>by
    obtain ⟨a,b⟩:=QbU l (ZY M y) (Xy h y)
    refine ⟨a,fun x => ?_⟩
    rw [List.foldl_cons,b x,QgX,List.mem_cons]
    exact ⟨fun q=>q.elim (fun q=>q.elim .inl fun e => .inr (.inl e)) fun q => .inr (.inr q),fun q=>q.elim (fun q => .inl (.inl q)) fun q=>q.elim (fun e => .inl (.inr e)) .inr⟩
theorem QbS {y:Str}:∀ {xs:List Str},y∈once xs↔y∈xs
  | []=>by simp [once]
  | x :: xs=>by
    unfold once
    rw [List.mem_cons,List.mem_cons,List.mem_filter,QbS (xs:=xs)]
    by_cases h:y=x <;> simp [h]
theorem Qap:∀ xs:List Str,(once xs).Nodup
  | []=>by simp [once]
  | x :: xs=>by
    unfold once
    rw [List.nodup_cons]
    exact ⟨by simp [List.mem_filter],List.Pairwise.filter _ (Qap xs)⟩
theorem Qfb (ns:List Str):(Qai (fun i=>ns.getD i "") ns.length).Perm (once ns):=by
  have e:(List.range ns.length).map (fun i=>ns.getD i "")=ns:=by
    apply List.ext_getElem?
    intro i
    rw [List.getElem?_map]
    by_cases h:i < ns.length
    · rw [List.getElem?_range h];simp [h]
    · rw [List.getElem?_eq_none (by rw [List.length_range];omega),List.getElem?_eq_none (by omega)];rfl
  unfold Qai
  rw [e]
  obtain ⟨a,b⟩:=QbU ns [] .nil
  exact (List.perm_ext_iff_of_nodup a (Qap ns)).mpr fun x=>by rw [b x,QbS];simp
section
variable {X:Cx} {e a b c:Expr} {es:List Expr} {ms ns ls:List Nat} {m m1 m2 m3:MEx} {ma:PEnv→Option (List PV)} {pos p p1 p2 p3 pos':Pos} {x:Str} {id T:String}
noncomputable def QdY (X:Cx) (p:Addr) (M:List Str):HO := .ext fun h=>XC X.prog X.w (!byT X.w) h p M
theorem Qev:∀ {xs:List Str} {us:List Value},Vals (xs.map V.str) us→Qdx us xs
  | [],_,.nil=>trivial
  | x :: xs,_,.cons ⟨t,h⟩ r=>⟨⟨t,h⟩,Qev r⟩
theorem Qfu (hc:X.calm=true):Xj X (.type "set") (fun vs H Q=>∃ (l:Addr) (ns:List Str),vs=[.ref l]∧SqT X.K H l (ns.map V.str)∧ns.length < 1000∧∀ p M,H p=none→M.Perm (once ns)→Q (.ref p) (upd H p (QdY X p M))):=by
  intro pins s σ H vs us Q I rs h
  obtain ⟨l,ns,rfl,hl,hn,q⟩:=h
  obtain ⟨u,rfl,ru⟩:=Qds rs
  cases ru
  obtain ⟨its,rv,pl,_⟩:=I.tuple hl
  have hlen:=rv.length
  rw [List.length_map] at hlen
  refine Qft (I.ok.hd hc) pl (by simpa using Qev rv) (by simp only [List.size_toArray];show its.length + 1 < 4096;omega) fun h' tk z k => ?_
  have e:its.toArray.size=ns.length:=by simp only [List.size_toArray];exact hlen.symm
  rw [e] at z
  refine ⟨.ref s.heap.objs.size,upd H s.heap.objs.size (QdY X s.heap.objs.size _),I.laid (t':=tk) (fun b o q=>k b o (Heap.lt_size q) q) (Nat.le_refl _) ⟨z,?_,fun h1 h2 z1 k1=>z1.at k1⟩,rfl,q _ _ I.fresh (Qfb ns)⟩
  obtain ⟨o,_,_,_,ho,_⟩:=z
  exact ⟨o,ho⟩
theorem QcK:Xj X (.builtin "len") (fun vs H Q=>∃ (D:Addr) (M:List Str),vs=[.ref D]∧H D=some (QdY X D M)∧Q (.int M.length) H):=by
  intro pins s σ H vs us Q I rs h
  obtain ⟨D,M,rfl,hD,q⟩:=h
  obtain ⟨u,rfl,ru⟩:=Qds rs
  cases ru
  obtain ⟨z,_,_⟩:=I.hok D _ hD
  obtain ⟨o,es,ep,t,ho,hex,hd,hel,hm,hb,hf,hn,hnd,hkp⟩:=z
  refine call_len_set ho hex hd hf (by have:es.size < 4096:=hb;omega) ⟨.int M.length,H,I.tok _,⟨_,by rw [hn]⟩,q⟩
theorem Qbi {K:PySem.W.Frag} {F:Hp}:∀ {xs:List PV} {ns:List Str} {vs:List V},Xh xs=some ns→RepL K F xs vs→vs=ns.map V.str
  | [],ns,vs,h,r=>by
    unfold RepL at r
    subst r
    cases h
    rfl
  | x :: xs,ns,vs,h,r=>by
    unfold RepL at r
    obtain ⟨v,t,rfl,r1,r2⟩:=r
    cases x with
    | str y =>
      unfold Xh at h
      cases hx:Xh xs with
      | none=>rw [hx] at h;cases h
      | some ss =>
        rw [hx] at h
        cases h
        unfold Rep at r1
        subst r1
        rw [Qbi hx r2]
        rfl
    | _=>unfold Xh at h;cases h
theorem Qfq (hc:X.calm=true) (hg:Gl X "set") (hm:X.mg "set"=none) (hg2:Gl X "len") (hm2:X.mg "len"=none) (ha:AM X ms [a] ma)
    (hs:starEach [a] X.env=(false,eval a X.env) :: starEach [] X.env:=by rfl) (hpl:(backTo pos (starEach [] X.env)).any (·.1)=false:=by rfl)
    (hs2:starEach [.Call (.Name "set" p1) [a] [] pos] X.env=(false,eval (.Call (.Name "set" p1) [a] [] pos) X.env) :: starEach [] X.env:=by rfl) (hpl2:(backTo pos' (starEach [] X.env)).any (·.1)=false:=by rfl) :
    EM X ms (.Call (.Name "len" p2) [.Call (.Name "set" p1) [a] [] pos] [] pos') (Qo QaN ma) :=
  PE.imp (XE QcK hg2 hm2 PySem.boot_len (ZX (Qdb (Qfu hc) hg hm (by kernel_rfl) ha (by decide) (by decide) hs hpl) Qbz hs2) (by decide) (by decide) hs2 hpl2) fun σ H Q ⟨F,γ,r,k1,k2,k3,w⟩=>by
    obtain ⟨qs,e1,k3⟩:=Qg k3
    refine ⟨F,γ,qs,k1,k2,e1,fun vs H1 F1 g1 q1 => ?_⟩
    unfold QaN at k3
    split at k3
    · rename_i xs
      unfold RepL at q1
      obtain ⟨v,t,rfl,q1,qt⟩:=q1
      unfold RepL at qt
      subst qt
      unfold Rep at q1
      obtain ⟨l,us,rfl,sl,rl⟩:=q1
      split at k3
      · rename_i ns hns
        obtain ⟨c1,rfl⟩:=QC k3
        have e2:=Qbi hns rl
        subst e2
        refine ⟨l,ns,rfl,g1.sub.seqT sl,c1,fun p M hp hM => ?_⟩
        refine ⟨p,M,rfl,Qp,?_⟩
        have g2:Grow F1 H1 F1 (upd H1 p (QdY X p M)) := .side g1.sub hp
        rw [hM.length_eq]
        exact w _ _ F1 (g1.trans g2) (Zz _)
      · cases k3
    · cases k3
end
end L2.PM

noncomputable section
namespace L2.PM
open PySem PySem.Spec PyProof.Rows
section
variable {X:Cx} {pos p:Pos} {x:Str}
theorem em_gI {i:Int} (hg:Gl X x) (hm:∃ t,X.mg x=some (.int i t)) (hd:(x==("__debug__":Str))=false:=by decide):EM X [] (.Name x pos) (mC (.int i)):=by
  obtain ⟨t,h⟩:=hm
  exact em_globI hg h hd
theorem em_gT {ts:List Str} (hg:Gl X x) (hm:∃ a,X.mg x=some (.ref a)∧GT X.K a ts) (hd:(x==("__debug__":Str))=false:=by decide):EM X [] (.Name x pos) (mC (.tup (ts.map .str))):=by
  obtain ⟨a,h1,h2⟩:=hm
  exact em_globT hg h1 h2 hd
theorem star_str {i:Str} {j:Nat} {q:Pos} {es:List Expr} {env:Env}:starEach (.Constant (.str i) j q :: es) env=(false,eval (.Constant (.str i) j q) env) :: starEach es env:=rfl
theorem Qaa {es:List Expr} {ma:PEnv→Option (List PV)} {i:Str} {j:Nat} {q:Pos} (hr:AM X [] es ma):AM X [] (.Constant (.str i) j q :: es) (Qc (mC (.str i)) ma):=Qb QQ hr star_str
end
end L2.PM

noncomputable section
namespace L2.PM
open PySem PySem.Spec PyProof.Rows
theorem YU {α:Type} {c:Prop} [Decidable c] {a:Option α} {r:α} (h:(if c then a else none)=some r):c∧a=some r:=by
  by_cases k:c
  · rw [if_pos k] at h;exact ⟨k,h⟩
  · rw [if_neg k] at h;cases h
end L2.PM

noncomputable section
namespace L2.PM
open PySem PySem.Spec PyProof.Rows
end L2.PM

noncomputable section
namespace L2.PM
open PySem PySem.Spec PyProof.Rows
end L2.PM

noncomputable section
namespace L2.PM
open PySem PySem.Spec PyProof.Rows
section
variable {prog:Program} {w:World} {A:Around} {E:Value→Shared→Prop} {s:Shared}
noncomputable def keyS:Value→Str
  | .str k _=>k
  | _ => ""
structure SetK (prog:Program) (w:World) (L:Bool) (h:Heap) (a:Addr) (o:Obj) (es:Array (Int×Value)) (ep:Nat) (t:SetTable) (M:List Str):Prop where
  ho:h.get? a=some o
  ex:o.ExactSet
  hd:o.data = .set es ep t
  el:ElemsOf (strKind prog w) es.toList
  ks:(es.toList.map fun e=>keyS e.2).Perm M
  nd:M.Nodup
  sb:es.size < scanBound
  hf:t.fits es.size=true
  kp:Kept L t
end
end L2.PM

noncomputable section
namespace L2.PM
open PySem PySem.Spec PyProof.Rows
section
variable {prog:Program} {w:World} {A:Around} {E:Value→Shared→Prop} {s:Shared}
end
end L2.PM

noncomputable section
namespace L2.PM
open PySem PySem.Spec PyProof.Rows
section
variable {prog:Program} {w:World} {A:Around} {E:Value→Shared→Prop} {s:Shared}
end
end L2.PM

noncomputable section
namespace L2.PM
open PySem PySem.Spec PyProof.Rows
section
variable {prog:Program} {w:World} {A:Around} {E:Value→Shared→Prop} {s:Shared}
theorem SetK.at {L:Bool} {h h':Heap} {a:Addr} {o:Obj} {es:Array (Int×Value)} {ep:Nat} {t:SetTable} {M:List Str} (x:SetK prog w L h a o es ep t M) (e:h'.get? a=h.get? a):SetK prog w L h' a o es ep t M :=
  ⟨e.trans x.ho,x.ex,x.hd,x.el,x.ks,x.nd,x.sb,x.hf,x.kp⟩
theorem SetK.len {L:Bool} {h:Heap} {a:Addr} {o:Obj} {es:Array (Int×Value)} {ep:Nat} {t:SetTable} {M:List Str} (x:SetK prog w L h a o es ep t M):es.size=M.length:=by
  have hl:=x.ks.length_eq
  rwa [List.length_map,Array.length_toList] at hl
end
end L2.PM

noncomputable section
namespace L2.PM
open PySem PySem.Spec PyProof.Rows
section
variable {prog:Program} {w:World} {A:Around} {E:Value→Shared→Prop} {s:Shared}
theorem SetK.ty {L:Bool} {s:Shared} {a:Addr} {o:Obj} {es:Array (Int×Value)} {ep:Nat} {t:SetTable} {M:List Str} (x:SetK prog w L s.heap a o es ep t M):s.TypeIs (.ref a) "set":=⟨o,x.ho,x.ex.1⟩
theorem SetK.ext {L:Bool} {h h':Heap} {a:Addr} {o:Obj} {es:Array (Int×Value)} {ep:Nat} {t:SetTable} {M:List Str} (x:SetK prog w L h a o es ep t M) (e:∀ b o,h.get? b=some o→h'.get? b=some o):SetK prog w L h' a o es ep t M :=
  x.at ((e _ _ x.ho).trans x.ho.symm)
end
end L2.PM

noncomputable section
namespace L2.PM
open PySem PySem.Spec PyProof.Rows
section
variable {prog:Program} {w:World} {A:Around} {E:Value→Shared→Prop} {s:Shared} {D:Addr}
end
section
variable {X:Cx} {e a b c:Expr} {es:List Expr} {ms ns ls:List Nat} {m m1 m2 m3:MEx} {ma mb:PEnv→Option (List PV)} {pos p p1 p2 p3 pos' pos2 pos3:Pos} {x:Str} {id T:String}
end
end L2.PM

noncomputable section
namespace L2.PM
open PySem PySem.Spec PyProof.Rows
section
variable {X:Cx} {e a b c:Expr} {es:List Expr} {ms ns ls:List Nat} {m m1 m2 m3:MEx} {ma mb:PEnv→Option (List PV)} {pos p p1 p2 p3 pos' pos2 pos3:Pos} {x:Str} {id T:String}
end
end L2.PM

noncomputable section
namespace L2.PM
open PySem PySem.Spec PyProof.Rows
section
variable {prog:Program} {w:World} {A:Around} {E:Value→Shared→Prop} {s:Shared}
end
section
variable {X:Cx} {o e a b c:Expr} {es:List Expr} {ms ns ls:List Nat} {m m1 m2 m3:MEx} {ma mb:PEnv→Option (List PV)} {to:TE} {t:TA} {name:Str} {apos cpos:Pos} {id:String} {r:V→List V→Hp→VK→Prop}
end
end L2.PM

noncomputable section
namespace L2.PM
open PySem PySem.Spec PyProof.Rows HT
section
variable {prog:Program} {w:World} {A:Around} {E:Value→Shared→Prop} {s:Shared}
end
section
variable {X:Cx} {e st:Expr} {te ts:TE} {p2 pos:Pos}
end
section
variable {X:Cx} {e st:Expr} {ms ns:List Nat} {m mst:MEx} {p2 pos:Pos}
end
section
variable {prog:Program} {w:World} {A:Around} {E:Value→Shared→Prop} {s:Shared}
end
section
variable {X:Cx} {e:Expr} {ms ns ls:List Nat} {m:MEx} {p2 pos:Pos} {lo hi:Option Expr} {ml mh:PEnv→Option (Option Int)}
end
end L2.PM

noncomputable section
namespace L2.PM
open PySem PySem.Spec PyProof.Rows
section
variable {X:Cx} {e:Expr} {ms:List Nat} {m:MEx} {pos p2:Pos}
end
section
variable {X:Cx}
end
end L2.PM

noncomputable section
namespace L2.PM
open PySem PySem.Spec PyProof.Rows PySem.W
section
variable {cmp:Nat→Nat→(Bool→Shared→Prop)→Shared→Prop} {lt:Nat→Nat→Bool} {n:Nat} {s:Shared}
noncomputable def Within (p:Array Nat) (n:Nat):Prop:=∀ a,a < p.size→p.getD a 0 < n
end
end L2.PM

noncomputable section
namespace L2.PM
open PySem PySem.Spec PyProof.Rows PySem.W
section
variable {cmp:Nat→Nat→(Bool→Shared→Prop)→Shared→Prop} {lt:Nat→Nat→Bool} {n:Nat} {s:Shared}
end
end L2.PM

noncomputable section
namespace L2.PM
open PySem PySem.Spec PyProof.Rows PySem.W
noncomputable abbrev Tri:=Str×Str×Str
noncomputable def tri0:Tri:=("","","")
noncomputable def QfF (h:Heap) (v:Value) (t:Tri):Prop:=∃ a o n k1 k2 k3,v = .ref a∧h.get? a=some o∧o.cls = .type "tuple"∧o.data = .seq #[.str t.1 k1,.str t.2.1 k2,.str t.2.2 k3] n
noncomputable def Tris (h:Heap) (vs:List Value) (ts:List Tri):Prop:=vs.length=ts.length∧∀ i,i < ts.length→QfF h (vs.getD i .none) (ts.getD i tri0)
theorem Tris.tl {h:Heap} {v:Value} {vs:List Value} {t:Tri} {ts:List Tri} (x:Tris h (v :: vs) (t :: ts)):QfF h v t∧Tris h vs ts :=
  ⟨x.2 0 (by simp),by have:=x.1;simpa using this,fun i hi=>x.2 (i + 1) (by simpa using hi)⟩
section
variable {prog:Program} {w:World} {A:Around} {E:Value→Shared→Prop} {s:Shared}
theorem QfF.mono {h h':Heap} {v:Value} {t:Tri} (x:QfF h v t) (k:∀ b o,h.get? b=some o→o.cls = .type "tuple"→h'.get? b=some o):QfF h' v t:=by
  obtain ⟨a,o,n,k1,k2,k3,e,ha,hc,hd⟩:=x
  exact ⟨a,o,n,k1,k2,k3,e,k a o ha hc,hc,hd⟩
end
noncomputable def tLe (a b:Tri):Bool:=sLe a.2.1 b.2.1
section
variable {X:Cx}
end
end L2.PM

noncomputable section
namespace L2.PM
open PySem PySem.Spec PyProof.Rows PySem.W
section
variable {prog:Program} {w:World} {A:Around} {E:Value→Shared→Prop} {s:Shared}
end
section
variable {X:Cx}
end
end L2.PM

noncomputable section
namespace L2.PM
open PySem PySem.Spec PyProof.Rows
section
variable {X:Cx}
end
end L2.PM

noncomputable section
namespace L2.PM
open PySem PySem.Spec PyProof.Rows
section
variable {X:Cx} {e k:Expr} {ms ns:List Nat} {m mk:MEx} {p2 pos:Pos}
theorem ins_args (hk:EM X ns k mk) (he:EM X ms e m) (h1:starEach [k,e] X.env=(false,eval k X.env) :: starEach [e] X.env:=by rfl) (h2:starEach [e] X.env=(false,eval e X.env) :: starEach [] X.env:=by rfl) :
    PA X [k,e] (Qec (tM X.K ns mk) (Qec (tM X.K ms m) tNil)):=ZX hk (ZX he Qbz h2) h1
theorem sm_ins2 {i:Nat} {x:Str} {apos cpos:Pos} (hx:PE X (.Name x p2) (tVar i)) (ps:PS X (.Expr (.Call (.Attribute (.Name x p2) "insert" apos) [k,e] [] cpos) pos) (Qhv (tBM X.K "list" Qgf (tVar i) (Qec (tM X.K ns mk) (Qec (tM X.K ms m) tNil))))) :
    SM X (.Expr (.Call (.Attribute (.Name x p2) "insert" apos) [k,e] [] cpos) pos) (sIns ms i mk m):=PS.imp ps fun D σ H ⟨B,F₀,F,γ,o,S,e,ok⟩=>by
  unfold sIns at e
  split at e
  · rename_i xs hi
    obtain ⟨j0,e0,e'⟩:=Qg e
    obtain ⟨r,e1,e2⟩:=Qg e'
    cases j0 with
    | int j =>
      have e3:(if 0≤j∧j≤xs.length∧xs.length≤1000∧(flat r || !ms.contains i)=true then some (Out.nx ((Zd (flat r) ms γ).set i (.ow (xs.take j.toNat++r :: xs.drop j.toNat)))) else none)=some o:=e2
      obtain ⟨⟨c0,c1,c2,c⟩,rfl⟩:=QC e3
      obtain ⟨a,vs,h1,h2,_⟩:=S.ow i xs hi
      obtain ⟨F1,S1,x1,er⟩:=S.see ns
      refine ⟨.ref a,h1,Qcj (.of h2),F1,γ,.int j,S1.sub,er,e0,fun v0 H' F' g q0 => ?_⟩
      obtain ⟨F2,S2,q2⟩:=S.val S1 g q0
      have S2:SR _ B F₀ F2 σ H' γ:=S2
      unfold Rep at q0
      subst q0
      obtain ⟨F3,S3,x3,er3⟩:=S2.see ms
      refine ⟨F3,γ,r,S3.sub,er3,e1,fun v H2 F4 g2 q => ?_⟩
      obtain ⟨F5,S5,q5⟩:=S2.val S3 g2 q
      have hi2:=Qbf (k:=flat r) hi c
      obtain ⟨a2,vs2,k1,k2,k3,_⟩:=S5.ow i xs hi2
      rw [h1] at k1
      cases k1
      have hle:vs2.length=xs.length:=k3.length
      refine ⟨a,vs2,v,j,rfl,rfl,k2,c0,by rw [hle];exact c1,?_,by rw [hle];omega,?_⟩
      · rw [hle]
        exact Nat.lt_of_le_of_lt c2 (by decide)
      · exact ok _ _ F5 (S5.write hi2 h1 ((k3.take _).append (.cons q5 (k3.drop _))))
    | _=>cases e2
  · cases e
end
end L2.PM

namespace L2
open PySem PySem.Spec PyProof.Rows

end L2

namespace L2
open PySem PySem.Spec PyProof.Rows





end L2

namespace L2
open PySem PySem.Spec PyProof.Rows


end L2

namespace L2
open PySem PySem.Spec PyProof.Rows
section
variable {X:Cx}

variable {a b:Expr} {ta tb:TE} {pos:Pos}
variable {tA tB':TT} {rest:List Expr}
end
end L2

namespace L2
open PySem PySem.Spec PyProof.Rows






end L2

namespace L2
open PySem PySem.Spec PyProof.Rows
section
variable {X:Cx} {tg:Expr}
end

end L2

namespace L2
open PySem PySem.Spec PyProof.Rows

section
variable {X:Cx} {a b c:Expr} {ta tb tc:TE} {pos:Pos}

end

section
variable {X:Cx} {a b c:Expr} {ta tb tc:TE} {pos:Pos}
end
end L2

namespace L2
open PySem PySem.Spec PyProof.Rows





end L2

namespace L2
open PySem PySem.Spec PyProof.Rows





end L2

namespace L2
open PySem PySem.Spec PyProof.Rows
end L2

namespace L2
open PySem PySem.Spec PyProof.Rows

section
variable {κ:Type} [DecidableEq κ]
noncomputable def valV (kvs:List (κ×V)) (k : κ):Option V:=(kvs.find? fun kv=>decide (kv.1=k)).map (·.2)
noncomputable def putK (kvs:List (κ×V)) (k : κ) (v:V):List (κ×V) :=
  if (kvs.any fun kv=>decide (kv.1=k))=true then kvs.map (fun kv=>if kv.1=k then (kv.1,v) else kv) else kvs++[(k,v)]
noncomputable def dropK (kvs:List (κ×V)) (k : κ):List (κ×V):=kvs.filter fun kv=>decide (kv.1≠k)

theorem Qch {p : κ×V} {r:List (κ×V)} {k : κ} (e:p.1=k):valV (p :: r) k=some p.2:=by simp [valV,List.find?_cons,e]
theorem Qci {p : κ×V} {r:List (κ×V)} {k : κ} (e:¬ p.1=k):valV (p :: r) k=valV r k:=by simp [valV,List.find?_cons,e]
theorem Qer (k : κ):∀ kvs:List (κ×V),(kvs.any fun kv=>decide (kv.1=k))=(valV kvs k).isSome
  | []=>rfl
  | p :: r=>by
    rw [List.any_cons]
    by_cases e:p.1=k
    · simp only [Qch e,decide_eq_true e,Bool.true_or,Option.isSome_some]
    · rw [Qci e,decide_eq_false e,Bool.false_or];exact Qer k r
theorem RelO.isSome_eq {o:Option V} {u:Option Value} (r:RelO o u):o.isSome=u.isSome:=by
  cases o with
  | none=>cases u with
    | none=>rfl
    | some _=>exact (show False from r).elim
  | some _=>cases u with
    | none=>exact (show False from r).elim
    | some _=>rfl
theorem RelO.getD {o:Option V} {u:Option Value} {d:V} {d':Value} (r:RelO o u) (rd:RelV d d'):RelV (o.getD d) (u.getD d'):=by
  cases o with
  | none=>cases u with
    | none=>exact rd
    | some _=>exact (show False from r).elim
  | some _=>cases u with
    | none=>exact (show False from r).elim
    | some _=>exact r

theorem KV.val {kvs:List (κ×V)} {vs:List (κ×Value)} (r:KV kvs vs) (k : κ):RelO (valV kvs k) (valueAt vs k):=by
  unfold KV at r
  induction r with
  | nil=>exact True.intro
  | @cons p q ps qs h t ih =>
    obtain ⟨h1,h2⟩:=h
    by_cases e:p.1=k
    · have e':q.1=k:=h1.symm.trans e
      have b:valueAt (q :: qs) k=some q.2:=by simp [valueAt,List.find?_cons,e']
      rw [Qch e,b];exact h2
    · have e':¬ q.1=k:=fun z=>e (h1.trans z)
      have b:valueAt (q :: qs) k=valueAt qs k:=by simp [valueAt,List.find?_cons,e']
      rw [Qci e,b];exact ih
theorem KV.any {kvs:List (κ×V)} {vs:List (κ×Value)} (r:KV kvs vs) (k : κ):(kvs.any fun kv=>decide (kv.1=k))=vs.any fun kv=>decide (kv.1=k):=by
  unfold KV at r
  induction r with
  | nil=>rfl
  | cons h t ih=>rw [List.any_cons,List.any_cons,ih,h.1]
theorem KV.repl {kvs:List (κ×V)} {vs:List (κ×Value)} (r:KV kvs vs) (k : κ) {y:V} {u:Value} (ry:RelV y u) :
    KV (kvs.map fun kv=>if kv.1=k then (kv.1,y) else kv) (vs.map fun kv=>if kv.1=k then (kv.1,u) else kv):=by
  unfold KV at r ⊢
  induction r with
  | nil=>exact .nil
  | @cons p q ps qs h t ih =>
    rw [List.map_cons,List.map_cons]
    refine .cons ?_ ih
    obtain ⟨h1,h2⟩:=h
    by_cases e:p.1=k
    · rw [if_pos e,if_pos (h1.symm.trans e)];exact ⟨h1,ry⟩
    · rw [if_neg e,if_neg (fun z=>e (h1.trans z))];exact ⟨h1,h2⟩
theorem KV.put {kvs:List (κ×V)} {vs:List (κ×Value)} (r:KV kvs vs) (k : κ) {y:V} {u:Value} (ry:RelV y u):KV (putK kvs k y) (stored vs k u):=by
  unfold putK stored
  rw [r.any k]
  by_cases e:(vs.any fun kv=>decide (kv.1=k))=true
  · rw [if_pos e,if_pos e];exact r.repl k ry
  · rw [if_neg e,if_neg e];exact Paired.snoc r ⟨rfl,ry⟩
theorem KV.drop {kvs:List (κ×V)} {vs:List (κ×Value)} (r:KV kvs vs) (k : κ):KV (dropK kvs k) (without vs k):=by
  unfold KV at r ⊢
  unfold dropK without
  induction r with
  | nil=>exact .nil
  | @cons p q ps qs h t ih =>
    obtain ⟨h1,h2⟩:=h
    rw [List.filter_cons,List.filter_cons]
    by_cases e:p.1=k
    · have a:¬ decide (p.1≠k)=true:=by simp [e]
      have b:¬ decide (q.1≠k)=true:=by simp [h1.symm.trans e]
      rw [if_neg a,if_neg b];exact ih
    · have e':¬ q.1=k:=fun z=>e (h1.trans z)
      have a:decide (p.1≠k)=true:=by simp [e]
      have b:decide (q.1≠k)=true:=by simp [e']
      rw [if_pos a,if_pos b];exact .cons ⟨h1,h2⟩ ih
theorem KV.keys {kvs:List (κ×V)} {vs:List (κ×Value)} (r:KV kvs vs):kvs.map (·.1)=vs.map (·.1):=by
  unfold KV at r
  induction r with
  | nil=>rfl
  | cons h t ih=>rw [List.map_cons,List.map_cons,ih,h.1]
theorem KV.length {kvs:List (κ×V)} {vs:List (κ×Value)} (r:KV kvs vs):kvs.length=vs.length:=Paired.length r
end


noncomputable abbrev KT (H:Hp):List (List Key×V)→List (List Key×Addr×Value)→Prop:=Paired fun p q=>p.1=q.1∧H q.2.1=some (.tup (p.1.map kV))∧RelV p.2 q.2.2
theorem KT.val {H:Hp} {kvs:List (List Key×V)} {xs:List (List Key×Addr×Value)} (r:KT H kvs xs) (k:List Key):RelO (valV kvs k) ((atKey xs k).map (·.2)):=by
  induction r with
  | nil=>exact True.intro
  | @cons p q ps qs h t ih =>
    obtain ⟨h1,_,h2⟩:=h
    by_cases e:p.1=k
    · have e':q.1=k:=h1.symm.trans e
      have b:atKey (q :: qs) k=some q.2:=by simp [atKey,List.find?_cons,e']
      rw [Qch e,b];exact h2
    · have e':¬ q.1=k:=fun z=>e (h1.trans z)
      have b:atKey (q :: qs) k=atKey qs k:=by simp [atKey,List.find?_cons,e']
      rw [Qci e,b];exact ih
theorem KT.repl {H:Hp} {kvs:List (List Key×V)} {xs:List (List Key×Addr×Value)} (r:KT H kvs xs) (k:List Key) {y:V} {u:Value} (ry:RelV y u) :
    KT H (kvs.map fun kv=>if kv.1=k then (kv.1,y) else kv) (xs.map (putAt k u)):=by
  induction r with
  | nil=>exact .nil
  | @cons p q ps qs h t ih =>
    rw [List.map_cons,List.map_cons]
    refine .cons ?_ ih
    obtain ⟨h1,h2,h3⟩:=h
    unfold putAt
    by_cases e:p.1=k
    · rw [if_pos e,if_pos (h1.symm.trans e)];exact ⟨h1,h2,ry⟩
    · rw [if_neg e,if_neg (fun z=>e (h1.trans z))];exact ⟨h1,h2,h3⟩
theorem KT.put {H:Hp} {kvs:List (List Key×V)} {xs:List (List Key×Addr×Value)} (r:KT H kvs xs) (k:List Key) {b:Addr} {y:V} {u:Value} (hb:H b=some (.tup (k.map kV))) (ry:RelV y u) :
    KT H (putK kvs k y) (storedH xs k b u):=by
  have e:(kvs.any fun kv=>decide (kv.1=k))=(atKey xs k).isSome:=by
    rw [Qer,(r.val k).isSome_eq,Option.isSome_map]
  unfold putK storedH
  rw [e]
  by_cases q:(atKey xs k).isSome=true
  · rw [if_pos q,if_pos q];exact r.repl k ry
  · rw [if_neg q,if_neg q];exact Paired.snoc r ⟨rfl,hb,ry⟩
theorem KT.keeps {H H':Hp} {kvs:List (List Key×V)} {xs:List (List Key×Addr×Value)} (r:KT H kvs xs) (ht:∀ b ys,H b=some (.tup ys)→H' b=some (.tup ys)):KT H' kvs xs :=
  Paired.mapP r fun _ _ z=>⟨z.1,ht _ _ z.2.1,z.2.2⟩

section
variable {P:Program} {w:World} {H:Hp} {h:Heap} {a:Addr}
end

noncomputable def DGet (H:Hp) (a:Addr) (y:V) (r:Option V):Prop :=
  (∃ kvs k,Rd H a (.dK kvs)∧y=kV k∧r=valV kvs k)∨∃ kvs k b,Rd H a (.dT kvs)∧y = .ref b∧H b=some (.tup (k.map kV))∧r=valV kvs k
noncomputable def DPut (H:Hp) (a:Addr) (y v:V) (H':Hp):Prop :=
  (∃ kvs k,H a=some (.dK kvs)∧y=kV k∧kvs.length < sizeLine∧H'=upd H a (.dK (putK kvs k v))) ∨
  ∃ kvs k b,H a=some (.dT kvs)∧y = .ref b∧H b=some (.tup (k.map kV))∧kvs.length < sizeLine∧H'=upd H a (.dT (putK kvs k v))
theorem DGet.k {H:Hp} {a:Addr} {kvs:List (Key×V)} {k:Key} (e:H a=some (.dK kvs)):DGet H a (kV k) (valV kvs k) := .inl ⟨kvs,k,.inl e,rfl,rfl⟩
theorem DGet.t {H:Hp} {a b:Addr} {kvs:List (List Key×V)} {k:List Key} (e:H a=some (.dT kvs)) (eb:H b=some (.tup (k.map kV))):DGet H a (.ref b) (valV kvs k) := .inr ⟨kvs,k,b,.inl e,rfl,eb,rfl⟩
theorem DPut.k {H:Hp} {a:Addr} {kvs:List (Key×V)} {k:Key} {v:V} (e:H a=some (.dK kvs)) (hl:kvs.length < sizeLine):DPut H a (kV k) v (upd H a (.dK (putK kvs k v))) := .inl ⟨kvs,k,e,rfl,hl,rfl⟩
theorem DPut.t {H:Hp} {a b:Addr} {kvs:List (List Key×V)} {k:List Key} {v:V} (e:H a=some (.dT kvs)) (eb:H b=some (.tup (k.map kV))) (hl:kvs.length < sizeLine) :
    DPut H a (.ref b) v (upd H a (.dT (putK kvs k v))) := .inr ⟨kvs,k,b,e,rfl,eb,hl,rfl⟩


section
variable {X:Cx} {pins:List (Addr×Obj)} {σ:St} {H:Hp} {s:Shared} {a:Addr} {y v:V} {u r:Value} {o:Option V} {A:Around} {E:Value→Shared→Prop}

end

section
variable {X:Cx} {pins:List (Addr×Obj)} {σ:St} {H:Hp} {s:Shared} {a:Addr} {kvs:List (Key×V)} {k:Key} {u:Value} {A:Around} {E:Value→Shared→Prop}
end


section
variable {X:Cx} {o i e value:Expr} {pos pos' tpos:Pos} {td ty tv:TE}
end


section
variable {X:Cx} {pos:Pos}
end

section
variable {X:Cx} {pins:List (Addr×Obj)} {σ:St} {H:Hp} {s:Shared} {a:Addr} {y d:V} {u r:Value} {o:Option V} {A:Around} {E:Value→Shared→Prop}
end

section
variable {X:Cx} {o e f:Expr} {apos cpos:Pos} {td ty tx:TE}
end

section
variable {X:Cx} {pins:List (Addr×Obj)} {σ:St} {H:Hp} {s:Shared} {a:Addr} {kvs:List (Key×V)} {A:Around} {E:Value→Shared→Prop}
end


section
variable {X:Cx} {pins:List (Addr×Obj)} {σ:St} {H:Hp} {s:Shared} {a:Addr} {y:V} {u:Value} {A:Around} {E:Value→Shared→Prop}
end
end L2

namespace Att
open PySem PySem.W PySem.Calls PyProof.Rows

section
variable {prog:Program} {w:World} {A:Around} {E:Value→Shared→Prop} {s:Shared} {K:Frag}

end
end Att

namespace L2
open PySem PySem.Spec PyProof.Rows

end L2

namespace L2
open PySem PySem.Spec PyProof.Rows

end L2

/- THE LAST THEOREM (shape;LID,My.* are yours):
   My.Adr: a structure of the addresses that your layer names (classes,functions);My.Txt K t: a structure (Prop) of the equations over K;
   My.txt_mk:{K} {implicit addresses ..} (e1:nsIn K mainGlobals "law"=some (some (.ref f))) (e2:K.lookup f=some ⟨oc,od,.func (fnOf "law" "law" params body scope dV kV doc pm an cdv ct),sl⟩) (e3:codeIn K cdv "law"=true) ..:∃ t,My.Txt K t

set_option maxRecDepth 100000 in
set_option maxHeartbeats 0 in
theorem PySem.Challenge.cw_LID_holds : PySem.Challenge.rw_LID.Holds := by
  w_on;o_law;k_head;(case hw=>w_witness2)
  k_fill
  refine L2.walk_of (l:=PySem.Challenge.rw_LID) (n:=63) (k:=40) (x := "script") (CX:=fun w => ..) (sp:=fun _=>My.sp_law) rfl (by decide) rfl ⟨rfl,by decide,by decide⟩ (fun w h Y=>PySem.W.kIn_of Y) ?F ?S ?C
  case F =>
    intro w mg fa h KX G hmg
    have T:∃ t,My.Txt (L2.KOf KX) t:=by
      dsimp only [L2.KOf]                          -- K must stand as «<heap const> w.params» for k_is
      refine' My.txt_mk ?e1 ?e2 ?e3 ..
      (case e1=>PySem.W.k_is)                    -- in the order: a name -> its address -> its object -> its parts
      (case e2=>PySem.W.k_is)
      ..
    obtain ⟨t,T⟩:=T
    have e0:=hmg.symm.trans (PySem.W.mg_of KX G T.law)
    cases e0                                       -- fa is the law's own address
    exact ⟨_,fun s u => .of_eq rfl,fun base kb nb=>My.law_fn T kb nb⟩     -- if «.of_eq rfl» comes too early: refine' ⟨_,?b,fun base kb nb=>My.law_fn T kb nb⟩;exact fun s u => .of_eq rfl
  case S=>exact fun w H a ns hl hO hS => ..
  case C=>exact ..
(the tactic k_is has no namespace: write k_is) -/

namespace L2
open PySem PySem.Spec PyProof.Rows

section
variable {X:Cx}
end

section
variable {κ:Type} [DecidableEq κ]
end
end L2

noncomputable section
namespace L2.PM
open PySem PySem.Spec PyProof.Rows
section
variable {X:Cx} {pins:List (Addr×Obj)} {σ:St} {H:Hp} {s:Shared} {a:Addr} {o:Obj} {kvs:List (Key×V)}
end
section
variable {X:Cx} {e:Expr} {ms:List Nat} {m:MEx} {tg:Expr}
end
end L2.PM

noncomputable section
namespace L2.PM
open PySem PySem.Spec PyProof.Rows
section
variable {X:Cx} {e a b c i o:Expr} {ms ns:List Nat} {m m1 m2:MEx} {pos:Pos}
end
end L2.PM

noncomputable section
namespace L2.PM
open PySem PySem.Spec PyProof.Rows
section
variable {X:Cx} {pins:List (Addr×Obj)} {σ:St} {H:Hp} {s:Shared} {a:Addr} {kvs:List (Key×V)}
end
section
variable {K:PySem.W.Frag} {B F₀ F F' H H':Hp} {σ:St} {γ:PEnv} {a:Addr}
theorem QaF {γ:PEnv} {i j:Nat} {t u:Slot} (h:(γ.set i t)[j]?=some u):(i=j∧u=t∧i < γ.length)∨(i≠j∧γ[j]?=some u):=by
  by_cases e:i=j
  · subst e
    by_cases hi:i < γ.length
    · rw [List.getElem?_set_self hi] at h
      exact .inl ⟨rfl,(Option.some.inj h).symm,hi⟩
    · rw [List.getElem?_eq_none (by simpa using hi)] at h;cases h
  · rw [List.getElem?_set_ne e] at h
    exact .inr ⟨e,h⟩
theorem SR.exact (S:SR K B F₀ F σ H γ) {i:Nat} {kvs:List (Str×(Bool ⊕ Int))} (hi:γ[i]?=some (.od kvs)) (ha:σ[i]?=some (some (.ref a))) (o:Obj) :
    SR K B F₀ (upd F a (.frz o (.dK (dvK kvs)))) σ (upd H a (.frz o (.dK (dvK kvs)))) (γ.set i (.fz (.dct kvs))):=by
  obtain ⟨a',h1,h2,h4,h5⟩:=S.dq.at_ i kvs hi
  rw [ha] at h1
  cases h1
  have hil:i < γ.length:=(List.getElem?_eq_some_iff.mp hi).1
  have gx:Same F (upd F a (.frz o (.dK (dvK kvs)))):=fun b u q=>by rw [Qk (Qn q h4)];exact q
  have stay:∀ b u,H b=some u→b≠a→upd H a (.frz o (.dK (dvK kvs))) b=some u:=fun b u e n=>by rw [Qk n];exact e
  refine ⟨fun b u e => ?_,fun b u e=>stay b u (S.base b u e) (Qn e h5),S.f0.trans gx,fun b u e => ?_,by simpa using S.len,fun j q e => ?_,fun j zs e => ?_,fun j k ws zs c hjk e1 e2 e3 => ?_,⟨fun j ls e => ?_,fun j k ks ls c hjk e1 e2 e3 => ?_⟩⟩
  · by_cases z:b=a
    · subst z;rw [Qp] at e ⊢;exact e
    · rw [Qk z] at e;exact stay b u (S.sub b u e) z
  · by_cases z:b=a
    · subst z;exact .inr h5
    · rw [Qk z] at e;exact S.fb b u e
  · rcases QaF e with ⟨rfl,z,_⟩ | ⟨n,e⟩
    · cases z
      refine ⟨.ref a,ha,?_⟩
      unfold Rep
      exact ⟨a,o,rfl,Qp⟩
    · obtain ⟨v,k1,k2⟩:=S.fz j q e
      exact ⟨v,k1,k2.mono gx⟩
  · rcases QaF e with ⟨_,z,_⟩ | ⟨n,e⟩
    · cases z
    · obtain ⟨b,ts,k1,k2,k3,k4,k5⟩:=S.ow j zs e
      have hb:=QhD k2 h2 (fun w=>nomatch w)
      exact ⟨b,ts,k1,stay _ _ k2 hb,k3.mono gx,by rw [Qk hb];exact k4,k5⟩
  · rcases QaF e1 with ⟨_,z,_⟩ | ⟨n1,e1⟩
    · cases z
    · rcases QaF e2 with ⟨_,z,_⟩ | ⟨n2,e2⟩
      · cases z
      · exact S.dj j k ws zs c hjk e1 e2 e3
  · rcases QaF e with ⟨_,z,_⟩ | ⟨n,e⟩
    · cases z
    · obtain ⟨b,k1,k2,k3,k4⟩:=S.dq.at_ j ls e
      have hb:b≠a:=fun w=>by
        subst w
        exact S.dq.dj i j kvs ls b n hi e ha k1
      exact ⟨b,k1,stay _ _ k2 hb,by rw [Qk hb];exact k3,k4⟩
  · rcases QaF e1 with ⟨_,z,_⟩ | ⟨n1,e1⟩
    · cases z
    · rcases QaF e2 with ⟨_,z,_⟩ | ⟨n2,e2⟩
      · cases z
      · exact S.dq.dj j k ks ls c hjk e1 e2 e3
end
section
variable {X:Cx} {e k v:Expr} {st:Stmt} {ms ns:List Nat} {m mk mv:MEx} {s1:MSt} {pos p2 spos:Pos}
end
end L2.PM

noncomputable section
namespace L2.PM
open PySem PySem.Spec PyProof.Rows
section
variable {X:Cx} {e st:Expr} {ms ns:List Nat} {m mst:MEx} {p2 pos:Pos}
end
end L2.PM
namespace L2.PM
open PySem PySem.Spec PyProof.Rows
end L2.PM

namespace L2
open PySem PySem.Spec PySem.Calls PyProof.Rows PySem.W PySem.Builtin PySem.Builtin.ObjectAttr PySem.Builtin.Getset_descriptor
structure XCl (K:PySem.W.Frag) (D:Addr):Prop where
  ga:findIn K (.ref D) "__getattribute__"=some (some (.builtin "BaseException.__getattribute__"))
  gn:findIn K (.ref D) "__getattr__"=some none
  be:mroIn K D (.type "BaseException")=some true
  ob:mroIn K D (.type "object")=some true
  cl:findIn K (.ref D) "__class__"=some (some (.builtin "object.__class__"))
  gg:specialIn K (.builtin "object.__class__") "__get__"=some (some (.builtin "getset_descriptor.__get__"))
  tk:takesIn K (.builtin "object.__class__")=some true
noncomputable def OfC (x D:Addr) (h:Heap):Prop:=∃ ox,h.get? x=some ox∧ox.cls = .ref D
section
variable {prog:Program} {w:World} {M:Model} {A:Around} {E:Value→Shared→Prop} {s:Shared} {K:PySem.W.Frag} {x D:Addr}
theorem OfC.type {h:Heap} (I:OfC x D h):Looks M h (typeOf (.ref x)) (.ref D):=by
  obtain ⟨ox,h1,h2⟩:=I
  exact h2 ▸ (Looks.ld h1).andThen .now
theorem Qep {nv:Value} {Q:Unit→Shared→Prop} (X:K.In s.heap) (I:OfC x D s.heap) (C:XCl K D) (hq:Q () s):wpAny M A (checkBuiltinCall "BaseException.__getattribute__" ⟨[.ref x,nv],[]⟩) Q E s:=by
  have kd:builtinKind "BaseException.__getattribute__"=some .slot:=by decide +kernel
  have sp:splitId "BaseException.__getattribute__"=some ("BaseException","__getattribute__"):=by decide +kernel
  have ok:=F.args_bexc_ga (.ref x) nv
  have L:Looks M s.heap (isInstance (.ref x) (.type "BaseException")) true:=(OfC.type (M:=M) I).andThen (looks_mroIn X C.be)
  obtain ⟨h,g,d,t,os⟩:=s
  simp only [checkBuiltinCall,kd,sp]
  refine wpAny_bind (Looks.at L ?_)
  repeat (any_goals (first | assumption | wp_step))
theorem xc_find {h:Heap} (X:K.In h) (C:XCl K D):Looks M h (Builtin.ObjectAttr.find (.ref x) (.ref D) "__class__") (.bind (.builtin "getset_descriptor.__get__") (.builtin "object.__class__")) :=
  (looks_findIn X C.cl).andThen ((show Looks M h (Builtin.ObjectAttr.getOf (some (.builtin "object.__class__"))) _ from looks_specialIn X C.gg).andThen ((show Looks M h (Builtin.ObjectAttr.dataDescriptor? (some (.builtin "object.__class__")) (some (.builtin "getset_descriptor.__get__"))) (some (_,_)) from (looks_takesIn X C.tk).andThen .now).andThen (Looks.tag .now)))
theorem QfH {c:Addr} {b:Value} {r:Bool} (h:mroIn K c b=some r):(clsIn K c).isSome=true:=by
  unfold mroIn at h
  obtain ⟨cd,hc,_⟩:=Option.bind_eq_some_iff.mp h
  rw [hc];rfl
theorem xc_get {R:Result→Shared→Prop} (X:K.In s.heap) (I:OfC x D s.heap) (C:XCl K D) (hq:R (.ok (.ret (.ref D))) s):codeAny (model prog w) A (.call (.builtin "getset_descriptor.__get__") ⟨[.builtin "object.__class__",.ref x,.ref D],[]⟩) R s:=by
  have L0:=OfC.type (M:=model prog w) I
  have L1:=looks_mroIn (M:=model prog w) X C.ob
  obtain ⟨h,g,d,t,os⟩:=s
  exact codeAny_call_builtin KF.slot_gs.plain KF.entry_gs (KF.slot_gs.check _ _ _ _ _ _ _ _ KF.type_class (KF.args_gs _ _ _) (by
    unfold Builtin.«getset_descriptor.__get__» descrGet;rw [dga_obj]
    refine wpAny_bind (wpAny_pure ?_);unfold descrGetter descrCheckInstance descrNameAndClass isInstance
    simp only [KF.owner_class];repeat lk
    exact ⟨Code.quiet_builtin _ (by decide +kernel),codeAny_builtin KF.entry_class (by unfold Builtin.«object.__class__» shownTypeOf;(repeat lk);exact hq)⟩))
theorem xc_class {Q:Option Value→Shared→Prop} (X:K.In s.heap) (I:OfC x D s.heap) (C:XCl K D) (hq:Q (some (.ref D)) { s with toks:=s.toks + 1 }):wpAny (model prog w) A (getAttr? (.ref x) "__class__") Q E s:=by
  have L0:=OfC.type (M:=model prog w) I
  have L1:=looks_findIn (M:=model prog w) X C.ga
  have L2:=looks_findIn (M:=model prog w) X C.gn
  have L3:=xc_find (M:=model prog w) (x:=x) X C
  obtain ⟨h,g,d,t,os⟩:=s
  have f3:=F.attr_ValueError.ga.bind (.ref x)
  have hx0:(false&&onTheHeap (Value.builtin "BaseException.__getattribute__"))=false:=rfl
  have hx2:(Value.builtin "BaseException.__getattribute__"==Value.builtin "object.__getattribute__")=false:=by decide +kernel
  have hx1:(onTheHeap (Value.ref D)&&Value.builtin "BaseException.__getattribute__"==Value.builtin "object.__getattribute__")=false:=by rw [hx2];rfl
  unfold getAttr? getAttrBy?
  refine wpAny_bind (wpAny_mkText (wpAny_bind (wpAny_attempt ?_)))
  unfold getAttrBy
  refine wpAny_holding (wpAny_bind (Looks.at L0 (wpAny_bind (Looks.at L1 ?_))))
  dsimp only
  rw [if_neg (by rw [hx1];decide)]
  repeat (any_goals (first | assumption | with_reducible refine Looks.at L2 ?_ | with_reducible refine Looks.at L0 ?_ | wp_step))
  refine codeAny_call_builtin F.attr_ValueError.ga.plain F.entry_bexc_ga (Qep X I C ?_)
  show wpAny _ _ (Builtin.«object.__getattribute__» ⟨[.ref x,.str "__class__" t],[]⟩) _ _ _
  unfold Builtin.«object.__getattribute__»
  repeat (any_goals (first | assumption | with_reducible refine Looks.at L3 ?_ | with_reducible refine Looks.at L0 ?_ | wp_step))
  refine xc_get X I C ?_
  repeat (any_goals (first | assumption | wp_step))
theorem QeI (C:XCl K D):KitX K (.ref x) (.ref D) (OfC x D) where
  ty:=fun _ _ _ I=>I.type
  it:=fun _ _ X _=>by
    obtain ⟨cd,hc⟩:=Option.isSome_iff_exists.mp (QfH C.be)
    unfold clsIn at hc
    split at hc
    · rename_i e0
      exact fun A' Q' E' s' k q=>by
        unfold isType loadHead
        exact wpAny_bind (wpAny_loadPart (k _ _ (X _ _ e0)) (wpAny_pure q))
    · cases hc
  ne:=fun h tp dd its n sl X htp=>by
    obtain ⟨cd,hc⟩:=Option.isSome_iff_exists.mp (QfH C.be)
    refine Bool.eq_false_iff.mpr fun q => ?_
    cases (Value.ref.inj (beq_iff_eq.mp q))
    unfold clsIn at hc
    split at hc
    · rename_i e0
      cases (X _ _ e0).symm.trans htp
    · cases hc
  ca:=fun X I k=>xc_class X I C k
theorem Qhm {C:Addr} {b:Bool} {Q:Bool→Shared→Prop} (X:K.In s.heap) (I:OfC x C s.heap) (hD:XCl K D) (hty:typeIn K (.ref D)=some (.type "type")) (hs:mroIn K C (.ref D)=some b) (hq:Q b s):wpAny M A (excMatches (.ref x) (.ref D)) Q E s:=by
  have L0:=OfC.type (M:=M) I
  have L1:=looks_typeIn (M:=M) X hty
  have L2:=looks_mroIn (M:=M) X hs
  have L3:=looks_mroIn (M:=M) X hD.be
  have L4:=(QeI (x:=x) (K:=K) hD).it M s.heap X
  have f:=tc_notTuple
  obtain ⟨cd,hc⟩:=Option.isSome_iff_exists.mp (QfH hD.be)
  unfold clsIn at hc
  split at hc
  · rename_i e0
    have e1:=X _ _ e0
    obtain ⟨h,g,d,t,os⟩:=s
    unfold excMatches isInstance
    repeat (first | with_reducible refine Looks.at L0 ?_ | with_reducible refine Looks.at L1 ?_ | with_reducible refine Looks.at L2 ?_ | with_reducible refine Looks.at L3 ?_ | with_reducible refine wpAny_loadPart_at e1 ?_ | wp_step)
    cases b <;> (repeat (first | wp_step)) <;> exact hq
  · cases hc
end
end L2

namespace L2
open PySem PySem.Spec PySem.Calls PyProof.Rows PySem.W
structure FlyO (B:Heap) (l:List Env) (e:Addr) (cls:Value) (d:Option Addr) (fl:Value) (h:Heap):Prop where
  stay:B.StaysIn h
  new:B.get? e=none
  fun_:h.FunFrames B l
  at_:∃ oe vs T oT ts,h.get? e=some oe∧oe.cls=cls∧oe.dict=d∧oe.data = .fields vs∧vs[1]?=some (.ref T)∧B.get? T=none∧T≠e∧h.get? T=some oT∧oT.data = .fields ts∧ts[3]?=some fl
theorem FlyO.obj {B h:Heap} {l:List Env} {e:Addr} {cls fl:Value} {d:Option Addr} (x:FlyO B l e cls d fl h):∃ oe vs,h.get? e=some oe∧oe.cls=cls∧oe.dict=d∧oe.data = .fields vs :=
  let ⟨oe,vs,_,_,_,h1,h2,h3,h4,_⟩:=x.at_;⟨oe,vs,h1,h2,h3,h4⟩
theorem FlyO.tail {B h:Heap} {env:Env} {l:List Env} {e:Addr} {cls fl:Value} {d:Option Addr} (x:FlyO B (env :: l) e cls d fl h):FlyO B l e cls d fl h:=⟨x.stay,x.new,x.fun_.2.2,x.at_⟩
theorem QbL (f:Array Value→Array Value) (o:Obj):(Obj.mapFields f o).dict=o.dict:=by
  obtain ⟨c,d,da,sl⟩:=o
  cases da <;> rfl
section
variable {M:Model} {A:Around} {E:Value→Shared→Prop} {s:Shared} {B:Heap} {env:Env} {l outer:List Env} {L e:Addr} {cls fl head:Value} {d:Option Addr} {oe:Obj} {vs:Array Value} {Q:Unit→Shared→Prop}
theorem QdN (x:FlyO B l e cls d fl s.heap) (hq:∀ h',FlyO B l e cls d .none h'→s.heap.UpToSlots h'→Q () { s with heap:=h' }):wpAny M A (setFlight (.ref e) none) Q E s:=by
  obtain ⟨oe,vs,T,oT,ts,k1,k2,k3,k4,k5,k6,k7,k8,k9,k10⟩:=x.at_
  have z:3 < ts.size:=(Array.getElem?_eq_some_iff.mp k10).1
  have oth:∀ b,b≠T→(s.heap.update T (Obj.mapFields (·.setIfInBounds 3 Value.none))).get? b=s.heap.get? b:=fun b q=>Heap.get?_update_other _ _ q.symm
  have rec_:∀ b o,s.heap.get? b=some o→(∀ ws,o.data ≠ .fields ws)→b≠T:=fun b o q1 q2 q3=>by
    subst q3;rw [k8] at q1;cases q1;exact q2 _ k9
  show wpAny M A (field (.ref e) 1 >>= fun tb=>if tb != .none then setField tb 3 .none else pure ()) Q E s
  refine wpAny_bind (wpAny_field k1 k4 k5 ?_)
  rw [if_pos (by simp)]
  refine wpAny_setField k8 k9 z (hq _ ⟨fun b o q=>(oth b fun w=>by subst w;rw [k6] at q;cases q).trans (x.stay b o q),x.new,x.fun_.of_keeps fun b o q1 q2=>⟨o,(oth b (rec_ b o q1 q2)).trans q1,rfl⟩,?_⟩ fun b o q1 q2=>⟨o.slots,(oth b (rec_ b o q1 q2)).trans q1⟩)
  exact ⟨oe,vs,T,_,_,(oth e k7.symm).trans k1,k2,k3,k4,k5,k6,k7,Heap.get?_update_self _ k8 (Obj.isFreed_of_fields (Obj.data_mapFields k9 _)),Obj.data_mapFields k9 _,by simp [z]⟩
theorem Qdh {hn:Bool} (hfr:A.frames=some (env :: outer)) (hf:env.frame=some L) (st:B.StaysIn s.heap) (new:B.get? e=none) (fu:s.heap.FunFrames B (env :: outer)) (he:s.heap.get? e=some oe) (hd:oe.data = .fields vs) (hz:1 < vs.size)
    (hq:∀ h',FlyO B (env :: outer) e oe.cls oe.dict (rawInt L) h'→s.heap.UpToSlots h'→Q () { s with heap:=h' }) :
    wpAny M A (frameOf env >>= fun a=>entryPlaceOf L hn >>= fun pl=>EntryCells.newEntry head a .none (rawInt L) .none pl >>= fun b=>setField (.ref e) 1 b) Q E s:=by
  have nf:e∉(env :: outer).filterMap (·.frame):=fun hm=>by
    obtain ⟨_,o,q1,q2⟩:=fu.mem hm
    rw [he] at q1;cases q1;exact q2 _ hd
  refine wpAny_bind (wpAny_frameOf_fun hfr fu hf fun h1 so=>wpAny_bind (wpAny_entryPlaceOf fun pl ip => ?_))
  unfold EntryCells.newEntry newFields
  refine wpAny_bind (wpAny_newObj_type ?_ (ip.sizeOk5 _ _ _ _ _))
  have he1:h1.get? e=some oe:=(so.2.1 e nf).trans he
  have st1:B.StaysIn h1:=fun b o q=>(so.2.1 b fun hm=>by rw [(fu.mem hm).1] at q;cases q).trans (st b o q)
  generalize hne:({ cls := .type "traceback",dict:=none,data := .fields ([head,.ref L,.none,rawInt L,.none]++(if pl.isEmpty then List.replicate 6 Value.none else pl)).toArray }:Obj)=ne
  have hned:ne.data = .fields ([head,.ref L,.none,rawInt L,.none]++(if pl.isEmpty then List.replicate 6 Value.none else pl)).toArray:=by rw [← hne]
  have hnf:Obj.isFreed ne=false:=Obj.isFreed_of_fields hned
  have he2:=Heap.get?_push_of_some (h:=h1) ne he1
  have lt:=Heap.lt_size he1
  refine wpAny_setField he2 hd hz (hq _ ?_ ?_)
  all_goals
    have rec_:∀ b o,s.heap.get? b=some o→(∀ ws,o.data ≠ .fields ws)→b≠e:=fun b o q1 q2 q3=>by
      subst q3;rw [he] at q1;cases q1;exact q2 _ hd
    have keep:∀ b o,b≠e→h1.get? b=some o→((h1.push ne).update e (Obj.mapFields (·.setIfInBounds 1 (Value.ref h1.objs.size)))).get? b=some o:=fun b o q1 q2=>by
      rw [Heap.get?_update_other _ _ q1.symm];exact Heap.get?_push_of_some _ q2
  · have hd3:=Obj.data_mapFields hd (·.setIfInBounds 1 (Value.ref h1.objs.size))
    refine ⟨fun b o q=>keep b o (fun w=>by subst w;rw [new] at q;cases q) (st1 b o q),new,fu.of_keeps fun b o q1 q2 => ?_,?_⟩
    · obtain ⟨sl,q3⟩:=so.2.2 b o q1
      exact ⟨_,keep b _ (rec_ b o q1 q2) q3,rfl⟩
    · refine ⟨_,_,h1.objs.size,ne,_,Heap.get?_update_self _ he2 (Obj.isFreed_of_fields hd3),Obj.cls_mapFields _ _,QbL _ _,hd3,by simp [hz],st1.fresh,Nat.ne_of_gt lt,?_,hned,?_⟩
      · rw [Heap.get?_update_other _ _ (Nat.ne_of_lt lt)]
        exact Heap.get?_push_size h1 hnf
      · rcases ip with rfl | ⟨_,_,_,_,_,_,_,rfl⟩ <;> simp
  · intro b o q1 q2
    obtain ⟨sl,q3⟩:=so.2.2 b o q1
    exact ⟨sl,keep b _ (rec_ b o q1 q2) q3⟩
theorem Qgm (e:Value) (env:Env) (hf:env.frame=some L):noteFrame e env=field e 1 >>= fun head=>(if head != .none then field head 3 >>= fun x=>if x==rawInt L then pure true else setField head 3 .none >>= fun _=>pure false else pure false) >>= fun r=>if r=true then pure () else
    frameOf env >>= fun a=>entryPlaceOf L (head != .none) >>= fun pl=>EntryCells.newEntry head a .none (rawInt L) .none pl >>= fun b=>setField e 1 b:=by
  unfold noteFrame
  rw [hf]
  simp only [bind_assoc]
  congr 1
  funext head
  split
  · simp only [bind_assoc]
    congr 1
    funext x
    split
    · rfl
    · simp only [bind_assoc];rfl
  · rfl
theorem Qhk (hfr:A.frames=some (env :: outer)) (hf:env.frame=some L) (st:B.StaysIn s.heap) (new:B.get? e=none) (fu:s.heap.FunFrames B (env :: outer)) (he:s.heap.get? e=some oe) (hd:oe.data = .fields vs) (h1:vs[1]?=some .none)
    (hq:∀ h',FlyO B (env :: outer) e oe.cls oe.dict (rawInt L) h'→s.heap.UpToSlots h'→Q () { s with heap:=h' }):wpAny M A (noteFrame (.ref e) env) Q E s:=by
  rw [Qgm _ _ hf]
  refine wpAny_bind (wpAny_field he hd h1 ?_)
  rw [if_neg (by decide)]
  refine wpAny_bind (wpAny_pure ?_)
  rw [if_neg (by decide)]
  exact Qdh hfr hf st new fu he hd (Array.getElem?_eq_some_iff.mp h1).1 hq
theorem fly_next (hfr:A.frames=some (env :: outer)) (hf:env.frame=some L) (x:FlyO B (env :: outer) e cls d .none s.heap)
    (hq:∀ h',FlyO B (env :: outer) e cls d (rawInt L) h'→s.heap.UpToSlots h'→Q () { s with heap:=h' }):wpAny M A (noteFrame (.ref e) env) Q E s:=by
  obtain ⟨oe,vs,T,oT,ts,k1,rfl,rfl,k4,k5,k6,k7,k8,k9,k10⟩:=x.at_
  rw [Qgm _ _ hf]
  refine wpAny_bind (wpAny_field k1 k4 k5 ?_)
  rw [if_pos (by simp)]
  refine wpAny_bind (wpAny_bind (wpAny_field k8 k9 k10 ?_))
  rw [if_neg (by simp [rawInt])]
  refine wpAny_bind (wpAny_setField k8 k9 (Array.getElem?_eq_some_iff.mp k10).1 (wpAny_pure ?_))
  rw [if_neg (by decide)]
  have oth:∀ b,b≠T→(s.heap.update T (Obj.mapFields (·.setIfInBounds 3 Value.none))).get? b=s.heap.get? b:=fun b q=>Heap.get?_update_other _ _ q.symm
  have rec_:∀ b o,s.heap.get? b=some o→(∀ ws,o.data ≠ .fields ws)→b≠T:=fun b o q1 q2 q3=>by
    subst q3;rw [k8] at q1;cases q1;exact q2 _ k9
  refine Qdh (s:={ s with heap:=s.heap.update T (Obj.mapFields (·.setIfInBounds 3 Value.none)) }) hfr hf (fun b o q=>(oth b fun w=>by subst w;rw [k6] at q;cases q).trans (x.stay b o q)) x.new (x.fun_.of_keeps fun b o q1 q2=>⟨o,(oth b (rec_ b o q1 q2)).trans q1,rfl⟩)
    ((oth e k7.symm).trans k1) k4 (Array.getElem?_eq_some_iff.mp k5).1 fun h' y u=>hq h' y fun b o q1 q2=>u b o ((oth b (rec_ b o q1 q2)).trans q1) q2
theorem Qbv (hfr:A.frames=some (env :: outer)) (hf:env.frame=some L) (st:B.StaysIn s.heap) (new:B.get? e=none) (fu:s.heap.FunFrames B (env :: outer)) (he:s.heap.get? e=some oe) (hd:oe.data = .fields vs) (h1:vs[1]?=some .none)
    (hq:∀ h',FlyO B outer e oe.cls oe.dict .none h'→s.heap.UpToSlots h'→Q () { s with heap:=h' }):wpAny M A (leaving env (.ref e)) Q E s :=
  wpAny_bind (Qhk hfr hf st new fu he hd h1 fun h' y u=>QdN (s:={ s with heap:=h' }) y fun h2 z u2=>hq h2 z.tail (u.trans u2))
end
end L2

namespace L2
open PySem PySem.Spec PySem.Calls PyProof.Rows PySem.W
noncomputable def valB:List Value:=[.type "ValueError",.type "Exception",.type "BaseException",.type "object"]
noncomputable def YQ:List Value→Bool
  | .ref _ :: r=>YQ r
  | l=>l==valB
theorem Yl {X:String} {b:Bool} (hb:valB.contains (.type X)=b):∀ {l:List Value},YQ l=true→l.contains (.type X)=b:=fun {l}=>by
  induction l with
  | nil=>intro e;cases (beq_iff_eq.mp e)
  | cons v r ih =>
    intro e
    unfold YQ at e
    split at e
    · rename_i e0
      cases e0
      rw [List.contains_cons,ih e];rfl
    · rw [beq_iff_eq.mp e];exact hb
noncomputable def Yr (K:Frag) (C:Addr):Bool:=match K.lookup C with
  | some ⟨.type "type",_,.cls cd,sl⟩=>(match cd.mro,sl.toList with
    | .ref C' :: bm,[_,_,_,_,some (.builtin n),_]=>C'==C&&n == "ValueError.__new__" && !cd.hasDel&&cd.hasDict&&YQ bm
    | _,_=>false)
  | _=>false
theorem Qfc (self:Value):∀ {l:List Value},YQ l=true→refuseLoop self "__setattr__" l=pure ():=fun {l}=>by
  induction l with
  | nil=>intro e;cases (beq_iff_eq.mp e)
  | cons v r ih =>
    intro e
    unfold YQ at e
    split at e
    · rename_i e0
      cases e0
      rw [refuseLoop_ref];exact ih e
    · rw [beq_iff_eq.mp e];kernel_rfl
structure XN (h:Heap) (C N:Addr) (nm q:Str) (bs bm:List Value) (sn:List Str) (sub:List Value) (ab:Bool) (col:Option Bool) (dd:Option Addr) (k0 k1 k2 k3 k5:Option Value):Prop where
  at_:h.get? C=some (excClassObj nm q C N bs bm true sn sub ab col dd k0 k1 k2 k3 k5 "ValueError.__new__")
  only:YQ bm=true
theorem xnew_of {K:Frag} {C:Addr} {h:Heap} (X:K.In h) (q:Yr K C=true):∃ N nm qn bs bm sn sub ab col dd k0 k1 k2 k3 k5,XN h C N nm qn bs bm sn sub ab col dd k0 k1 k2 k3 k5:=by
  unfold Yr at q
  split at q
  case h_2=>cases q
  case h_1 dd cd sl e0 =>
    split at q
    case h_2=>cases q
    case h_1 C2 bm a0 a1 a2 a3 nn a5 e1 e2 =>
      rw [Bool.and_eq_true,Bool.and_eq_true,Bool.and_eq_true,Bool.and_eq_true] at q
      obtain ⟨⟨⟨⟨q1,q2⟩,q3⟩,q4⟩,q5⟩:=q
      have q1:=beq_iff_eq.mp q1
      have q2:=beq_iff_eq.mp q2
      rw [Bool.not_eq_true'] at q3
      subst q1 q2
      obtain ⟨nm,bs,mro,ns,qn,hd,sn,sub,ab,col,del⟩:=cd
      cases e1
      cases q3
      cases q4
      have e3:sl = #[a0,a1,a2,a3,some (.builtin "ValueError.__new__"),a5]:=Array.toList_inj.mp e2
      cases e3
      exact ⟨ns,nm,qn,bs,bm,sn,sub,ab,col,dd,a0,a1,a2,a3,a5,X _ _ e0,q5⟩
noncomputable abbrev Ys (C t:Addr):Obj:={ cls := .ref C,data := .fields #[.ref t,.none,.none,.none,.bool false,.none] }
section
variable {prog:Program} {w:World} {A:Around} {E:Value→Shared→Prop} {h:Heap} {g:Array GenState} {d:Drawn} {t:Nat} {os:OsState} {K:Frag} {C fI N:Addr} {nm q:Str} {bs bm sub:List Value} {sn:List Str} {ab:Bool} {col:Option Bool} {dd:Option Addr} {k0 k1 k2 k3 k5:Option Value} {us:List Value}
theorem xn_check {M:Model} {Q:Unit→Shared→Prop} (H:XN h C N nm q bs bm sn sub ab col dd k0 k1 k2 k3 k5) (hq:Q () ⟨h,g,d,t,os⟩):wpAny M A (checkBuiltinCall "ValueError.__new__" ⟨.ref C :: us,[]⟩) Q E ⟨h,g,d,t,os⟩:=by
  have hc:(Value.ref C :: bm).contains (.type "ValueError")=true:=by rw [List.contains_cons,Yl (b:=true) rfl H.only,Bool.or_true]
  have hC:=H.at_
  have F:=F.excBase_ValueError
  have hs:=F.noStar
  simp only [checkBuiltinCall,F.newKind,F.newSplit,F.newRow]
  repeat (first | refine wpAny_loadPart_at hC ?_ | (refine wpAny_isSubtype_exc hC ?_;rw [hc]) | refine wpAny_staticBase_exc hC ?_ | refine wpAny_madeBy_exc hC ?_ | simp only [bne_self_eq_false,Bool.false_eq_true,if_false] | wp_step)
  exact hq
theorem xn_new {R:Result→Shared→Prop} (H:XN h C N nm q bs bm sn sub ab col dd k0 k1 k2 k3 k5) (hz:us.length≤sizeLine)
    (hq:R (.ok (.ret (.ref (h.objs.size + 1)))) ⟨(h.push { cls := .type "tuple",data := .seq us.toArray }).push (Ys C h.objs.size),g,d,t,os⟩):codeAny (model prog w) A (.builtin "ValueError.__new__" ⟨.ref C :: us,[]⟩) R ⟨h,g,d,t,os⟩:=by
  have hC:=H.at_
  have F:=F.excBase_ValueError
  have he:=F.ends
  have c1:(Value.ref C :: bm).contains (.type "ValueError")=true:=by rw [List.contains_cons,Yl (b:=true) rfl H.only,Bool.or_true]
  have c2:(Value.ref C :: bm).contains (.type "AttributeError")=false:=by rw [List.contains_cons,Yl (b:=false) rfl H.only];rfl
  have c3:(Value.ref C :: bm).contains (.type "NameError")=false:=by rw [List.contains_cons,Yl (b:=false) rfl H.only];rfl
  refine codeAny_builtinAt F.entry ?_
  unfold Builtin.«BaseException.__new__»
  refine PySem.wpAt_bind (show PySem.wpAt _ _ _ (stack >>= _) _ _ _ from PySem.wpAt_bind (PySem.wpAt_stack fun _ _=>PySem.wpAt_of_wpAny ?_))
  wp_walk;refine PySem.wpAt_of_wpAny ?_;rw [F.owner]
  repeat (first | with_reducible refine wpAny_madeHere_exc F.canon hC ?_ | with_reducible refine wpAny_loadPart_at hC ?_ | (with_reducible refine wpAny_isSubtype_exc hC ?_;first | rw [c1] | rw [c2] | rw [c3]) | wp_step)
  show R _ _;rw [Heap.size_push];exact hq
theorem xn_call {Q:Value→Shared→Prop} (X:K.In h) (hN:Yr K C=true) (hi:findIn K (.ref C) "__init__"=some (some (.ref fI))) (hf:isFn K (.ref fI)=true) (hz:us.length≤sizeLine)
    (hq:wpAny (model prog w) (A.under (.builtin "type.__call__" ⟨.ref C :: us,[]⟩)) (call (.ref fI) (.ref (h.objs.size + 1) :: us)) (fun r s'=>r = .none∧Q (.ref (h.objs.size + 1)) s') E ⟨(h.push { cls := .type "tuple",data := .seq us.toArray }).push (Ys C h.objs.size),g,d,t,os⟩) :
    wpAny (model prog w) A (call (.ref C) us) Q E ⟨h,g,d,t,os⟩:=by
  obtain ⟨N,nm,q,bs,bm,sn,sub,ab,col,dd,k0,k1,k2,k3,k5,H⟩:=xnew_of X hN
  have hC:=H.at_
  have f1:=tc_lookup
  have f2:=tc_bind (.ref C)
  have hT:(⟨h,g,d,t,os⟩:Shared).TypeIs (.ref C) "type":=⟨_,hC,rfl⟩
  refine wpAny_call (codeAny_of_tree (show wpAny _ _ (callAny (.ref C) _) _ _ _ from ?_))
  repeat (any_goals (first | assumption | with_reducible refine wpAny_loadPart_at hC ?_ | wp_step))
  refine ⟨rfl,codeAny_call_builtin_at (Code.quiet_builtin _ (by decide +kernel)) entry_typeCall (wpAny_check_type_call_sub hC ?_)⟩
  have F:=F.excBase_ValueError
  repeat (first | with_reducible refine wpAny_loadPart_at hC ?_ | with_reducible refine wpAny_madeBy_exc hC ?_ | wp_step)
  refine codeAny_call_builtin_code (Code.quiet_builtin _ F.quiet) (xn_check H (xn_new H hz ?_))
  show wpAny _ _ _ _ _ _
  have kp:∀ b o,h.get? b=some o→((h.push { cls := .type "tuple",data := .seq us.toArray }).push (Ys C h.objs.size)).get? b=some o:=fun b o e=>Heap.get?_push_of_some _ (Heap.get?_push_of_some _ e)
  have hC1:=kp _ _ hC
  have X1:=X.keeps kp
  have hg:((h.push { cls := .type "tuple",data := .seq us.toArray }).push (Ys C h.objs.size)).get? (h.objs.size + 1)=some (Ys C h.objs.size):=by heap_get
  have hcC:(Value.ref C :: bm).contains (.ref C)=true:=by simp
  have L:=looks_findIn (M:=model prog w) X1 hi
  have hfc:typeIn K (.ref fI)=some (.type "function"):=beq_iff_eq.mp hf
  unfold isInstance
  repeat (first | with_reducible refine wpAny_loadPart_at hg ?_ | wp_step)
  refine wpAny_isSubtype_exc hC1 ?_
  rw [hcC]
  repeat wp_step
  show wpAny _ _ (typeLookup (.ref C) _) _ _ _
  refine L.at (wpAny_holding (wpAny_bind ((bind_fn X1 _ hfc).at ?_)))
  refine wpAny_bind (wpAny_mono hq (fun r s' hr => ?_) fun _ _ x=>x)
  obtain ⟨rfl,z⟩:=hr
  wp_walk
  exact z
end
end L2

namespace L2
open PySem PySem.Spec PySem.Calls PyProof.Rows PySem.W PySem.Builtin PySem.Builtin.ObjectAttr
noncomputable def exN (a C:Addr):HO := .ext fun h=>∃ t,h.get? a=some (Ys C t)
noncomputable abbrev XT (C t dx:Addr):Obj:={ cls := .ref C,dict:=some dx,data := .fields #[.ref t,.none,.none,.none,.bool false,.none] }
noncomputable def exF (a C dx:Addr):HO := .ext fun h=>∃ t,h.get? a=some (XT C t dx)
theorem exN_ok {P:Program} {w:World} {H:Hp} {h:Heap} {a C t:Addr} (e:h.get? a=some (Ys C t)):Ym P w H h a (exN a C):=⟨⟨t,e⟩,⟨_,e⟩,fun _ _ ⟨t,q⟩ k=>⟨t,k _ q⟩⟩
theorem exF_ok {P:Program} {w:World} {H:Hp} {h:Heap} {a C t dx:Addr} (e:h.get? a=some (XT C t dx)):Ym P w H h a (exF a C dx):=⟨⟨t,e⟩,⟨_,e⟩,fun _ _ ⟨t,q⟩ k=>⟨t,k _ q⟩⟩
structure XSet (K:Frag) (C:Addr) (f:Str):Prop where
  new:Yr K C=true
  sa:findIn K (.ref C) "__setattr__"=some (some (.builtin "object.__setattr__"))
  no:findIn K (.ref C) f=some none
section
variable {prog:Program} {w:World} {A:Around} {E:Value→Shared→Prop} {s:Shared} {K:Frag} {C x t:Addr} {f:Str} {v:Value}
theorem xn_cls {h:Heap} (X:K.In h) (q:Yr K C=true):∃ cd bm,clsIn K C=some cd∧cd.hasDict=true∧cd.mro = .ref C :: bm∧YQ bm=true:=by
  unfold Yr at q
  split at q
  case h_2=>cases q
  case h_1 dd cd sl e0 =>
    split at q
    case h_2=>cases q
    case h_1 C2 bm a0 a1 a2 a3 nn a5 e1 e2 =>
      rw [Bool.and_eq_true,Bool.and_eq_true,Bool.and_eq_true,Bool.and_eq_true] at q
      obtain ⟨⟨⟨⟨q1,q2⟩,q3⟩,q4⟩,q5⟩:=q
      refine ⟨cd,bm,?_,q4,?_,q5⟩
      · unfold clsIn;rw [e0]
      · rw [e1,beq_iff_eq.mp q1]
theorem xset_map {Q:Unit→Shared→Prop} (X:K.In s.heap) (hx:s.heap.get? x=some (Ys C t)) (c:XSet K C f)
    (h:∀ h',(∀ b o,b≠x→s.heap.get? b=some o→h'.get? b=some o)→h'.get? x=some (XT C t s.heap.objs.size)→h'.Ns1 s.heap.objs.size (fun y=>if y=f then some v else none)→Q () { s with heap:=h',toks:=s.toks + 2 }) :
    wpAny (model prog w) A (setAttr (.ref x) f v) Q E s:=by
  obtain ⟨cd,bm,hc,hd,hm,ho⟩:=xn_cls X c.new
  have J:InstAt s.heap x (Ys C t) C none:=⟨hx,rfl,rfl,True.intro⟩
  have lt:=Heap.lt_size hx
  refine set_plain X J c.sa ?_
  have SF:=PySem.F.store_object
  have c0:cd.mro.contains (.type "object")=true:=by rw [hm,List.contains_cons,Yl (b:=true) rfl ho,Bool.or_true]
  have sub:Looks (model prog w) s.heap (isInstance (.ref x) (.type "object")) true:=J.type.andThen (looks_mroIn X (by unfold mroIn;rw [hc,Option.bind_some,if_neg (by rw [hm];exact Bool.false_ne_true),c0]))
  have hmr:Looks (model prog w) s.heap (mroOf (.ref C)) cd.mro:=(looks_clsIn X hc).andThen .now
  refine codeAny_call_builtin SF.slot.plain SF.entry (@check_slot (model prog w) _ _ { s with toks:=s.toks + 1 } "object.__setattr__" "object" "__setattr__" (.ref x) [.str f s.toks,v] [] _ SF.kind SF.split sub (SF.args (.ref x) (.str f s.toks) v) ?_)
  rw [osa_eq,refuse_eq]
  refine wpAny_bind (wpAny_bind (J.type.at (wpAny_bind (hmr.at ?_))))
  rw [hm,refuseLoop_ref,Qfc _ ho]
  refine wpAny_pure (wpAny_bind (J.type.at (wpAny_bind ((looks_findIn X c.no).at (wpAny_bind (wpAny_pure ?_))))))
  show wpAny (model prog w) _ (storeInOwnDict (.ref x) (.ref C) (.str f s.toks) f v false) _ _ { s with toks:=s.toks + 1 }
  unfold storeInOwnDict
  refine wpAny_bind (wpAny_pure ?_)
  rw [if_neg (fun z=>by cases (beq_iff_eq.mp z))]
  show wpAny _ _ (instanceDict x true >>= _) _ _ _
  unfold instanceDict
  refine wpAny_bind (wpAny_bind (wpAny_loadPart hx (wpAny_bind ((looks_clsIn X hc).at ?_))))
  rw [hd]
  refine wpAny_bind (wpAny_alloc (wpAny_bind (wpAny_update (Heap.get?_push_of_some _ hx) (wpAny_pure ?_))))
  have u1:((s.heap.push { cls := .type "dict",data := .dict #[] }).update x fun o=>{ o with dict:=some s.heap.objs.size }).get? x=some (XT C t s.heap.objs.size):=Heap.get?_update_self _ (Heap.get?_push_of_some _ hx) rfl
  have u2:((s.heap.push { cls := .type "dict",data := .dict #[] }).update x fun o=>{ o with dict:=some s.heap.objs.size }).get? s.heap.objs.size=some { cls := .type "dict",data := .dict #[] }:=by
    rw [Heap.get?_update_other _ _ (Nat.ne_of_lt lt)]
    exact Heap.get?_push_size s.heap rfl
  have u3:∀ b o,b≠x→s.heap.get? b=some o→((s.heap.push { cls := .type "dict",data := .dict #[] }).update x fun o=>{ o with dict:=some s.heap.objs.size }).get? b=some o:=fun b o n q=>by
    rw [Heap.get?_update_other _ _ n.symm]
    exact Heap.get?_push_of_some _ q
  generalize (s.heap.push { cls := .type "dict",data := .dict #[] }).update x (fun o=>{ o with dict:=some s.heap.objs.size })=h1 at u1 u2 u3 ⊢
  have n0:h1.Ns1 s.heap.objs.size (fun _=>none):=Heap.Ns1.of_empty ⟨_,#[],_,u2,rfl,(fun e he=>absurd he (by simp)),fun _=>rfl⟩
  show wpAny _ _ (storeInDict s.heap.objs.size (.str f s.toks) f v) _ _ _
  unfold storeInDict
  refine wpAny_bind (wpAny_pure (wpAny_bind (wpAny_nsSet1 (s:={ s with heap:=h1,toks:=s.toks + 1 }) n0 fun h' hn2 hs2 => ?_)))
  obtain ⟨oD,esD,epD,hoD,hdD,hcD⟩:=hn2.count (ns:=[f]) (PySem.Within.cons f v (ns:=[]) (fun y hy=>absurd rfl hy))
  refine wpAny_bind (wpAny_lookBehind hoD (by rw [hdD];exact pastItsLine_dict (Nat.le_trans hcD (show 1≤sizeLine + 1 from Nat.le_add_left _ _))) (wpAny_pure ?_))
  exact h h' (fun b o n q=>(hs2.2 b (Nat.ne_of_lt (Heap.lt_size q))).trans (u3 b o n q)) ((hs2.2 x (Nat.ne_of_lt lt)).trans u1) hn2
end
section
variable {X:Cx} {pins:List (Addr×Obj)} {σ:St} {H:Hp} {s:Shared} {a C dx:Addr} {f:Str} {v:V} {A:Around} {E:Value→Shared→Prop}
theorem xset_ok {u:Value} {Q:Unit→Shared→Prop} (I:Inv X pins σ H s) (e:H a=some (exN a C)) (c:XSet X.K C f) (ry:RelV v u)
    (h:∀ dx s',H dx=none→dx≠a→Inv X pins σ (upd (upd H a (exF a C dx)) dx (.xd [(f,v)])) s'→Q () s'):wpAny (model X.prog X.w) A (setAttr (.ref a) f u) Q E s:=by
  obtain ⟨⟨t,hx⟩,_⟩:=I.hok a _ e
  have lt:=Heap.lt_size hx
  refine xset_map I.kIn hx c fun h' k1 k2 k3 => ?_
  have hd:=I.hok.fresh (Nat.le_refl s.heap.objs.size)
  refine h s.heap.objs.size _ hd (Nat.ne_of_gt lt) ?_
  have w1:(s.heap.update a fun o=>{ o with dict:=some s.heap.objs.size }).get? a=some (XT C t s.heap.objs.size):=Heap.get?_update_self _ hx rfl
  have I1:Inv X pins σ (upd H a (exF a C s.heap.objs.size)) { s with heap:=s.heap.update a fun o=>{ o with dict:=some s.heap.objs.size },toks:=s.toks } :=
    I.write (x:=a) (e:=a) (by rw [e];exact True.intro) (.inl rfl) (fun b q hb z=>by rw [Heap.get?_update_other _ _ hb.symm];exact z) ⟨_,w1⟩ (exF_ok w1)
  refine I1.laid (a:=s.heap.objs.size) (t':=s.toks + 2) (h':=h') (fun b q z => ?_) (by show (s.heap.update a _).objs.size≤_;rw [Heap.size_update];exact Nat.le_refl _) ⟨_,k3,fun g => ?_⟩
  · by_cases hb:b=a
    · subst hb
      rw [w1] at z;cases z;exact k2
    · rw [Heap.get?_update_other _ _ (Ne.symm hb)] at z
      exact k1 b q hb z
  · show RelO (List.lookup g [(f,v)]) (if g=f then some u else none)
    by_cases q:g=f
    · subst q;rw [if_pos rfl,List.lookup_cons,beq_self_eq_true];exact ry
    · rw [if_neg q,List.lookup_cons,beq_eq_false_iff_ne.mpr q];exact True.intro
noncomputable def sXset (K:Frag) (C:Addr) (f:Str) (ta tv:TE):TS:=fun D σ H=>tv σ H fun y H1=>ta σ H1 fun x H2=>∃ a,x = .ref a∧H2 a=some (exN a C)∧XSet K C f∧∀ dx,H2 dx=none→dx≠a→D.nx σ (upd (upd H2 a (exF a C dx)) dx (.xd [(f,y)]))
theorem ps_xset {o value:Expr} {pos pos':Pos} {ta tv:TE} (ha:PE X o ta) (hv:PE X value tv) (hs:swapsWith value (some (.Attribute o f pos')) pos.line X.env=pure false:=by rfl):PS X (.Assign [.Attribute o f pos'] value pos) (sXset X.K C f ta tv):=by
  intro pins s σ H D I h
  refine plainObj_wpAny_Assign_Attribute (thn (hv pins s σ H _ I h) fun u s1 ⟨y,H1,I1,ry,q⟩=>thn (ha pins s1 σ H1 _ I1 q) fun ov s2 ⟨x,H2,I2,rx,a,ex,ea,c,q2⟩ => ?_) hs
  subst ex
  obtain rfl:ov=Value.ref a:=rx
  exact xset_ok I2 ea c ry fun dx s3 n1 n2 I3=>⟨σ,_,I3,q2 dx n1 n2⟩
end
noncomputable def spI (C:Addr) (f:Str):Sp:=fun vs H Q _=>vs.length=2∧∃ a v,vs=[.ref a,v]∧H a=some (exN a C)∧∀ dx,H dx=none→dx≠a→Q .non (upd (upd H a (exF a C dx)) dx (.xd [(f,v)]))
theorem fnI {P:Program} {w:World} {K:Frag} {mg:Str→Option Value} {base:Heap} {x qual f:Str} {st:Stmt} {fa C:Addr} {fd:FuncData} {N ps:List Str} {k:Nat} (Fn:Fun K x qual st fa fd) (Sc:FnScope N ps (Qf st)) (hn:ps.length=2) (c:XSet K C f)
    (hbody:∀ (cdv:Value) (A:Around) (outer:List Env) (s:Shared) (H:Hp) (E:XK),Room k (A.deeper (envOfC qual (Qf st) s.heap.objs.size fa cdv)) →
      PSs (cxOf CX0 P w K mg base N qual (Qf st) fa cdv A outer s H E).nox (Qm st) (sXset K C f (tVar 0) (tVar 1))):FnOk P w K mg base CX0 (k + 1) fa fd ps (spI C f):=by
  refine Fn.ok Sc (fun vs H Q E h=>by rw [h.1,hn]) fun cdv A outer s H vs Q E hr h=>⟨_,hbody cdv A outer s H E hr,?_⟩
  obtain ⟨_,a,v,rfl,h2,h3⟩:=h
  exact ⟨v,rfl,.ref a,rfl,a,rfl,h2,c,h3⟩
end L2

namespace L2
open PySem PySem.Spec PySem.Calls PyProof.Rows PySem.W L2.PM
theorem Qgu {P:Program} {w:World} {H:Hp} {h:Heap} {a C dx:Addr} {o:Obj} {vs:Array Value} (e:h.get? a=some o) (e1:o.cls = .ref C) (e2:o.dict=some dx) (e3:o.data = .fields vs):Ym P w H h a (excO a C dx) :=
  ⟨⟨o,vs,e,e1,e2,e3⟩,⟨_,e⟩,fun _ _ ⟨o,vs,q,r⟩ k=>⟨o,vs,k _ q,r⟩⟩
theorem upd_swap {H:Hp} {a b:Addr} {o u:HO} (n:a≠b):upd (upd H a o) b u=upd (upd H b u) a o:=by
  funext c;unfold upd
  by_cases h1:c=a
  · subst h1;simp [n]
  · simp [h1]
section
variable {X:Cx} {pins:List (Addr×Obj)} {σ:St} {H:Hp} {s:Shared} {C fa:Addr} {fd:FuncData} {ps:List Str} {k:Nat} {f x:Str} {v:V} {u:Value} {e:Expr} {p pos cpos np:Pos}
structure XMk (X:Cx) (C:Addr) (f:Str) (k:Nat):Prop where
  ex:∃ fa fd ps,FnOk X.prog X.w X.K X.mg X.base CX0 k fa fd ps (spI C f)∧findIn X.K (.ref C) "__init__"=some (some (.ref fa))∧isFn X.K (.ref fa)=true∧Yz X.K fd ps []
  new:Yr X.K C=true
  kp:keepIn X.K (.ref C)=true
theorem QcW {Q:Value→Shared→Prop} (M:XMk X C f k) (hr:Room (k + 1) X.A) (I:Inv X pins σ H s) (r:RelV v u)
    (hq:∀ a dx t s',s.heap.get? a=none→H a=none→H dx=none→dx≠a→Inv X pins σ (upd (upd H dx (.xd [(f,v)])) a (excO a C dx)) s'→s'.heap.get? a=some (XT C t dx)→Q (.ref a) s'):wpAny (model X.prog X.w) X.A (call (.ref C) [u]) Q X.xe s:=by
  obtain ⟨fa,fd,ps,F,hi,hf,hb⟩:=M.ex
  have hn:=I.hok.fresh (Nat.le_succ s.heap.objs.size)
  have nx:s.heap.get? (s.heap.objs.size + 1)=none:=Heap.get?_none_of_le (Nat.le_succ _)
  have g1:((s.heap.push { cls := .type "tuple",data := .seq [u].toArray }).push (Ys C s.heap.objs.size)).get? (s.heap.objs.size + 1)=some (Ys C s.heap.objs.size):=by
    have:=Heap.get?_push_size (s.heap.push { cls := .type "tuple",data := .seq [u].toArray }) (o:=Ys C s.heap.objs.size) rfl
    rwa [Heap.size_push] at this
  have I2:Inv X pins σ (upd H (s.heap.objs.size + 1) (exN (s.heap.objs.size + 1) C)) { s with heap:=(s.heap.push { cls := .type "tuple",data := .seq [u].toArray }).push (Ys C s.heap.objs.size),toks:=s.toks } :=
    I.laid (fun b o q=>Heap.get?_push_of_some _ (Heap.get?_push_of_some _ q)) (Nat.le_succ _) (exN_ok g1)
  obtain ⟨hh,g,d,t,os⟩:=s
  refine xn_call I.kIn M.new hi hf (show 1≤sizeLine by decide) ?_
  have hsp:spI C f [.ref (hh.objs.size + 1),v] (upd H (hh.objs.size + 1) (exN (hh.objs.size + 1) C)) (fun v' H'=>v' = .non∧∃ dx,H dx=none∧dx≠hh.objs.size + 1∧H'=upd (upd (upd H (hh.objs.size + 1) (exN (hh.objs.size + 1) C)) (hh.objs.size + 1) (exF (hh.objs.size + 1) C dx)) dx (.xd [(f,v)])) E0 :=
    ⟨rfl,_,v,rfl,Qp,fun dx n1 n2=>⟨rfl,dx,by rw [Qk n2] at n1;exact n1,n2,rfl⟩⟩
  have r2:Vals [.ref (hh.objs.size + 1),v] [.ref (hh.objs.size + 1),u] := .cons rfl (.cons r .nil)
  have hl:=F.len _ _ _ _ hsp
  refine wpAny_call (codeAny_mono (F.run _ X.stack _ _ ⟨[.ref (hh.objs.size + 1),u],[]⟩ [.ref (hh.objs.size + 1),u] _ _ E0 (hr.make C [u] []) (I2.env0.make C [u] []) (hb _ [.ref (hh.objs.size + 1),u] I2.kIn (by rw [← hl];rfl)) r2 hsp) fun r s' hq' => ?_)
  rcases r with e | (_ | _ | _ | u')
  · exact False.elim hq'
  all_goals first | exact False.elim hq' | skip
  obtain ⟨v',H',I3,rv,rfl,dx,n1,n2,rfl⟩:=I2.after hq'
  refine ⟨rv,?_⟩
  obtain ⟨⟨t',raw⟩,_⟩:=I3.hok (hh.objs.size + 1) (exF (hh.objs.size + 1) C dx) (by rw [Qk n2.symm];exact Qp)
  have I4:=I3.write (x:=hh.objs.size + 1) (e:=hh.objs.size + 1) (o:=excO (hh.objs.size + 1) C dx) (h':=s'.heap) (t':=s'.toks) (by rw [Qk n2.symm,Qp];exact True.intro) (.inl rfl) (fun _ _ _ z=>z) ⟨_,raw⟩ (Qgu raw rfl rfl rfl)
  rw [Qga,upd_swap n2.symm,Qga] at I4
  exact hq _ dx t' s' nx hn n1 n2 I4 raw
noncomputable def tMakeX (C:Addr) (f:Str) (t:TA):TE:=fun σ H Q=>t σ H fun vs H1=>∃ v,vs=[v]∧∀ a dx,H1 a=none→H1 dx=none→dx≠a→Q (.ref a) (upd (upd H1 dx (.xd [(f,v)])) a (excO a C dx))
theorem pe_makeX {es:List Expr} {t:TA} (M:XMk X C f k) (hr:Room (k + 1) X.A) (hg:Gl X x) (hm:X.mg x=some (.ref C)) (ha:PA X (e :: es) t) (hdb:(x==("__debug__":Str))=false:=by decide)
    (he:starEach (e :: es) X.env=(false,eval e X.env) :: starEach es X.env:=by rfl) (hpl:(backTo pos (starEach es X.env)).any (·.1)=false:=by rfl):PE X (.Call (.Name x p) (e :: es) [] pos) (tMakeX C f t):=by
  intro pins s σ H Q I h
  refine wpAny_Call_Name_kw (Xm I hg hm ?_ hdb)
  refine PySem.W.callWith_K (h₀:=X.base) I.ok.mod.kin M.kp (thn (ha pos pins s σ H _ I h) fun us s1 ⟨vs,H1,I1,r,v,e1,q⟩=>⟨I1.kIn,?_⟩) he hpl
  subst e1
  obtain ⟨u,rfl,ru⟩:∃ u,us=[u]∧RelV v u:=by
    cases r with
    | cons p q=>cases q;exact ⟨_,rfl,p⟩
  exact QcW M hr I1 ru fun a dx t s2 _ n1 n2 n3 I2 _=>⟨.ref a,_,I2,rfl,q a dx n1 n2 n3⟩
end
structure FlyX (P:Program) (w:World) (outer:List Env) (H:Hp) (h0:Heap) (H':Hp) (B:Heap) (e C:Addr) (d:Option Addr) (h:Heap):Prop where
  fl:FlyO B outer e (.ref C) d .none h
  ok:HOk P w H' B
  keep:∀ b o,h0.get? b=some o→H b=none→b∉frs outer→B.get? b=some o
  there:∀ b o,h0.get? b=some o→b∉frs outer→∃ o',B.get? b=some o'
  slot:∀ b o,h0.get? b=some o→H b=none→b∈frs outer→∃ sl,h.get? b=some { o with slots:=sl }
  free:∀ b o,h0.get? b=some o→H b=none→H' b=none
  tups:∀ b xs,H b=some (.tup xs)→H' b=some (.tup xs)
  frzs:∀ b o u,H b=some (.frz o u)→H' b=some (.frz o u)
  tbls:∀ b ps,H b=some (.tbl ps)→∃ more,H' b=some (.tbl (ps++more))
noncomputable def CX2 (P:Program) (w:World):CXT:=fun outer H s E e s'=>∃ a C d H' B,e = .ref a∧s'.os=s.os∧AllBare s'.gens∧FlyX P w outer H s.heap H' B a C d s'.heap∧E (.ref C) d H'
theorem Ym.there {P:Program} {w:World} {H:Hp} {h:Heap} {a:Addr} {o:HO} (x:Ym P w H h a o):∃ ob,h.get? a=some ob:=by
  cases o with
  | lst xs=>obtain ⟨_,_,_,_,e⟩:=x;exact ⟨_,e⟩
  | tup xs=>obtain ⟨_,_,_,ob,e,_⟩:=x;exact ⟨_,e⟩
  | dK kvs=>obtain ⟨_,_,_,_,o,_,_,e,_⟩:=x;exact ⟨_,e⟩
  | dT kvs=>obtain ⟨_,_,_,_,o,_,_,e,_⟩:=x;exact ⟨_,e⟩
  | set S n=>obtain ⟨o,_,_,_,e,_⟩:=x;exact ⟨_,e⟩
  | ins C dx fs=>obtain ⟨_,_,_,e,_⟩:=x;exact ⟨_,e⟩
  | own y=>exact x
  | xd fs=>obtain ⟨_,⟨_,_,_,e,_⟩,_⟩:=x;exact ⟨_,e⟩
  | rng lo hi=>obtain ⟨_,_,_,e⟩:=x;exact ⟨_,e⟩
  | frz ob u=>obtain ⟨e,_⟩:=x;exact ⟨_,e⟩
  | tbl ps=>exact ⟨_,(show h.get? a=some _ from x)⟩
  | met f y=>exact ⟨_,(show h.get? a=some _ from x)⟩
  | ext φ=>obtain ⟨_,e,_⟩:=x;exact e
section
variable {P:Program} {w:World} {outer:List Env} {H H':Hp} {h0 h h' B:Heap} {e C:Addr} {d:Option Addr}
theorem FlyX.un (F:FlyX P w outer H h0 H' B e C d h) (hf:∀ b∈frs outer,H b=none):Un (frs outer) [] H H' h0 h where
  keep:=fun b o q n hb _=>F.fl.stay b o (F.keep b o q n hb)
  slot:=fun b o q n hb _=>F.slot b o q n hb
  free:=fun b o q n _=>F.free b o q n
  there:=fun b o q _=>by
    by_cases hb:b∈frs outer
    · obtain ⟨sl,z⟩:=F.slot b o q (hf b hb) hb
      exact ⟨_,z⟩
    · obtain ⟨o',z⟩:=F.there b o q hb
      exact ⟨o',F.fl.stay b o' z⟩
  tups:=F.tups
  frzs:=F.frzs
  tbls:=F.tbls
theorem FlyX.hok (F:FlyX P w outer H h0 H' B e C d h):HOk P w H' h:=F.ok.kept F.fl.stay
theorem FlyX.on (F:FlyX P w outer H h0 H' B e C d h) (fl:FlyO B outer e (.ref C) d .none h') (u:h.UpToSlots h'):FlyX P w outer H h0 H' B e C d h' :=
  ⟨fl,F.ok,F.keep,F.there,fun b o q n hb=>by
    obtain ⟨sl,z⟩:=F.slot b o q n hb
    obtain ⟨_,o2,z2,nf⟩:=F.fl.fun_.mem hb
    rw [z] at z2;cases z2
    obtain ⟨sl2,z3⟩:=u b _ z nf
    exact ⟨sl2,z3⟩,F.free,F.tups,F.frzs,F.tbls⟩
theorem FlyX.new (F:FlyX P w outer H h0 H' B e C d h):H' e=none:=by
  cases q:H' e with
  | none=>rfl
  | some o =>
    obtain ⟨ob,z⟩:=(F.ok e o q).there
    rw [F.fl.new] at z;cases z
end
noncomputable def del (H:Hp) (a:Addr):Hp:=fun b=>if b=a then none else H b
theorem del_ne {H:Hp} {a b:Addr} (h:b≠a):del H a b=H b:=if_neg h
theorem Qea {H:Hp} {a:Addr}:del H a a=none:=if_pos rfl
theorem del_upd {H:Hp} {a:Addr} {o:HO} (n:H a=none):del (upd H a o) a=H:=by
  funext b
  by_cases h:b=a
  · subst h;rw [Qea,n]
  · rw [del_ne h,Qk h]
section
variable {P:Program} {w:World} {K:PySem.W.Frag} {mg:Str→Option Value} {base:Heap} {N:List Str} {qual:Str} {scope:Scope} {f:Addr} {cd:Value} {A:Around} {outer:List Env} {s s2:Shared} {H H2:Hp} {E:XK}
  {pins:List (Addr×Obj)} {σ:St} {h':Heap} {a C:Addr} {d:Option Addr} {vs:Array Value} {ob:Obj}
theorem Qed {G:Prop} (I:Inv (cxOf (CX2 P w) P w K mg base N qual scope f cd A outer s H E) pins σ H2 s2) (hob:s2.heap.get? a=some ob) (hc:ob.cls = .ref C) (hdt:ob.dict=d) (hdd:ob.data = .fields vs) (h1:vs[1]?=some .none) (new:s.heap.get? a=none) (hx:∀ o,H2 a=some o→∃ φ,o = .ext φ)
    (hE:E (.ref C) d (del H2 a)) (k:∀ B,(A.deeper (envOfC qual scope s.heap.objs.size f cd)).frames=some (envOfC qual scope s.heap.objs.size f cd :: outer)→B.StaysIn s2.heap→B.get? a=none→s2.heap.FunFrames B (envOfC qual scope s.heap.objs.size f cd :: outer) →
      (∀ h'',FlyO B outer a ob.cls ob.dict .none h''→s2.heap.UpToSlots h''→CX2 P w outer H s E (.ref a) { s2 with heap:=h'' })→G):G:=by
  generalize hX:cxOf (CX2 P w) P w K mg base N qual scope f cd A outer s H E=X at I
  have hst:X.stack=envOfC qual scope s.heap.objs.size f cd :: outer:=by rw [← hX];rfl
  have hou:X.outer=outer:=by rw [← hX];rfl
  have hfr:X.A.frames=some X.stack:=I.ok.frames
  have hA:X.A=A.deeper (envOfC qual scope s.heap.objs.size f cd):=by rw [← hX];rfl
  have hL:X.env.locals=s.heap.objs.size:=by rw [← hX];rfl
  have hs0:X.s₀=s:=by rw [← hX];rfl
  have hH0:X.H₀=H:=by rw [← hX];rfl
  have hex:X.ex=[]:=by rw [← hX];rfl
  have hp:X.prog=P:=by rw [← hX];rfl
  have hw:X.w=w:=by rw [← hX];rfl
  have hfs:X.fs=frs outer:=by show frs X.outer=_;rw [hou]
  generalize hfb:frs (envOfC qual scope s.heap.objs.size f cd :: outer)=as
  have hin:∀ env∈X.stack,∀ b,env.frame=some b→b∈a :: as:=fun env he b hb=>by
    rw [← hfb];rw [hst] at he
    exact .tail _ (List.mem_filterMap.mpr ⟨env,he,hb⟩)
  have hfree:∀ b∈as,H2 b=none:=fun b hb=>I.stkFree b (by rw [hst,hfb];exact hb)
  have hsub:∀ b∈as,b=s.heap.objs.size∨b∈frs outer:=fun b hb=>by
    have:=I.stkSub b (by rw [hst,hfb];exact hb)
    rw [hL,hfs] at this
    exact List.mem_cons.mp this
  have hold:∀ b o,s.heap.get? b=some o→b∉frs outer→b∉a :: as:=fun b o q nb hb=>by
    rcases List.mem_cons.mp hb with z | hb
    · subst z;rw [new] at q;cases q
    rcases hsub b hb with z | z
    · exact absurd (Heap.lt_size q) (by rw [z];exact Nat.lt_irrefl _)
    · exact nb z
  have fun2:=I.stack
  rw [hst] at hfr
  have hff:s2.heap.FunFrames (PySem.W.hideAll s2.heap (a :: as)) (envOfC qual scope s.heap.objs.size f cd :: outer):=by rw [← hst];exact PySem.W.funFrames_hide fun2 hin
  refine k (PySem.W.hideAll s2.heap (a :: as)) (by rw [← hA];exact hfr) (fun b o q=>PySem.W.of_hideAll _ q) (PySem.W.hideAll_none _ (.head _)) hff fun h'' x1 x4 => ?_
  rw [hc,hdt] at x1
  have base:=I.base
  rw [hs0,hH0,hfs,hex] at base
  have na:∀ b o,s.heap.get? b=some o→b≠a:=fun b o q z=>by subst z;rw [new] at q;cases q
  refine ⟨a,C,d,del H2 a,_,rfl,?_,I.bare,⟨x1,?_,fun b o q n hb => ?_,fun b o q hb => ?_,fun b o q n hb => ?_,fun b o q n => ?_,fun b xs q => ?_,fun b o u q => ?_,fun b ps q => ?_⟩,hE⟩
  · show s2.os=_;rw [← hs0];exact I.os
  · intro c o q
    have hk:=I.hok
    rw [hp,hw] at hk
    have hca:c≠a:=fun z=>by subst z;rw [Qea] at q;cases q
    rw [del_ne hca] at q
    refine (hk c o q).stay (fun b u hb z=>PySem.W.hideAll_get _ z fun hm => ?_) (fun b z => ?_) fun b xs z => ?_
    · rcases List.mem_cons.mp hm with rfl | hm
      · rcases hb with z | hb
        · exact hca z.symm
        · obtain ⟨φ,z⟩:=hx _ hb;cases z
      · rcases hb with rfl | hb
        · rw [hfree b hm] at q;cases q
        · rw [hfree b hm] at hb;cases hb
    · rw [del_ne (fun y=>by subst y;obtain ⟨φ,y⟩:=hx _ z;cases y)];exact z
    · rw [del_ne (fun y=>by subst y;obtain ⟨φ,y⟩:=hx _ z;cases y)];exact z
  · exact PySem.W.hideAll_get _ (base.keep b o q n hb (by simp)) (hold b o q hb)
  · obtain ⟨o',z⟩:=base.there b o q (by simp)
    exact ⟨o',PySem.W.hideAll_get _ z (hold b o q hb)⟩
  · obtain ⟨sl,z⟩:=base.slot b o q n hb (by simp)
    have hf2:=I.funs
    rw [hou] at hf2
    obtain ⟨_,o2,z2,nf⟩:=hf2.mem hb
    rw [z] at z2;cases z2
    obtain ⟨sl2,z3⟩:=x4 b _ z nf
    exact ⟨sl2,z3⟩
  · rw [del_ne (na b o q)];exact base.free b o q n (by simp)
  · have:=base.tups b xs q
    rw [del_ne (fun y=>by subst y;obtain ⟨φ,y⟩:=hx _ this;cases y)];exact this
  · have:=base.frzs b o u q
    rw [del_ne (fun y=>by subst y;obtain ⟨φ,y⟩:=hx _ this;cases y)];exact this
  · obtain ⟨more,this⟩:=base.tbls b ps q
    exact ⟨more,by rw [del_ne (fun y=>by subst y;obtain ⟨φ,y⟩:=hx _ this;cases y)];exact this⟩
theorem Qcz (I:Inv (cxOf (CX2 P w) P w K mg base N qual scope f cd A outer s H E) pins σ H2 s2) (hob:s2.heap.get? a=some ob) (hc:ob.cls = .ref C) (hdt:ob.dict=d) (hdd:ob.data = .fields vs) (h1:vs[1]?=some .none) (new:s.heap.get? a=none) (hx:∀ o,H2 a=some o→∃ φ,o = .ext φ)
    (hE:E (.ref C) d (del H2 a)):(cxOf (CX2 P w) P w K mg base N qual scope f cd A outer s H E).xe (.ref a) s2 :=
  Qed I hob hc hdt hdd h1 new hx hE fun B hfr st nw fu land=>Qbv (L:=s.heap.objs.size) hfr rfl st nw fu hob hdd h1 land
end
section
variable {M:Model} {A:Around} {E:Value→Shared→Prop} {s:Shared} {K:PySem.W.Frag} {env:Env}
theorem QgM {x:Sem Value} {Q:Flow→Shared→Prop} (hh:A.handled=none)
    (h:wpAny M A x (fun v s1=>∃ a C t d,v = .ref a∧s1.heap.get? a=some { cls := .ref C,dict:=d,data := .fields #[.ref t,.none,.none,.none,.bool false,.none] }∧K.In s1.heap∧mroIn K C (.type "BaseException")=some true∧typeIn K (.ref C)=some (.type "type")∧E (.ref a) s1) E s):wpAny M A (raiseStmt env (some x) none) Q E s:=by
  unfold raiseStmt
  refine wpAny_bind (wpAny_mono h (fun v s1 h1 => ?_) fun _ _ z=>z)
  obtain ⟨a,C,t,d,rfl,he,X,hm,ht,hE⟩:=h1
  have L1:=looks_mroIn (M:=M) X hm
  have L2:=looks_typeIn (M:=M) X ht
  obtain ⟨hp,g,dr,tk,os⟩:=s1
  repeat (first | with_reducible refine wpAny_loadPart_at he ?_ | with_reducible refine Looks.at L1 ?_ | with_reducible refine Looks.at L2 ?_ | wp_step)
  exact wpAny_raiseNew_none hh hE
end
end L2

namespace L2
open PySem PySem.Spec PySem.Calls PyProof.Rows PySem.W L2.PM
noncomputable def QdW (X:Cx) (E:XK):Prop:=∀ (pins:List (Addr×Obj)) (σ:St) (H:Hp) (s:Shared) (a C:Addr) (d:Option Addr) (ob:Obj) (vs:Array Value),Inv X pins σ H s→s.heap.get? a=some ob→ob.cls = .ref C→ob.dict=d→ob.data = .fields vs→vs[1]?=some .none→X.s₀.heap.get? a=none →
  (∀ o,H a=some o→∃ φ,o = .ext φ)→E (.ref C) d (del H a)→X.xe (.ref a) s
theorem Qad {P:Program} {w:World} {K:PySem.W.Frag} {mg:Str→Option Value} {base:Heap} {N:List Str} {qual:Str} {scope:Scope} {f:Addr} {cd:Value} {A:Around} {outer:List Env} {s:Shared} {H:Hp} {E:XK} :
    QdW (cxOf (CX2 P w) P w K mg base N qual scope f cd A outer s H E) E:=fun _ _ _ _ _ _ _ _ _ I h1 h2 h3 h4 h5 h6 h7 q=>Qcz I h1 h2 h3 h4 h5 h6 h7 q
noncomputable def sRaiseX (C:Addr) (f:Str) (E:XK) (t:TA):TS:=fun _ σ H=>t σ H fun vs H1=>∃ v,vs=[v]∧∀ dx,H1 dx=none→E (.ref C) (some dx) (upd H1 dx (.xd [(f,v)]))
section
variable {X:Cx} {x f:Str} {np cpos pos:Pos} {e:Expr} {es:List Expr} {C:Addr} {E:XK} {t:TA} {k:Nat}
theorem QgO (hx:QdW X E) (hex:X.ex=[]) (M:XMk X C f k) (hr:Room (k + 1) X.A) (hg:Gl X x) (hm:X.mg x=some (.ref C)) (hb:mroIn X.K C (.type "BaseException")=some true) (ht:typeIn X.K (.ref C)=some (.type "type")) (ha:PA X (e :: es) t)
    (hdb:(x==("__debug__":Str))=false:=by decide) (he:starEach (e :: es) X.env=(false,eval e X.env) :: starEach es X.env:=by rfl) (hpl:(backTo cpos (starEach es X.env)).any (·.1)=false:=by rfl) :
    PS X (.Raise (some (.Call (.Name x np) (e :: es) [] cpos)) none pos) (sRaiseX C f E t):=by
  intro pins s σ H D I h
  rw [arm_exec_Raise]
  refine wpAny_bind (wpAny_standAt (QgM (K:=X.K) hr.hd (wpAny_bind (wpAny_mono (wpAny_Call_Name_kw (Xm I hg hm ?_ hdb)) (fun v s3 h3=>wpAny_bind (wpAny_standAt (wpAny_pure h3))) fun _ _ z=>z))))
  refine PySem.W.callWith_K (h₀:=X.base) I.ok.mod.kin M.kp (thn (ha cpos pins s σ H _ I h) fun us s1 ⟨vs,H1,I1,r,v,e1,q⟩=>⟨I1.kIn,?_⟩) he hpl
  subst e1
  obtain ⟨u,rfl,ru⟩:∃ u,us=[u]∧RelV v u:=by
    cases r with
    | cons p q=>cases q;exact ⟨_,rfl,p⟩
  refine QcW M hr I1 ru fun a dx t s2 nw n1 n2 n3 I2 raw=>⟨a,C,t,some dx,rfl,raw,I2.kIn,hb,ht,?_⟩
  have h0:X.s₀.heap.get? a=none:=by
    cases z:X.s₀.heap.get? a with
    | none=>rfl
    | some o =>
      obtain ⟨o',z2⟩:=I1.base.there a o z (by rw [hex];simp)
      rw [nw] at z2;cases z2
  refine hx pins σ _ s2 a C (some dx) _ _ I2 raw rfl rfl rfl rfl h0 (fun o z => ?_) ?_
  · rw [Qp] at z;cases z;exact ⟨_,rfl⟩
  · rw [del_upd (by rw [Qk n3.symm];exact n1)]
    exact q dx n2
end
theorem Inv.track {X:Cx} {pins:List (Addr×Obj)} {σ:St} {H:Hp} {s:Shared} {a:Addr} {o:HO} (I:Inv X pins σ H s) (ok:Ym X.prog X.w (upd H a o) s.heap a o) (hn:H a=none) (h0:X.s₀.heap.get? a=none) (hl:a≠X.env.locals) (hc:∀ x c,X.env.cells.lookup x=some c→c≠a) (hp:∀ p∈X.pn++pins,p.1≠a):Inv X pins σ (upd H a o) s:=by
  have ne:∀ b ob,X.s₀.heap.get? b=some ob→b≠a:=fun b ob q z=>by subst z;rw [h0] at q;cases q
  have nH:∀ b u,H b=some u→b≠a:=fun b u q z=>by subst z;rw [hn] at q;cases q
  refine ⟨I.ok,I.os,I.bare,⟨I.base.keep,I.base.slot,fun b ob q n x=>by rw [Qk (ne b ob q)];exact I.base.free b ob q n x,I.base.there,fun b xs q => ?_,fun b ob u q => ?_,fun b ps q => ?_⟩,I.loc,I.cell,by rw [Qk hl.symm];exact I.free,fun x c q=>by rw [Qk (hc x c q)];exact I.freeC x c q,fun p q => ?_,fun b u q => ?_,I.len⟩
  · have:=I.base.tups b xs q;rw [Qk (nH b _ this)];exact this
  · have:=I.base.frzs b ob u q;rw [Qk (nH b _ this)];exact this
  · obtain ⟨m,this⟩:=I.base.tbls b ps q;exact ⟨m,by rw [Qk (nH b _ this)];exact this⟩
  · obtain ⟨z1,z2,z3⟩:=I.pin p q
    exact ⟨z1,by rw [Qk (hp p q)];exact z2,z3⟩
  · by_cases hb:b=a
    · subst hb;rw [Qp] at q;cases q;exact ok
    · rw [Qk hb] at q
      exact (I.hok b u q).stay (fun _ _ _ z=>z) (fun c z=>by rw [Qk (nH c _ z)];exact z) fun c xs z=>by rw [Qk (nH c _ z)];exact z
noncomputable def Cx.inH (X:Cx) (a:Addr):Cx:={ X with A:=X.A.mark (some (.ref a)),calm:=false,xe:=fun _ _=>False }
section
variable {X:Cx} {pins:List (Addr×Obj)} {σ:St} {H:Hp} {s:Shared} {a:Addr}
theorem Inv.inH (I:Inv X pins σ H s):Inv (X.inH a) pins σ H s :=
  have ok:=I.ok
  ⟨⟨ok.mod,ok.kind,ok.glob,ok.blt,ok.above,ok.inj,ok.has,ok.cab,(fun z=>nomatch z),ok.frames,ok.stk,ok.exf,ok.bs,ok.bsz,ok.noex,ok.exfs,ok.funs,ok.frf⟩,I.os,I.bare,I.base,I.loc,I.cell,I.free,I.freeC,I.pin,I.hok,I.len⟩
theorem Inv.outH (I:Inv (X.inH a) pins σ H s) (ok:X.Ok):Inv X pins σ H s:=⟨ok,I.os,I.bare,I.base,I.loc,I.cell,I.free,I.freeC,I.pin,I.hok,I.len⟩
theorem Qdd {M:Model} {A:Around} {E:Value→Shared→Prop} {i:Nat} {n:Str} {pos:Pos} {Q:Unit→Shared→Prop} (I:Inv X pins σ H s) (hN:X.N.Nodup) (hi:X.N[i]?=some n) (hl:X.env.scope.names.lookup n=some .local)
    (h:∀ s',Inv X pins (σ.set i none) H s'→Q () s'):wpAny M A (do bindName X.env n .none;unbindBehindTheSuite X.env n pos) Q E s:=by
  obtain ⟨m,hn,hlk⟩:=id I.loc
  have cne:=I.cne
  have low:∀ b o,X.s₀.heap.get? b=some o→b≠X.env.locals:=fun b o e=>Nat.ne_of_lt (Nat.lt_of_lt_of_le (Heap.lt_size e) I.ok.above)
  refine wpAny_nameGoes_keeps hl hn (by rw [I.ok.kind];rfl) fun h' v hn' hs=>h _ ?_
  refine ⟨I.ok,I.os,I.bare,⟨fun b o e n hb hx=>(hs.2 b (low b o e)).trans (I.base.keep b o e n hb hx),fun b o e n hb hx => ?_,I.base.free,fun b o e hx => ?_,I.base.tups,I.base.frzs,I.base.tbls⟩,⟨_,hn',fun j y v' e1 e2 e3 => ?_⟩,fun y c e => ?_,I.free,I.freeC,fun p hp => ?_,fun b ob e => ?_,by simpa using I.len⟩
  · obtain ⟨sl,e1⟩:=I.base.slot b o e n hb hx
    exact ⟨sl,(hs.2 b (low b o e)).trans e1⟩
  · obtain ⟨o',e1⟩:=I.base.there b o e hx
    exact ⟨o',(hs.2 b (low b o e)).trans e1⟩
  · have hj:j≠i:=fun z=>by
      subst z
      rw [List.getElem?_set] at e2
      simp at e2
    rw [List.getElem?_set_ne (Ne.symm hj)] at e2
    obtain ⟨u,r,q⟩:=hlk j y v' e1 e2 e3
    refine ⟨u,r,?_⟩
    rcases q with ⟨k,e⟩ | ⟨k,c,e,z⟩
    · have:y≠n:=fun e'=>hj (Qcp hN e1 (e' ▸ hi))
      exact .inl ⟨k,by simp [this,e]⟩
    · exact .inr ⟨k,c,e,z.sameBut hs (cne y c e)⟩
  · obtain ⟨w',z⟩:=I.cell y c e
    exact ⟨w',z.sameBut hs (cne y c e)⟩
  · obtain ⟨e,n,ne,nf,d⟩:=I.pin p hp
    exact ⟨(hs.2 p.1 ne).trans e,n,ne,nf,d⟩
  · refine (I.hok b ob e).stay (fun c w' hc q=>(hs.2 c fun z => ?_).trans q) (fun _ q=>q) fun _ _ q=>q
    subst z
    rcases hc with z | z
    · rw [← z,I.free] at e;cases e
    · rw [I.free] at z;cases z
structure XCat (K:PySem.W.Frag) (D:Addr):Prop where
  cl:XCl K D
  ty:PySem.W.typeIn K (.ref D)=some (.type "type")
noncomputable def QfY (X:Cx) (D:Addr) (sts:List Stmt) (i:Nat) (Ds:Ends) (σ:St):XK:=fun cls d H'=>∃ C dx,cls = .ref C∧d=some dx∧PySem.W.mroIn X.K C (.ref D)=some true∧∀ a,H' a=none→∃ t,PSs (X.inH a) sts t ∧
  t { nx:=fun σ' H''=>Ds.nx (σ'.set i none) H'',rt:=Ds.rt,bk:=fun σ' H''=>Ds.bk (σ'.set i none) H'',ct:=fun σ' H''=>Ds.ct (σ'.set i none) H'' } (σ.set i (some (.ref a))) (upd H' a (excO a C dx))
variable {s':Shared} {e:Value} {x n:Str} {np pos:Pos} {D:Addr} {b₀:Stmt} {suite:List Stmt} {rest:List ExceptHandler} {i:Nat} {Ds:Ends}
theorem caughtX (I:Inv X pins σ H s) (hst:X.stack=X.env :: X.outer) (hfm:X.env.frame=some X.env.locals) (hex:X.ex=[]) (hcx:CX2 X.prog X.w X.stack H s (QfY X D (b₀ :: suite) i Ds σ) e s')
    (hg:Gl X x) (hm:X.mg x=some (.ref D)) (hD:XCat X.K D) (hN:X.N.Nodup) (hi:X.N[i]?=some n) (hl:X.env.scope.names.lookup n=some .local) (hdb:(x==("__debug__":Str))=false:=by decide) :
    wpAny (model X.prog X.w) X.A (noteFrame e X.env) (fun _ s₂=>wpAny (model X.prog X.w) X.A (setFlight e none) (fun _ s₃ =>
      wpAny (model X.prog X.w) X.A (handleBy e X.env (.ExceptHandler (some (.Name x np)) (some n) (b₀ :: suite) pos :: rest)) (SP X pins Ds) X.xe s₃) X.xe s₂) X.xe s':=by
  obtain ⟨a,C,d,H',B,rfl,ho,hb,F,C',dx,hC,hd,hsub,hE⟩:=hcx
  cases hC
  subst hd
  have hfr:=I.ok.frames
  have fl:=F.fl
  rw [hst] at hfr fl
  refine fly_next hfr hfm fl fun h4 held sm4=>QdN (s:={ s' with heap:=h4 }) held fun h5 fl5 sm5 => ?_
  rw [← hst] at fl5
  have F5:=F.on fl5 (sm4.trans sm5)
  have old:s.heap.get? a=none:=by
    cases z:s.heap.get? a with
    | none=>rfl
    | some o =>
      by_cases hm:a∈frs X.stack
      · obtain ⟨oe,vs,he,_,_,hdd⟩:=F5.fl.obj
        obtain ⟨_,o2,z2,nf⟩:=F5.fl.fun_.mem hm
        rw [he] at z2;cases z2
        exact absurd hdd (nf vs)
      · obtain ⟨o',z2⟩:=F.there a o z hm
        rw [F.fl.new] at z2;cases z2
  have old0:X.s₀.heap.get? a=none:=by
    cases z:X.s₀.heap.get? a with
    | none=>rfl
    | some o =>
      obtain ⟨o',z2⟩:=I.base.there a o z (by rw [hex];simp)
      rw [old] at z2;cases z2
  have mk:∀ h6,FlyX X.prog X.w X.stack H s.heap H' B a C (some dx) h6→∃ oe,h6.get? a=some oe∧oe.cls = .ref C∧Inv X pins σ (upd H' a (excO a C dx)) { s' with heap:=h6 }:=fun h6 F6=>by
    have I6:Inv X pins σ H' { s' with heap:=h6 }:=I.call' ho (F6.un I.stkFree) F6.hok hb (fun _ z=>nomatch z)
    obtain ⟨oe,vs,he,hc,hd1,hd2⟩:=F6.fl.obj
    refine ⟨oe,he,hc,I6.track (Qgu he hc hd1 hd2) F6.new old0 (fun z => ?_) (fun y c q z => ?_) (fun p hp z => ?_)⟩
    · obtain ⟨m,⟨o2,_,_,z2,z3,_⟩,_⟩:=I6.loc
      rw [← z,he] at z2;cases z2
      rw [hd2] at z3;cases z3
    · obtain ⟨w',o2,z2,z3⟩:=I6.cell y c q
      rw [z,he] at z2;cases z2
      rw [hd2] at z3;cases z3
    · have:=(I.pin p hp).1
      rw [z,old] at this;cases this
  obtain ⟨oe5,he5,hc5,I5⟩:=mk h5 F5
  refine wpAny_handleBy_cons (codeAny_handlers_test (Xm (X:=X.inH a) I5.inH hg hm (Qhm I5.kIn ⟨oe5,he5,hc5⟩ hD.cl hD.ty hsub ?_) hdb)) (by intro q;cases q)
  refine codeAny_handlers_suite_as (QdN (s:={ s' with heap:=h5 }) F5.fl fun h6 fl6 sm6 => ?_)
  obtain ⟨oe,he,hc,I6⟩:=mk h6 (F5.on fl6 sm6)
  obtain ⟨t,ht,q⟩:=hE a F.new
  refine QaJ (X:=X.inH a) (v := .ref a) I6.inH hN hi (.inl hl) rfl (fun s7 I7 => ?_) (.inr hl)
  refine wpAny_mono (ht pins s7 _ _ _ I7 q) (fun f s8 z => ?_) fun _ _ z=>z.elim
  cases f with
  | ret u =>
    obtain ⟨v,σ',H'',J,r,q⟩:=z
    exact Qdd (J.outH I.ok) hN hi hl fun s9 J9=>⟨v,_,H'',J9,r,q⟩
  | _ =>
    obtain ⟨σ',H'',J,q⟩:=z
    exact Qdd (J.outH I.ok) hN hi hl fun s9 J9=>⟨_,H'',J9,q⟩
end
noncomputable def QXE (X:Cx) (e:Expr) (t:XK→TE):Prop:=∀ (pins:List (Addr×Obj)) (s:Shared) (σ:St) (H:Hp) (Q:VK) (E:XK),Inv X pins σ H s →
  (∀ H1 s1 e s2,Inv X pins σ H1 s1→CX2 X.prog X.w X.stack H1 s1 E e s2→X.xe e s2)→t E σ H Q→wpAny (model X.prog X.w) X.A (eval e X.env) (EP X pins σ Q) X.xe s
noncomputable def QX (X:Cx) (st:Stmt) (t:(St→XK)→TS):Prop:=∀ (pins:List (Addr×Obj)) (s:Shared) (σ:St) (H:Hp) (D:Ends) (E:St→XK),Inv X pins σ H s →
  (∀ σ1 H1 s1 e s2,Inv X pins σ1 H1 s1→CX2 X.prog X.w X.stack H1 s1 (E σ1) e s2→X.xe e s2)→t E D σ H→wpAny (model X.prog X.w) X.A (exec st X.env) (SP X pins D) X.xe s
noncomputable def QXs (X:Cx) (sts:List Stmt) (t:(St→XK)→TS):Prop:=∀ (pins:List (Addr×Obj)) (s:Shared) (σ:St) (H:Hp) (D:Ends) (E:St→XK),Inv X pins σ H s →
  (∀ σ1 H1 s1 e s2,Inv X pins σ1 H1 s1→CX2 X.prog X.w X.stack H1 s1 (E σ1) e s2→X.xe e s2)→t E D σ H→wpAny (model X.prog X.w) X.A (execs sts X.env) (SP X pins D) X.xe s
section
variable {X:Cx} {st:Stmt} {sts:List Stmt} {k:Nat} {f C:Addr} {fd:FuncData} {ps ks:List Str} {sp:Sp} {dvs:List V} {ds:List Value} {x m:Str} {p pos apos:Pos} {e o:Expr} {es:List Expr} {ta:TE} {t tk:TA} {kws:List Keyword} {g:List Value→List Value→List Value} {gV:List V→List V→List V}
theorem QXs.imp {t t':(St→XK)→TS} (h:QXs X sts t) (i:∀ E D σ H,t' E D σ H→t E D σ H):QXs X sts t':=fun pins s σ H D E I hx q=>h pins s σ H D E I hx (i E D σ H q)
theorem QX.imp {t t':(St→XK)→TS} (h:QX X st t) (i:∀ E D σ H,t' E D σ H→t E D σ H):QX X st t':=fun pins s σ H D E I hx q=>h pins s σ H D E I hx (i E D σ H q)
theorem qxs_one {t:(St→XK)→TS} (h:QX X st t):QXs X [st] t:=fun pins s σ H D E I hx q=>wpAny_execs_cons (thn (h pins s σ H D E I hx q) fun f s1 q=>by
  cases f with
  | next=>exact wpAny_execs_nil q
  | _=>exact q)
theorem qx_if {c:Expr} {xs ys:List Stmt} {tc:TT} {t u:(St→XK)→TS} (hc:PT X c tc) (ha:QXs X xs t) (hb:QXs X ys u):QX X (.If c xs ys pos) (fun E=>tIfS tc (t E) (u E)):=fun pins s σ H D E I hx h =>
  wpAny_If (thn (hc pins s σ H _ I h) fun d s1 ⟨H1,I1,q1⟩=>by
    cases d with
    | true=>exact ha pins s1 σ H1 D E I1 hx q1
    | false=>exact hb pins s1 σ H1 D E I1 hx q1)
theorem qx_set {i:Nat} {te:XK→TE} {pos':Pos} (hN:X.N.Nodup) (hi:X.N[i]?=some x) (hx:Loc X.env.scope x) (he:QXE X e te) (hs:swapsWith e (some (.Name x pos')) pos.line X.env=pure false:=by rfl) (hf:X.fn x=true∨X.env.scope.names.lookup x=some .local:=by first | exact .inl rfl | exact .inr rfl | assumption) :
    QX X (.Assign [.Name x pos'] e pos) (fun E D σ H=>tAsg (te (E σ)) (Qdw i) D σ H):=fun pins s σ H D E I hxx h =>
  wpAny_Assign_Name (thn (he pins s σ H _ (E σ) I (fun H1 s1 e s2=>hxx σ H1 s1 e s2) h) fun v s1 ⟨y,H1,I1,r1,q1⟩=>QaJ I1 hN hi hx r1 (fun s2 I2=>⟨_,H1,I2,q1⟩) hf) hs
theorem Qge {pins:List (Addr×Obj)} {σ:St} {H:Hp} {s:Shared} {Q:VK} {us ws:List Value} {vs zs:List V} {E:XK} (F:FnOk X.prog X.w X.K X.mg X.base (CX2 X.prog X.w) k f fd ps sp) (hr:Room k X.A) (hb:KBinds X.K fd ps ks g gV)
    (I:Inv X pins σ H s) (hx:∀ e s2,CX2 X.prog X.w X.stack H s E e s2→X.xe e s2) (r:Vals vs us) (rz:Vals zs ws) (h:sp (gV vs zs) H Q E):wpAny (model X.prog X.w) X.A (call (.ref f) us (ks.zip ws)) (EP X pins σ Q) X.xe s:=by
  have r2:=hb.rel r rz
  have hl:(g us ws).length=ps.length:=by rw [← r2.length];exact F.len _ _ _ _ h
  refine wpAny_call (codeAny_mono (F.run X.A X.stack s H ⟨us,ks.zip ws⟩ (g us ws) (gV vs zs) Q E hr I.env0 (hb.to s us ws I.kIn hl) r2 h) fun r s' hq => ?_)
  rcases r with e | (_ | _ | _ | u)
  · exact hx e s' hq
  all_goals first | exact I.after hq | exact False.elim hq
theorem QgZ (hb:Yz X.K fd ps ds) (hd:Vals dvs ds):KBinds X.K fd ps [] (fun us _=>us++ds) (fun vs _=>vs++dvs):=⟨fun s us _ X hl=>hb s us X hl,fun r _=>r.append hd⟩
theorem qxe_call (F:FnOk X.prog X.w X.K X.mg X.base (CX2 X.prog X.w) k f fd ps sp) (hr:Room k X.A) (hg:Gl X x) (hm:X.mg x=some (.ref f)) (hk:PySem.W.keepIn X.K (.ref f)=true) (hb:Yz X.K fd ps ds) (hd:Vals dvs ds)
    (ha:PA X (e :: es) t) (hdb:(x==("__debug__":Str))=false:=by decide) (he:starEach (e :: es) X.env=(false,eval e X.env) :: starEach es X.env:=by rfl) (hpl:(backTo pos (starEach es X.env)).any (·.1)=false:=by rfl) :
    QXE X (.Call (.Name x p) (e :: es) [] pos) (fun E=>Qhw sp dvs E t):=by
  intro pins s σ H Q E I hx h
  refine wpAny_Call_Name_kw (Xm I hg hm ?_ hdb)
  refine PySem.W.callWith_K (h₀:=X.base) I.ok.mod.kin hk (thn (ha pos pins s σ H _ I h) fun us s1 ⟨vs,H1,I1,r,q⟩=>⟨I1.kIn,?_⟩) he hpl
  exact Qge (ws:=[]) (zs:=[]) F hr (QgZ hb hd) I1 (fun e s2=>hx H1 s1 e s2 I1) r .nil q
theorem QgN (F:FnOk X.prog X.w X.K X.mg X.base (CX2 X.prog X.w) k f fd ps sp) (hr:Room k X.A) (hg:Gl X x) (hm:X.mg x=some (.ref f)) (hk:PySem.W.keepIn X.K (.ref f)=true) (hb:KBinds X.K fd ps ks g gV)
    (ha:PA X (e :: es) t) (hkw:PK X kws tk) (hall:(backToKw pos (keywordEach kws X.env)).all (·.1.isSome)=true:=by rfl) (hks:(backToKw pos (keywordEach kws X.env)).filterMap (·.1)=ks:=by rfl)
    (hdb:(x==("__debug__":Str))=false:=by decide) (he:starEach (e :: es) X.env=(false,eval e X.env) :: starEach es X.env:=by rfl)
    (hpl:((backTo pos (starEach (e :: es) X.env)).any (·.1)||(backToKw pos (keywordEach kws X.env)).any (·.1.isNone))=false:=by rfl) :
    QXE X (.Call (.Name x p) (e :: es) kws pos) (fun E=>tCallK sp gV E t tk):=by
  intro pins s σ H Q E I hx h
  refine wpAny_Call_Name_kw (Xm I hg hm ?_ hdb)
  refine PySem.W.callWith_KW (h₀:=X.base) I.ok.mod.kin hk hall (thn (ha pos pins s σ H _ I h) fun us s1 ⟨vs,H1,I1,r,q⟩=>thn (hkw pos pins s1 σ H1 _ I1 q) fun ws s2 ⟨zs,H2,I2,rz,q2⟩=>⟨I2.kIn,?_⟩) hpl he
  rw [hks]
  exact Qge F hr hb I2 (fun e s3=>hx H2 s2 e s3 I2) r rz q2
theorem ps_tryX {body suite:List Stmt} {b₀:Stmt} {rest:List ExceptHandler} {i:Nat} {n:Str} {np hpos:Pos} {D:Addr} {tb:(St→XK)→TS} (hst:X.stack=X.env :: X.outer) (hfm:X.env.frame=some X.env.locals) (hex:X.ex=[]) (hb:∀ xe,QXs (X.wish xe) body tb)
    (hg:Gl X x) (hm:X.mg x=some (.ref D)) (hD:XCat X.K D) (hN:X.N.Nodup) (hi:X.N[i]?=some n) (hl:X.env.scope.names.lookup n=some .local) (hdb:(x==("__debug__":Str))=false:=by decide) :
    PS X (.Try body (.ExceptHandler (some (.Name x np)) (some n) (b₀ :: suite) hpos :: rest) [] [] pos) (fun Ds σ H=>tb (fun σ'=>QfY X D (b₀ :: suite) i Ds σ') Ds σ H):=by
  intro pins s σ H Ds I h
  have w:=hb (fun e s₁=>wpAny (model X.prog X.w) X.A (noteFrame e X.env) (fun _ s₂=>wpAny (model X.prog X.w) X.A (setFlight e none) (fun _ s₃=>wpAny (model X.prog X.w) X.A (handleBy e X.env (.ExceptHandler (some (.Name x np)) (some n) (b₀ :: suite) hpos :: rest)) (SP X pins Ds) X.xe s₃) X.xe s₂) X.xe s₁)
    pins s σ H Ds (fun σ'=>QfY X D (b₀ :: suite) i Ds σ') (I.wish _) (fun σ1 H1 s1 e s2 J hcx=>caughtX J.unwish hst hfm hex hcx hg hm hD hN hi hl hdb) h
  refine wpAny_Try_except (thn w fun fl s1 q => ?_)
  have q:=q.unwish
  cases fl with
  | next=>exact wpAny_execs_nil q
  | _=>exact q
end
end L2

namespace L2
open PySem PySem.Spec PySem.Calls PyProof.Rows PySem.W PySem.Builtin PySem.Builtin.ObjectAttr PySem.Builtin.Getset_descriptor L2.PM
section
variable {prog:Program} {w:World} {A:Around} {E:Value→Shared→Prop} {s:Shared} {K:Frag} {x D:Addr} {ox:Obj} {od:Option Obj} {name:Str} {v:Value}
theorem xget {expr:Bool} {Q:Value→Shared→Prop} (X:K.In s.heap) (I:InstAt s.heap x ox D od) (C:XCl K D) (hf:findObj K D od name=some (.value v)) (hv:handedIn v=true) (hq:Q v { s with toks:=s.toks + 1 }):wpAny (model prog w) A (getAttr (.ref x) name expr) Q E s:=by
  have O:OfC x D s.heap:=⟨ox,I.at_,I.cls⟩
  have L0:=I.type (M:=model prog w)
  have L1:=looks_findIn (M:=model prog w) X C.ga
  have L2:=looks_findIn (M:=model prog w) X C.gn
  have L3:=looks_find (M:=model prog w) X I hf
  obtain ⟨h,g,d,t,os⟩:=s
  have f3:=F.attr_ValueError.ga.bind (.ref x)
  have hx2:(Value.builtin "BaseException.__getattribute__"==Value.builtin "object.__getattribute__")=false:=by decide +kernel
  have hx1:(onTheHeap (Value.ref D)&&Value.builtin "BaseException.__getattribute__"==Value.builtin "object.__getattribute__")=false:=by rw [hx2];rfl
  unfold getAttr getAttrBy
  refine wpAny_bind (wpAny_mkText (wpAny_holding (wpAny_bind (L0.at (wpAny_bind (L1.at ?_))))))
  dsimp only
  rw [if_neg (by rw [hx1];decide)]
  repeat (any_goals (first | assumption | with_reducible refine Looks.at L2 ?_ | with_reducible refine Looks.at L0 ?_ | wp_step))
  rw [if_neg (by cases expr <;> decide +kernel)]
  repeat (any_goals (first | assumption | with_reducible refine Looks.at L0 ?_ | wp_step))
  refine codeAny_call_builtin F.attr_ValueError.ga.plain F.entry_bexc_ga (Qep (s:=⟨h,g,d,t + 1,os⟩) X O C ?_)
  show wpAny _ _ (Builtin.«object.__getattribute__» ⟨[.ref x,.str name t],[]⟩) _ _ _
  unfold Builtin.«object.__getattribute__»
  repeat (any_goals (first | assumption | with_reducible refine Looks.at L3 ?_ | with_reducible refine Looks.at L0 ?_ | wp_step))
  show wpAny _ _ (handedOut v) _ _ _
  rw [handedOut_of hv];exact wpAny_pure hq
end
structure XFld (K:Frag) (C:Addr) (f:Str):Prop where
  cl:XCl K C
  no:findIn K (.ref C) f=some none
  hd:hasDictIn K C=true
noncomputable def tXFld (K:Frag) (f:Str) (ta:TE):TE:=fun σ H Q=>ta σ H fun x H1=>∃ a C dx fs v,x = .ref a∧ObjAt K H1 a C dx fs∧XFld K C f∧fs.lookup f=some v∧Q v H1
section
variable {X:Cx} {e:Expr} {f:Str} {pos:Pos} {ta:TE}
theorem QbR {P:Program} {w:World} {H:Hp} {h:Heap} {K:Frag} {a C dx:Addr} {fs:List (Str×V)} (x:ObjAt K H a C dx fs) (hok:HOk P w H h):∃ (ox od:Obj) (mA:Str→Option Value),W.InstAt h a ox C (some od)∧(∀ name,lookIn name od=some (mA name))∧∀ f,RelO (fs.lookup f) (mA f):=by
  cases x with
  | ins h1 h2 =>
    obtain ⟨mA,O,r,_⟩:=ins_get hok h1
    obtain ⟨od,J,l⟩:=O.look
    exact ⟨_,od,mA,J,l,r⟩
  | exc h1 h2 h3 =>
    obtain ⟨⟨o,vs,k1,k2,k3,k4⟩,_⟩:=hok _ _ h1
    obtain ⟨mA,n,r⟩:=hok _ _ h2
    obtain ⟨od,ho,l⟩:=Qde n
    exact ⟨o,od,mA,⟨k1,k2,by unfold notCls;rw [k4],by rw [k3];exact ho⟩,l,r⟩
theorem pe_xfld (he:PE X e ta) (hb:attributeBase e f X.env (eval e X.env)=eval e X.env:=by rfl):PE X (.Attribute e f pos) (tXFld X.K f ta):=by
  intro pins s σ H Q I h
  refine attr_of hb (thn (he pins s σ H _ I h) fun u s1 ⟨x,H1,I1,rx,a,C,dx,fs,v,ex,ea,c,l,q⟩ => ?_)
  subst ex
  obtain rfl:u=Value.ref a:=rx
  obtain ⟨ox,od,mA,J,lk,r⟩:=QbR ea I1.hok
  obtain ⟨u',hu,ru⟩:=RelO.some_of (v:=v) (o:=mA f) (by rw [← l];exact r f)
  exact xget I1.kIn J c.cl (findObj_own c.hd c.no rfl (by rw [lk,hu])) (Qhf ru) ⟨v,H1,I1.tok _,ru,q⟩
end
structure XIs (K:Frag) (C:Addr) (d:Value) (b:Bool):Prop where
  cl:XCl K C
  one:kitOne K (.ref C) d=some b
theorem QeT {X:Cx} {d:Value} {dv:V} (hd:∀ u,RelV dv u→u=d):Xj X (.builtin "isinstance") (fun vs H Q=>∃ a C dx fs b,vs=[.ref a,dv]∧ObjAt X.K H a C dx fs∧XIs X.K C d b∧Q (.bl b) H):=by
  intro pins s σ H vs us Q I rs h1
  obtain ⟨a,C,dx,fs,b,rfl,o,h,h2⟩:=h1
  obtain ⟨u,w',rfl,ru,rw'⟩:=vals2 rs
  obtain rfl:=hd _ rw'
  obtain rfl:u=Value.ref a:=ru
  obtain ⟨ox,od,mA,J,_⟩:=QbR o I.hok
  exact kia_one (QeI h.cl) I.kIn ⟨ox,J.at_,J.cls⟩ h.one (fun z=>nomatch z) fun tk=>⟨.bl b,H,I.tok tk,rfl,h2⟩
end L2

noncomputable section
namespace L2.PM
open PySem PySem.Spec PyProof.Rows
section
variable {X:Cx} {e:Expr} {es:List Expr} {ms:List Nat} {m:MEx} {ma:PEnv→Option (List PV)} {C:Addr} {f x:Str} {p p2 p3 pos:Pos} {k:Nat}
theorem QfZ {K:PySem.W.Frag} {F:Hp} {f:Str}:∀ {ks:List Str} {ps:List PV} {vs:List V} {p:PV},ks.length=vs.length→RepL K F ps vs→(ks.zip ps).lookup f=some p→∃ v,(ks.zip vs).lookup f=some v∧Rep K F p v
  | [],_,_,_,_,_,h=>by simp at h
  | k :: ks,[],_,_,_,_,h=>by simp at h
  | k :: ks,q :: ps,vs,p,hl,hr,h=>by
    unfold RepL at hr
    obtain ⟨v,t,rfl,h2,h3⟩:=hr
    simp only [List.zip_cons_cons,List.lookup_cons] at h ⊢
    cases hk:f==k with
    | true=>rw [hk] at h;cases h;exact ⟨v,rfl,h2⟩
    | false=>rw [hk] at h;exact QfZ (by simpa using hl) h3 h
noncomputable def one?:List PV→Option PV
  | [p]=>some p
  | _=>none
noncomputable def Qdu (C:Addr) (f:Str) (ma:PEnv→Option (List PV)):MEx:=fun γ=>(ma γ).bind fun qs=>(one? qs).map fun p => .obj C [f] [p]
theorem Qgk {qs:List PV} {p:PV} (h:one? qs=some p):qs=[p]:=by
  unfold one? at h
  split at h
  · cases h;rfl
  · cases h
theorem QaM {K:PySem.W.Frag} {F:Hp} {p:PV} {vs:List V} (h:RepL K F [p] vs):∃ v,vs=[v]∧Rep K F p v:=by
  unfold RepL at h
  obtain ⟨v,r,rfl,h2,h3⟩:=h
  unfold RepL at h3
  exact ⟨v,by rw [h3],h2⟩
theorem QaX (M:XMk X C f k) (hb:PySem.W.mroIn X.K C (.type "BaseException")=some true) (hr:Room (k + 1) X.A) (hg:Gl X x) (hm:X.mg x=some (.ref C)) (ha:AM X ms (e :: es) ma) (hdb:(x==("__debug__":Str))=false:=by decide)
    (he:starEach (e :: es) X.env=(false,eval e X.env) :: starEach es X.env:=by rfl) (hpl:(backTo pos (starEach es X.env)).any (·.1)=false:=by rfl):EM X ms (.Call (.Name x p) (e :: es) [] pos) (Qdu C f ma) :=
  PE.imp (pe_makeX M hr hg hm ha hdb he hpl) fun σ H Q ⟨F,γ,r,k1,k2,k3,w⟩=>by
    obtain ⟨qs,e1,k3⟩:=Qg k3
    obtain ⟨p,e2,rfl⟩:=QZ k3
    obtain rfl:=Qgk e2
    refine ⟨F,γ,[p],k1,k2,e1,fun vs H' F' g q => ?_⟩
    obtain ⟨v,rfl,rv⟩:=QaM q
    refine ⟨v,rfl,fun a dx n1 n2 n3 => ?_⟩
    have g1:=g.trans (Grow.laid (o := .xd [(f,v)]) g.sub n2)
    have g2:=g1.trans (Grow.laid (p:=a) (o:=excO a C dx) g1.sub (by rw [Qk n3.symm];exact n1))
    refine w _ _ _ g2 ?_
    unfold Rep
    refine ⟨a,dx,[v],rfl,.exc Qp (by rw [Qk n3];exact Qp) hb,rfl,.cons (rv.mono fun b u q => ?_) .nil⟩
    have h1:b≠dx:=Qn (g.sub _ _ q) n2
    have h2:b≠a:=Qn (g.sub _ _ q) n1
    rw [Qk h2,Qk h1];exact q
noncomputable def fldX (Cs:List Addr) (f:Str):PV→Option PV
  | .obj D ks ps=>if Cs.contains D=true then (ks.zip ps).lookup f else none
  | _=>none
noncomputable def QfC (Cs:List Addr) (f:Str) (m:MEx):MEx:=fun γ=>(m γ).bind (fldX Cs f)
theorem QdQ {Cs:List Addr} (h:EM X ms e m) (hall:∀ D,Cs.contains D=true→XFld X.K D f) (hb:attributeBase e f X.env (eval e X.env)=eval e X.env:=by rfl):EM X ms (.Attribute e f pos) (QfC Cs f m) :=
  PE.imp (pe_xfld h hb) fun σ H Q ⟨F,γ,r,k1,k2,k3,w⟩=>by
    obtain ⟨q,e1,e2⟩:=Qg k3
    refine ⟨F,γ,q,k1,k2,e1,fun v H1 F1 g1 q1 => ?_⟩
    cases q with
    | obj D ks ps =>
      have e2:(if Cs.contains D=true then (ks.zip ps).lookup f else none)=some r:=e2
      obtain ⟨hD,e2⟩:=YU e2
      unfold Rep at q1
      obtain ⟨a,dx,vs,rfl,h2,h4,h5⟩:=q1
      obtain ⟨v',l,rv⟩:=QfZ h4 h5 e2
      exact ⟨a,D,dx,_,v',rfl,h2.mono g1.sub,hall D hD,l,w _ _ _ g1 rv⟩
    | _=>cases e2
noncomputable def isX (tab:List (Addr×Bool)):PV→Option PV
  | .obj D _ _=>(tab.lookup D).map .bl
  | _=>none
noncomputable def mIsX (tab:List (Addr×Bool)) (m:MEx):MEx:=fun γ=>(m γ).bind (isX tab)
theorem QeK {tab:List (Addr×Bool)} {d:Value} {dv:V} (hall:∀ D b,tab.lookup D=some b→XIs X.K D d b) {σ:St} {H:Hp} {Q:VK} (z:tM X.K ms (mIsX tab m) σ H Q) :
    tM X.K ms m σ H fun v H1=>∃ a C dx fs b,[v,dv]=[.ref a,dv]∧ObjAt X.K H1 a C dx fs∧XIs X.K C d b∧Q (.bl b) H1:=by
  obtain ⟨F,γ,r,k1,k2,k3,w⟩:=z
  obtain ⟨q,e1,e2⟩:=Qg k3
  refine ⟨F,γ,q,k1,k2,e1,fun v H1 F1 g1 q1 => ?_⟩
  cases q with
  | obj D ks ps =>
    obtain ⟨b,eb,rfl⟩:=QZ (show (tab.lookup D).map PV.bl=some r from e2)
    unfold Rep at q1
    obtain ⟨a,dx,vs,rfl,h2,h4,h5⟩:=q1
    exact ⟨a,D,dx,_,b,rfl,h2.mono g1.sub,hall D b eb,(w.go g1).here g1.sub (ZQ _)⟩
  | _=>cases e2
theorem QR {tab:List (Addr×Bool)} {T:Addr} (hall:∀ D b,tab.lookup D=some b→XIs X.K D (.ref T) b) (h:EM X ms e m) (hg:Gl X "isinstance") (hm:X.mg "isinstance"=none) (hgT:Gl X x) (hmT:X.mg x=some (.ref T))
    (hdb:(x==("__debug__":Str))=false:=by decide)
    (hs1:starEach (e :: [.Name x p3]) X.env=(false,eval e X.env) :: starEach [.Name x p3] X.env:=by rfl) (hs2:starEach [.Name x p3] X.env=(false,eval (.Name x p3) X.env) :: starEach [] X.env:=by rfl) (hpl:(backTo pos (starEach [.Name x p3] X.env)).any (·.1)=false:=by rfl) :
    EM X ms (.Call (.Name "isinstance" p2) [e,.Name x p3] [] pos) (mIsX tab m) :=
  PE.imp (XE (QeT (dv := .ref T) fun _ z=>z) hg hm (by kernel_rfl) (ZX h (ZX (QdH (v := .ref T) hgT hmT rfl hdb) Qbz hs2) hs1) (by decide) (by decide) hs1 hpl) fun σ H Q z=>QeK (dv := .ref T) hall z
theorem Qgv {tab:List (Addr×Bool)} {T:String} (hall:∀ D b,tab.lookup D=some b→XIs X.K D (.type T) b) (h:EM X ms e m) (hg:Gl X "isinstance") (hm:X.mg "isinstance"=none) (hgT:Gl X x) (hmT:X.mg x=none) (hvT:bootBuiltins x=some (.type T))
    (hn:x ≠ "__name__":=by decide) (hdb:(x==("__debug__":Str))=false:=by decide)
    (hs1:starEach (e :: [.Name x p3]) X.env=(false,eval e X.env) :: starEach [.Name x p3] X.env:=by rfl) (hs2:starEach [.Name x p3] X.env=(false,eval (.Name x p3) X.env) :: starEach [] X.env:=by rfl) (hpl:(backTo pos (starEach [.Name x p3] X.env)).any (·.1)=false:=by rfl) :
    EM X ms (.Call (.Name "isinstance" p2) [e,.Name x p3] [] pos) (mIsX tab m) :=
  PE.imp (XE (QeT (dv := .ty T) fun _ z=>z) hg hm (by kernel_rfl) (ZX h (ZX (Qgi (v := .ty T) hgT hmT hvT rfl hn hdb) Qbz hs2) hs1) (by decide) (by decide) hs1 hpl) fun σ H Q z=>QeK (dv := .ty T) hall z
end
noncomputable def Wx (K:PySem.W.Frag) (F H:Hp) (E:XK):PV→Prop
  | .obj C ks ps=>∀ dx vs H' F',Grow F H F' H'→F' dx=some (.xd (ks.zip vs))→ks.length=vs.length→RepL K F' ps vs→E (.ref C) (some dx) H'
  | _=>False
theorem Wx.go {K:PySem.W.Frag} {F H F' H':Hp} {E:XK}:∀ {p:PV},Wx K F H E p→Grow F H F' H'→Wx K F' H' E p:=fun {p} w g=>by
  cases p with
  | obj C ks ps=>exact fun dx vs H2 F2 g2=>w dx vs H2 F2 (g.trans g2)
  | _=>exact w
noncomputable def Wr (K:PySem.W.Frag) (F H:Hp) (Q:VK) (E:XK):PV ⊕ PV→Prop
  | .inl r=>Wv K F H r Q
  | .inr p=>Wx K F H E p
noncomputable def spR (K:PySem.W.Frag) (n:Nat) (g:List PV→Option (PV ⊕ PV)):Sp:=fun vs H Q E=>vs.length=n∧∃ F qs o,Same F H∧RepL K F qs vs∧g qs=some o∧Wr K F H Q E o
noncomputable abbrev MStR:=PEnv→Option (Out ⊕ PV)
noncomputable def OutROk (K:PySem.W.Frag) (B F₀:Hp) (D:Ends) (E:XK):Out ⊕ PV→Prop
  | .inl o=>QhI K B F₀ D o
  | .inr p=>Wx K F₀ B E p
noncomputable def tMR (K:PySem.W.Frag) (E:XK) (m:MStR):TS:=fun D σ H=>∃ B F₀ F γ o,SR K B F₀ F σ H γ∧m γ=some o∧OutROk K B F₀ D E o
noncomputable def RM (X:Cx) (E:XK) (st:Stmt) (m:MStR):Prop:=PS X st (tMR X.K E m)
noncomputable def RMs (X:Cx) (E:XK) (sts:List Stmt) (m:MStR):Prop:=PSs X sts (tMR X.K E m)
section
variable {X:Cx} {E:XK} {st:Stmt} {sts:List Stmt} {e c:Expr} {es:List Expr} {ms:List Nat} {pos p2:Pos} {s1 s2:MStR}
theorem _root_.L2.PS.noX {t:TS} (h:PS X.nox st t):PS X st t:=fun pins s σ H D I hw=>wpAny_mono (h pins s σ H D (I.wish _) hw) (fun _ _ q=>q.unwish) fun _ _ z=>False.elim z
noncomputable def QaY (m:MSt):MStR:=fun γ=>(m γ).map .inl
theorem QdF {m:MSt} (h:SM X.nox st m):RM X E st (QaY m):=PS.imp (PS.noX h) fun D σ H ⟨B,F₀,F,γ,o,S,e,ok⟩=>by
  obtain ⟨o1,e1,rfl⟩:=QZ e
  exact ⟨B,F₀,F,γ,o1,S,e1,ok⟩
theorem Qcb {m:MSt} (h:SMs X.nox sts m):RMs X E sts (QaY m):=PSs.imp (PSs.nox h) fun D σ H ⟨B,F₀,F,γ,o,S,e,ok⟩=>by
  obtain ⟨o1,e1,rfl⟩:=QZ e
  exact ⟨B,F₀,F,γ,o1,S,e1,ok⟩
noncomputable def rSeq (s1 s2:MStR):MStR:=fun γ=>(s1 γ).bind fun o=>match o with
  | .inl (.nx γ')=>s2 γ'
  | o=>some o
theorem XO (h:RM X E st s1) (hr:RMs X E sts s2):RMs X E (st :: sts) (rSeq s1 s2):=PSs.imp (QeC h hr) fun D σ H ⟨B,F₀,F,γ,o,S,e,ok⟩=>by
  obtain ⟨o1,e1,e2⟩:=Qg e
  refine ⟨B,F₀,F,γ,o1,S,e1,?_⟩
  rcases o1 with (γ' | p | xs | γ' | γ') | p
  · exact fun σ' H' F' S'=>⟨B,F₀,F',γ',o,S',e2,ok⟩
  all_goals (cases e2;exact ok)
theorem QfL (h:RM X E st s1):RMs X E [st] s1:=QdG h
noncomputable def rIf (t:PEnv→Option Bool) (s1 s2:MStR):MStR:=fun γ=>(t γ).bind fun k=>if k=true then s1 γ else s2 γ
theorem rm_if {t:PEnv→Option Bool} {xs ys:List Stmt} (hc:TM X.nox ms c t) (ha:RMs X E xs s1) (hb:RMs X E ys s2):RM X E (.If c xs ys pos) (rIf t s1 s2):=PS.imp (ps_if (PT.nox hc) ha hb) fun D σ H ⟨B,F₀,F,γ,o,S,e,ok⟩=>by
  obtain ⟨k,e1,e2⟩:=Qg e
  obtain ⟨F1,S1,x1,er⟩:=S.see ms
  refine ⟨F1,γ,k,S1.sub,er,e1,fun H' F' g => ?_⟩
  cases k with
  | true=>rw [if_pos rfl] at e2 ⊢;exact ⟨B,F₀,F,γ,o,S.same g.same,e2,ok⟩
  | false=>rw [if_neg Bool.false_ne_true] at e2 ⊢;exact ⟨B,F₀,F,γ,o,S.same g.same,e2,ok⟩
noncomputable def QcL (ms:List Nat) (C:Addr) (f:Str) (ma:PEnv→Option (List PV)):MStR:=fun γ=>(ma γ).bind fun qs=>(one? qs).map fun p => .inr (.obj C [f] [p])
theorem Qcm {x f:Str} {np cpos:Pos} {C:Addr} {k:Nat} {ma:PEnv→Option (List PV)} (hx:QdW X E) (hex:X.ex=[]) (M:XMk X C f k) (hr:Room (k + 1) X.A) (hg:Gl X x) (hm:X.mg x=some (.ref C)) (hb:PySem.W.mroIn X.K C (.type "BaseException")=some true) (ht:PySem.W.typeIn X.K (.ref C)=some (.type "type")) (ha:AM X ms (e :: es) ma)
    (hdb:(x==("__debug__":Str))=false:=by decide) (he:starEach (e :: es) X.env=(false,eval e X.env) :: starEach es X.env:=by rfl) (hpl:(backTo cpos (starEach es X.env)).any (·.1)=false:=by rfl) :
    RM X E (.Raise (some (.Call (.Name x np) (e :: es) [] cpos)) none pos) (QcL ms C f ma):=PS.imp (QgO hx hex M hr hg hm hb ht ha hdb he hpl) fun D σ H ⟨B,F₀,F,γ,o,S,e,ok⟩=>by
  obtain ⟨qs,e1,e⟩:=Qg e
  obtain ⟨p,e2,rfl⟩:=QZ e
  obtain rfl:=Qgk e2
  obtain ⟨F1,S1,x1,er⟩:=S.see ms
  refine ⟨F1,γ,[p],S1.sub,er,e1,fun vs H' F' g q => ?_⟩
  obtain ⟨v,rfl,rv⟩:=QaM q
  refine ⟨v,rfl,fun dx nd => ?_⟩
  have g1:=(S1.grow g).gr.trans (Grow.laid (p:=dx) (o := .xd [(f,v)]) g.sub nd)
  exact ok dx [v] _ _ g1 Qp rfl (.cons (rv.mono fun b u q=>by rw [Qk (Qn (g.sub _ _ q) nd)];exact q) .nil)
end
noncomputable def outR:Out ⊕ PV→Option (PV ⊕ PV)
  | .inl o=>(outV o).map .inl
  | .inr p=>some (.inr p)
noncomputable def runR (N n:Nat) (m:MStR) (ps:List PV):Option (PV ⊕ PV):=if ps.length=n then (m (Zj N ps)).bind outR else none
theorem runR_len {N n:Nat} {m:MStR}:∀ ps r,runR N n m ps=some r→ps.length=n:=fun ps r h=>by
  unfold runR at h
  exact (YU h).1
section
variable {P:Program} {w:World} {K:PySem.W.Frag} {mg:Str→Option Value} {base:Heap}
theorem fnR_core {vs:List V} {H:Hp} {Q:VK} {E:XK} {N:List Str} {n:Nat} {m:MStR} (h:spR K n (runR N.length n m) vs H Q E):tMR K E m { nx:=fun _ H'=>Q .non H',rt:=Q } (Yq N vs) H:=by
  obtain ⟨hl,F,qs,o,h1,h2,h3,wv⟩:=h
  unfold runR at h3
  obtain ⟨_,h3⟩:=YU h3
  obtain ⟨o1,e1,e2⟩:=Qg h3
  refine ⟨H,F,F,_,o1,QaK h1 h2,e1,?_⟩
  rcases o1 with o1 | p
  · obtain ⟨r,e3,rfl⟩:=QZ (show (outV o1).map Sum.inl=some o from e2)
    cases o1 with
    | nx γ=>cases e3;exact fun σ' H' F' S=>wv .non H' F' S.gr Qcc
    | rt p=>cases e3;exact fun v H' F' g q=>wv v H' F' g q
    | ro xs=>cases e3;exact fun a vs H' F' g n nF hH q=>Wv.of_lst wv a vs H' F' g n nF hH q
    | bk γ=>cases e3
    | ct γ=>cases e3
  · cases e2
    exact wv
theorem fnRD {x qual:Str} {st:Stmt} {f:Addr} {fd:FuncData} {j:Int} {N ps:List Str} {k n:Nat} {m:MStR} (Fn:FunD K x qual st f fd j) (Sc:FnScope N ps (Qf st)) (hn:ps.length=n)
    (hbody:∀ (cdv:Value) (A:Around) (outer:List Env) (s:Shared) (H:Hp) (E:XK),Room k (A.deeper (envOfC qual (Qf st) s.heap.objs.size f cdv)) →
      RMs (cxOf (CX2 P w) P w K mg base N qual (Qf st) f cdv A outer s H E) E (Qm st) m):FnOk P w K mg base (CX2 P w) (k + 1) f fd ps (spR K n (runR N.length n m)):=by
  obtain ⟨T,oc,od,kV,doc,pm,an,cdv,ct,osl,rfl,lk,hcd,_⟩:=Fn.ex
  exact fn_of lk hcd Sc (fun vs H Q E h=>by rw [h.1,hn]) fun A outer s H vs Q E hr h=>⟨_,hbody cdv A outer s H E hr,fnR_core h⟩
end
end L2.PM

noncomputable section
namespace L2.PM
open PySem PySem.Spec PyProof.Rows
noncomputable def kwG {α:Type} (us ws:List α):List α:=if us.length=1∧ws.length=1 then us++ws else []
noncomputable def QhJ (P:Program) (w:World) (K:PySem.W.Frag) (mg:Str→Option Value) (base:Heap) (k:Nat) (x y:Str) (j:Int) (g:List PV→Option (PV ⊕ PV)):Prop :=
  ∃ f fd ps,FnOk P w K mg base (CX2 P w) k f fd ps (spR K 2 g)∧mg x=some (.ref f)∧PySem.W.keepIn K (.ref f)=true∧Yz K fd ps []∧(∃ tk:Tok,Yz K fd ps [.int j tk])∧KBinds K fd ps [y] kwG kwG
noncomputable abbrev MStQ:=PEnv→Option (Out ⊕ (PEnv×PV))
noncomputable def OutQOk (K:PySem.W.Frag) (B F₀:Hp) (D:Ends) (E:St→XK):Out ⊕ (PEnv×PV)→Prop
  | .inl o=>QhI K B F₀ D o
  | .inr (γ,.obj C ks ps)=>∀ σ H F dx vs,SR K B F₀ F σ H γ→F dx=some (.xd (ks.zip vs))→ks.length=vs.length→RepL K F ps vs→E σ (.ref C) (some dx) H
  | .inr _=>False
noncomputable def tMQ (K:PySem.W.Frag) (m:MStQ):(St→XK)→TS:=fun E D σ H=>∃ B F₀ F γ o,SR K B F₀ F σ H γ∧m γ=some o∧OutQOk K B F₀ D E o
noncomputable def QM (X:Cx) (st:Stmt) (m:MStQ):Prop:=QX X st (tMQ X.K m)
noncomputable def QMs (X:Cx) (sts:List Stmt) (m:MStQ):Prop:=QXs X sts (tMQ X.K m)
section
variable {X:Cx} {st:Stmt} {sts:List Stmt} {e c:Expr} {es:List Expr} {ms ns:List Nat} {pos p p2 p3:Pos} {s1 s2:MStQ} {ma:PEnv→Option (List PV)} {m:MEx} {x y z:Str} {k n i:Nat} {g:List PV→Option (PV ⊕ PV)} {j:Int}
theorem QfN (h:QM X st s1):QMs X [st] s1:=qxs_one h
noncomputable def qIf (t:PEnv→Option Bool) (s1 s2:MStQ):MStQ:=fun γ=>(t γ).bind fun k=>if k=true then s1 γ else s2 γ
theorem qm_if {t:PEnv→Option Bool} {xs ys:List Stmt} (hc:TM X ms c t) (ha:QMs X xs s1) (hb:QMs X ys s2):QM X (.If c xs ys pos) (qIf t s1 s2):=QX.imp (qx_if hc ha hb) fun E D σ H ⟨B,F₀,F,γ,o,S,e,ok⟩=>by
  obtain ⟨k,e1,e2⟩:=Qg e
  obtain ⟨F1,S1,x1,er⟩:=S.see ms
  refine ⟨F1,γ,k,S1.sub,er,e1,fun H' F' g => ?_⟩
  cases k with
  | true=>rw [if_pos rfl] at e2 ⊢;exact ⟨B,F₀,F,γ,o,S.same g.same,e2,ok⟩
  | false=>rw [if_neg Bool.false_ne_true] at e2 ⊢;exact ⟨B,F₀,F,γ,o,S.same g.same,e2,ok⟩
noncomputable def qSet (ms:List Nat) (i:Nat) (g:List PV→Option (PV ⊕ PV)) (ma:PEnv→Option (List PV)):MStQ:=fun γ=>(ma γ).bind fun qs=>(g qs).map fun o=>match o with
  | .inl r => .inl (.nx ((Zd (flat r) ms γ).set i (.fz r)))
  | .inr p => .inr (frz ms γ,p)
theorem QcZ {K:PySem.W.Frag} {E:St→XK} {D:Ends} {σ:St} {H H' B F₀ F F1 F':Hp} {γ:PEnv} {r:PV ⊕ PV} {o:Out ⊕ (PEnv×PV)} (S:SR K B F₀ F σ H γ) (S1:SR K B F₀ F1 σ H (PM.frz ms γ)) (gr:Grow F1 H F' H')
    (eo:(match r with | .inl r => .inl (.nx ((Zd (flat r) ms γ).set i (.fz r))) | .inr p => .inr (frz ms γ,p))=o) (ok:OutQOk K B F₀ D E o) :
    Wr K F' H' (fun v H2=>D.nx (σ.set i (some v)) H2) (E σ) r:=by
  subst eo
  cases r with
  | inl r =>
    intro v H2 F2 g2 q2
    obtain ⟨F3,S3,q3⟩:=S.val S1 (gr.trans g2) q2
    exact ok _ _ F3 (S3.setFz i q3)
  | inr p =>
    cases p with
    | obj C ks ps=>exact fun dx vs H2 F2 g2 q1 q2 q3=>ok σ H2 F2 dx vs (S1.grow (gr.trans g2)) q1 q2 q3
    | _=>exact ok
theorem qm_setD (hN:X.N.Nodup) (hi:X.N[i]?=some y) (hy:Loc X.env.scope y) (c:QhJ X.prog X.w X.K X.mg X.base k x z j g) (hn:∀ ps r,g ps=some r→ps.length=2) (hr:Room k X.A) (hg:Gl X x) (ha:AM X ms [e] (Qc m aNil))
    (hdb:(x==("__debug__":Str))=false:=by decide) (he:starEach [e] X.env=(false,eval e X.env) :: starEach [] X.env:=by rfl) (hpl:(backTo p3 (starEach [] X.env)).any (·.1)=false:=by rfl)
    (hs:swapsWith (.Call (.Name x p) [e] [] p3) (some (.Name y p2)) pos.line X.env=pure false:=by rfl) (hf:X.fn y=true∨X.env.scope.names.lookup y=some .local:=by first | exact .inl rfl | exact .inr rfl | assumption) :
    QM X (.Assign [.Name y p2] (.Call (.Name x p) [e] [] p3) pos) (qSet ms i g (Qc m (Qc (mC (.int j)) aNil))):=by
  obtain ⟨f,fd,ps,F,hm,hk,_,⟨tk,hb⟩,_⟩:=c
  refine QX.imp (qx_set hN hi hy (qxe_call (dvs:=[.int j]) F hr hg hm hk hb (.cons ⟨tk,rfl⟩ .nil) ha hdb he hpl) hs hf) fun E D σ H ⟨B,F₀,F,γ,o,S,e,ok⟩ => ?_
  obtain ⟨qs,e1,e⟩:=Qg e
  obtain ⟨r,e2,eo⟩:=QZ e
  obtain ⟨F1,S1,x1,er⟩:=S.see ms
  obtain ⟨q,e0,e1⟩:=Qg e1
  have e1:some [q,.int j]=some qs:=e1
  cases e1
  refine ⟨F1,γ,[q],S1.sub,er,by simp [Qc,aNil,e0],fun vs H' F' gr rq => ?_⟩
  dsimp only
  have q2:RepL X.K F' [q,.int j] (vs++[.int j]):=rq.append (.cons (Zz _) .nil)
  exact ⟨by rw [q2.length];exact hn _ _ e2,F',_,r,gr.sub,q2,e2,QcZ S S1 gr eo ok⟩
theorem qm_setK {e2:Expr} {kp:Pos} {m2:MEx} (hN:X.N.Nodup) (hi:X.N[i]?=some y) (hy:Loc X.env.scope y) (c:QhJ X.prog X.w X.K X.mg X.base k x z j g) (hn:∀ ps r,g ps=some r→ps.length=2) (hr:Room k X.A) (hg:Gl X x) (ha:AM X ms [e] (Qc m aNil)) (h2:EM X ns e2 m2)
    (hall:(backToKw p3 (keywordEach [⟨some z,e2,kp⟩] X.env)).all (·.1.isSome)=true:=by rfl) (hks:(backToKw p3 (keywordEach [⟨some z,e2,kp⟩] X.env)).filterMap (·.1)=[z]:=by rfl)
    (hdb:(x==("__debug__":Str))=false:=by decide) (he:starEach [e] X.env=(false,eval e X.env) :: starEach [] X.env:=by rfl)
    (hpl:((backTo p3 (starEach [e] X.env)).any (·.1)||(backToKw p3 (keywordEach [⟨some z,e2,kp⟩] X.env)).any (·.1.isNone))=false:=by rfl)
    (hs:swapsWith (.Call (.Name x p) [e] [⟨some z,e2,kp⟩] p3) (some (.Name y p2)) pos.line X.env=pure false:=by rfl) (hf:X.fn y=true∨X.env.scope.names.lookup y=some .local:=by first | exact .inl rfl | exact .inr rfl | assumption) :
    QM X (.Assign [.Name y p2] (.Call (.Name x p) [e] [⟨some z,e2,kp⟩] p3) pos) (qSet (ms++ns) i g (Qc m (Qc m2 aNil))):=by
  obtain ⟨f,fd,ps,F,hm,hk,_,_,hb⟩:=c
  refine QX.imp (qx_set hN hi hy (QgN F hr hg hm hk hb ha (pk_cons h2 pk_nil) hall hks hdb he hpl) hs hf) fun E D σ H ⟨B,F₀,F,γ,o,S,e,ok⟩ => ?_
  obtain ⟨qs,e1,e⟩:=Qg e
  obtain ⟨r,e2,eo⟩:=QZ e
  obtain ⟨F1,S1,x1,er⟩:=S.see (ms++ns)
  obtain ⟨q,e0,e1⟩:=Qg e1
  obtain ⟨ts,e3,e1⟩:=QZ e1
  obtain ⟨q',e4,e5⟩:=Qg e3
  have e5:some [q']=some ts:=e5
  cases e5
  have e1:[q,q']=qs:=e1
  subst e1
  refine ⟨F1,γ,[q],S1.sub,er.left,by simp [Qc,aNil,e0],fun vs H' F' gr rq => ?_⟩
  refine ⟨F',γ,q',gr.sub,er.right.mono gr.ext,e4,fun v2 H2 F2 g2 r2 => ?_⟩
  obtain ⟨v1,rfl,rv1⟩:=QaM rq
  have q2:RepL X.K F2 [q,q'] [v1,v2] := .cons (rv1.mono g2.ext) (.cons r2 .nil)
  exact ⟨show [v1,v2].length=2 from rfl,F2,_,r,g2.sub,q2,e2,QcZ S S1 (gr.trans g2) eo ok⟩
theorem SR.unset {K:PySem.W.Frag} {B F₀ F H:Hp} {σ:St} {γ:PEnv} (S:SR K B F₀ F σ H γ) (i:Nat):SR K B F₀ F (σ.set i none) H (γ.set i .un):=by
  have ne:∀ {k:Nat} {x:Slot},(γ.set i .un)[k]?=some x→x ≠ .un→k≠i∧γ[k]?=some x:=fun {k x} e z=>by
    have hk:k≠i:=fun h=>by
      subst h
      rw [List.getElem?_set] at e
      simp at e
      exact z e.2.symm
    rw [List.getElem?_set_ne (Ne.symm hk)] at e
    exact ⟨hk,e⟩
  refine ⟨S.sub,S.base,S.f0,S.fb,by simpa using S.len,fun k p e => ?_,fun k xs e => ?_,fun k l xs ys a hkl e1 e2 e3 => ?_,S.dq.set i (fun kvs h=>by cases h)⟩
  · obtain ⟨hk,e⟩:=ne e (by intro h;cases h)
    rw [List.getElem?_set_ne (Ne.symm hk)]
    exact S.fz k p e
  · obtain ⟨hk,e⟩:=ne e (by intro h;cases h)
    rw [List.getElem?_set_ne (Ne.symm hk)]
    exact S.ow k xs e
  · obtain ⟨hk,e1⟩:=ne e1 (by intro h;cases h)
    obtain ⟨hl,e2⟩:=ne e2 (by intro h;cases h)
    rw [List.getElem?_set_ne (Ne.symm hk)] at e3
    rw [List.getElem?_set_ne (Ne.symm hl)]
    exact S.dj k l xs ys a hkl e1 e2 e3
noncomputable def ofCs (Cs:List Addr):PV→Bool
  | .obj D _ _=>Cs.contains D
  | _=>false
noncomputable def sTry (i:Nat) (Cs:List Addr) (mb:MStQ) (sm:MSt):MSt:=fun γ=>(mb γ).bind fun o=>match o with
  | .inl o=>some o
  | .inr (γ1,p)=>if ofCs Cs p=true then (sm (γ1.set i (.fz p))).bind fun o=>match o with
    | .nx γ2=>some (.nx (γ2.set i .un))
    | _=>none
    else none
theorem sm_tryX {body suite:List Stmt} {b₀:Stmt} {rest:List ExceptHandler} {n x:Str} {np hpos:Pos} {D:Addr} {Cs:List Addr} {mb:MStQ} {sm:MSt}
    (hst:X.stack=X.env :: X.outer) (hfm:X.env.frame=some X.env.locals) (hex:X.ex=[]) (hb:∀ xe,QMs (X.wish xe) body mb) (hs:∀ a,SMs (X.inH a) (b₀ :: suite) sm) (hks:∀ C,Cs.contains C=true→PySem.W.mroIn X.K C (.ref D)=some true∧PySem.W.mroIn X.K C (.type "BaseException")=some true)
    (hg:Gl X x) (hm:X.mg x=some (.ref D)) (hD:XCat X.K D) (hN:X.N.Nodup) (hi:X.N[i]?=some n) (hl:X.env.scope.names.lookup n=some .local) (hdb:(x==("__debug__":Str))=false:=by decide) :
    SM X (.Try body (.ExceptHandler (some (.Name x np)) (some n) (b₀ :: suite) hpos :: rest) [] [] pos) (sTry i Cs mb sm):=PS.imp (ps_tryX (tb:=tMQ X.K mb) hst hfm hex hb hg hm hD hN hi hl hdb) fun Ds σ H ⟨B,F₀,F,γ,o,S,e,ok⟩=>by
  obtain ⟨o1,e1,e2⟩:=Qg e
  refine ⟨B,F₀,F,γ,o1,S,e1,?_⟩
  rcases o1 with o1 | ⟨γ1,p⟩
  · cases e2
    exact ok
  · obtain ⟨hk,e2⟩:=YU e2
    cases p with
    | obj C ks ps =>
      intro σ' H' F' dx vs S' h1 h2 h3
      obtain ⟨c1,c2⟩:=hks C hk
      refine ⟨C,dx,rfl,rfl,c1,fun a na=>⟨_,hs a,?_⟩⟩
      have nF:F' a=none:=S'.sub.free na
      have gl:Grow F' H' (upd F' a (excO a C dx)) (upd H' a (excO a C dx)):=Grow.laid S'.sub na
      have ndx:dx≠a:=Qn h1 nF
      have T:=(S'.grow gl).setFz i (p := .obj C ks ps) (v := .ref a) (by
        unfold Rep
        exact ⟨a,dx,vs,rfl,.exc Qp (by rw [Qk ndx];exact h1) c2,h2,h3.mono gl.ext⟩)
      obtain ⟨o2,e3,e4⟩:=Qg e2
      refine ⟨B,F₀,_,_,o2,T,e3,?_⟩
      cases o2 with
      | nx γ3 =>
        cases e4
        exact fun σ3 H3 F3 S3=>ok _ H3 F3 (S3.unset i)
      | _=>cases e4
    | _=>cases hk
end
end L2.PM

noncomputable section
namespace L2.PM
open PySem PySem.Spec PyProof.Rows
noncomputable def popK (i:Nat) (γ:PEnv) (xs:List PV):PV→Option Out
  | .int j=>if 0≤j∧j < xs.length∧xs.length≤1000 then some (.nx (γ.set i (.ow (xs.take j.toNat++xs.drop (j.toNat + 1))))) else none
  | _=>none
noncomputable def sPop (i:Nat) (mk:MEx):MSt:=fun γ=>match γ[i]? with
  | some (.ow xs)=>(mk γ).bind (popK i γ xs)
  | _=>none
section
variable {X:Cx} {e k:Expr} {es:List Expr} {ms ns:List Nat} {m mk:MEx} {p p2 pos:Pos} {x:Str}
theorem sm_pop {i:Nat} {apos cpos:Pos} (hx:PE X (.Name x p2) (tVar i)) (ps:PS X (.Expr (.Call (.Attribute (.Name x p2) "pop" apos) [k] [] cpos) pos) (Qhv (tBM X.K "list" rPopAt (tVar i) (tMA X.K ns (Qc mk aNil))))) :
    SM X (.Expr (.Call (.Attribute (.Name x p2) "pop" apos) [k] [] cpos) pos) (sPop i mk):=PS.imp ps fun D σ H ⟨B,F₀,F,γ,o,S,e,ok⟩=>by
  unfold sPop at e
  split at e
  · rename_i xs hi
    obtain ⟨j0,e0,e2⟩:=Qg e
    cases j0 with
    | int j =>
      have e3:(if 0≤j∧j < xs.length∧xs.length≤1000 then some (Out.nx (γ.set i (.ow (xs.take j.toNat++xs.drop (j.toNat + 1))))) else none)=some o:=e2
      obtain ⟨⟨c0,c1,c2⟩,rfl⟩:=QC e3
      obtain ⟨a,vs,h1,h2,h3,_⟩:=S.ow i xs hi
      obtain ⟨F1,S1,x1,er⟩:=S.see ns
      refine ⟨.ref a,h1,Qcj (.of h2),F1,γ,[.int j],S1.sub,er,by simp [Qc,aNil,e0],fun us H' F' g q => ?_⟩
      obtain ⟨v0,rfl,q0⟩:=QaM q
      unfold Rep at q0
      subst q0
      have S2:SR _ B F₀ F σ H' γ:=S.same g.same
      obtain ⟨a2,vs2,k1,k2,k3,_⟩:=S2.ow i xs hi
      rw [h1] at k1
      cases k1
      have hle:vs2.length=xs.length:=k3.length
      have hj:j.toNat < vs2.length:=by rw [hle];omega
      refine ⟨a,vs2,j,j.toNat,vs2[j.toNat],rfl,rfl,k2,by omega,?_,?_,List.getElem?_eq_getElem hj,?_⟩
      · have:j < 1000:=by omega
        exact Int.lt_trans this (by decide)
      · show (if (decide (0≤(if j < 0 then j + (vs2.length:Int) else j))&&decide ((if j < 0 then j + (vs2.length:Int) else j) < (vs2.length:Int)))=true then some (if j < 0 then j + (vs2.length:Int) else j).toNat else none)=some j.toNat
        rw [if_neg (show ¬ j < 0 by omega),if_pos]
        rw [Bool.and_eq_true,decide_eq_true_eq,decide_eq_true_eq,hle]
        exact ⟨c0,c1⟩
      · rw [List.eraseIdx_eq_take_drop_succ]
        exact ok _ _ F (S2.write hi h1 ((k3.take _).append (k3.drop _)))
    | _=>cases e2
  · cases e
noncomputable def spW (K:PySem.W.Frag) (n:Nat) (g:List PV→List PV→Option PV):Sp:=fun vs H Q _=>vs.length=n∧∃ F a ws us xs qs r,vs = .ref a :: us∧Same F H∧H a=some (.lst ws)∧F a=none∧RepL K F xs ws∧RepL K F qs us∧g xs qs=some r∧Wv K F (del H a) r Q
noncomputable def runW (N n:Nat) (m:MSt) (xs qs:List PV):Option PV:=if qs.length + 1=n∧n≤N then (m ((Zj N (.non :: qs)).set 0 (.ow xs))).bind outV else none
theorem runW_len {N n:Nat} {m:MSt}:∀ xs qs r,runW N n m xs qs=some r→qs.length + 1=n:=fun xs qs r h=>by
  unfold runW at h
  exact (YU h).1.1
noncomputable def CalW (P:Program) (w:World) (K:PySem.W.Frag) (mg:Str→Option Value) (base:Heap) (k:Nat) (x:Str) (n:Nat) (g:List PV→List PV→Option PV):Prop :=
  ∃ f fd ps,FnOk P w K mg base CX0 k f fd ps (spW K n g)∧mg x=some (.ref f)∧PySem.W.keepIn K (.ref f)=true∧Yz K fd ps []
noncomputable def QfQ (g:List PV→List PV→Option PV) (m0 ma:PEnv→Option (List PV)):MEx:=fun γ=>(m0 γ).bind fun xs=>(ma γ).bind fun qs=>g xs qs
theorem em_calW {kk n:Nat} {m0 ma:PEnv→Option (List PV)} {g:List PV→List PV→Option PV} (c:CalW X.prog X.w X.K X.mg X.base kk x n g) (hn:∀ xs qs r,g xs qs=some r→qs.length + 1=n) (hr:Room kk X.A) (hg:Gl X x) (h0:EO X ms e m0)
    (ha:AM X ns es ma) (hdb:(x==("__debug__":Str))=false:=by decide) (he:starEach (e :: es) X.env=(false,eval e X.env) :: starEach es X.env:=by rfl) (hpl:(backTo pos (starEach es X.env)).any (·.1)=false:=by rfl) :
    EM X (ms++ns) (.Call (.Name x p) (e :: es) [] pos) (QfQ g m0 ma):=by
  obtain ⟨f,fd,ps,Fn,hm,hk,hb⟩:=c
  refine PE.imp (QdI (E:=E0) Fn hr hg hm hk hb .nil pass0 (ZX h0 ha he) hdb he hpl) fun σ H Q ⟨F,γ,r,k1,k2,k3,w⟩ => ?_
  obtain ⟨xs,e1,k3⟩:=Qg k3
  obtain ⟨qs,e2,k3⟩:=Qg k3
  refine ⟨F,γ,xs,k1,k2.left,e1,fun a ws H' F' gr n0 nF hH q=>⟨F',γ,qs,gr.sub,k2.right.mono gr.ext,e2,fun us H2 F2 g2 q2 => ?_⟩⟩
  dsimp only
  rw [List.append_nil]
  have nF2:F2 a=none:=by
    cases z:F2 a with
    | none=>rfl
    | some o =>
      rcases g2.new a o z with y | y
      · rw [nF] at y;cases y
      · rw [hH] at y;cases y
  refine ⟨by rw [List.length_cons,q2.length];exact hn _ _ _ k3,F2,a,ws,us,xs,qs,r,rfl,g2.sub,g2.same _ _ hH,nF2,q.mono g2.ext,q2,k3,fun v H3 F3 g3 r3=>w v H3 F3 ⟨(gr.ext.trans g2.ext).trans g3.ext,g3.sub,fun b o z => ?_,fun b o z => ?_⟩ r3⟩
  · have hb:b≠a:=Qn z n0
    exact g3.same b o (by rw [del_ne hb];exact g2.same _ _ (gr.same _ _ z))
  · have fin:H2 b=none→H b=none:=fun y=>gr.same.free (g2.same.free y)
    rcases g3.new b o z with y | y
    · rcases g2.new b o y with y | y
      · exact gr.new b o y
      · exact .inr (gr.same.free y)
    · by_cases hb:b=a
      · subst hb;exact .inr n0
      · rw [del_ne hb] at y
        exact .inr (fin y)
end
section
variable {P:Program} {w:World} {K:PySem.W.Frag} {mg:Str→Option Value} {base:Heap}
theorem fnW {x qual:Str} {st:Stmt} {f:Addr} {fd:FuncData} {N ps:List Str} {k n:Nat} {m:MSt} (Fn:Fun K x qual st f fd) (Sc:FnScope N ps (Qf st)) (hn:ps.length=n)
    (hbody:∀ (cdv:Value) (A:Around) (outer:List Env) (s:Shared) (H:Hp) (E:XK),Room k (A.deeper (envOfC qual (Qf st) s.heap.objs.size f cdv)) →
      SMs (cxOf CX0 P w K mg base N qual (Qf st) f cdv A outer s H E).nox (Qm st) m):FnOk P w K mg base CX0 (k + 1) f fd ps (spW K n (runW N.length n m)):=by
  refine Fn.ok Sc (fun vs H Q E h=>by rw [h.1,hn]) fun cdv A outer s H vs Q E hr h=>⟨_,hbody cdv A outer s H E hr,?_⟩
  obtain ⟨hl,F,a,ws,us,xs,qs,r,rfl,h1,h2,h3,h4,h5,h6,wv⟩:=h
  unfold runW at h6
  obtain ⟨⟨hq,hN⟩,h6⟩:=YU h6
  obtain ⟨o,e1,e2⟩:=Qg h6
  have T0:SR K H F F (Yq N (.non :: us)) H (Zj N.length (.non :: qs)):=QaK h1 (.cons Qcc h5)
  have sd:Same F (del H a):=fun b o q=>by rw [del_ne (Qn q h3)];exact h1 b o q
  have no1:∀ (i:Nat) ys,(Zj N.length (PV.non :: qs))[i]?≠some (.ow ys):=fun i ys q=>by
    obtain ⟨b,vs,_,k2,_,_,k5⟩:=T0.ow i ys q
    rw [k2] at k5;cases k5
  have no2:∀ (i:Nat) ys,(Zj N.length (PV.non :: qs))[i]?≠some (.od ys):=fun i ys q=>by
    obtain ⟨b,_,k2,_,k5⟩:=T0.dq.at_ i ys q
    rw [k2] at k5;cases k5
  have T1:SR K (del H a) F F (Yq N (.non :: us)) H (Zj N.length (.non :: qs)):=⟨T0.sub,fun b o q=>by
    by_cases hb:b=a
    · subst hb;rw [Qea] at q;cases q
    · rw [del_ne hb] at q;exact q,Same.refl _,fun b o q => .inl q,T0.len,T0.fz,fun i ys q=>absurd q (no1 i ys),T0.dj,⟨fun i ys q=>absurd q (no2 i ys),fun i j ys zs b _ q=>absurd q (no2 i ys)⟩⟩
  have T2:=T1.setOw 0 (xs:=xs) (a:=a) h2 h4 h3 Qea fun j ys _ q=>absurd q (no1 j ys)
  have e0:(Yq N (V.non :: us)).set 0 (some (.ref a))=Yq N (.ref a :: us):=rfl
  rw [e0] at T2
  refine ⟨del H a,F,F,_,o,T2,e1,?_⟩
  cases o with
    | nx γ=>cases e2;exact fun σ' H' F' S=>wv .non H' F' S.gr Qcc
    | rt p=>cases e2;exact fun v H' F' g q=>wv v H' F' g q
    | ro xs=>cases e2;exact fun a vs H' F' g n nF hH q=>wv.of_lst a vs H' F' g n nF hH q
    | bk γ=>cases e2
    | ct γ=>cases e2
end
end L2.PM

noncomputable section
namespace L2.PM
open PySem PySem.Spec PyProof.Rows
section
variable {X:Cx}
theorem Qao:OpR X (compareOp .NotIn) (fun x y H Q=>∃ i j,x = .str i∧y = .str j∧Q (.bl (!(!(Builtin.Str.occurrences j i 0 j.length 1).isEmpty))) H):=by
  intro pins s σ H x y v u Q I rx ry h
  obtain ⟨i,j,rfl,rfl,q⟩:=h
  obtain ⟨t,rfl⟩:=rx
  obtain ⟨t',rfl⟩:=ry
  exact P.notIn_str (fin_bl I q rfl)
noncomputable def QdJ:PV→PV→Option PV
  | .str a,.str b=>some (.bl (!(!(Builtin.Str.occurrences b a 0 b.length 1).isEmpty)))
  | _,_=>none
theorem QgT:OpM X (compareOp .NotIn) QdJ:=by
  intro pins s σ H x y v u Q I rx ry h
  obtain ⟨F,p,q,r,h1,h2,h3,h4,w⟩:=h
  cases p <;> cases q <;> first
    | (exfalso;cases h4;done)
    | skip
  cases h4
  unfold Rep at h2 h3
  exact Qao pins s σ H x y v u Q I rx ry ⟨_,_,h2,h3,w.here h1 (ZQ _)⟩
end
noncomputable def QaE:List PV→Option PV:=fun qs=>open Classical in if ∃ ns:List Int,ns.length≤63∧qs=[.lst (ns.map .int)] then some (.bl true) else none
theorem trueOn_ok (ns:List Int) (h:ns.length≤63):QaE [.lst (ns.map .int)]=some (.bl true):=if_pos ⟨ns,h,rfl⟩
theorem QeZ {g:List PV→Option PV} (h:∀ ns:List Int,ns.length≤63→g [.lst (ns.map .int)]=some (.bl true)) {qs:List PV} {r:PV} (e:QaE qs=some r):g qs=some r:=by
  unfold QaE at e
  split at e
  · rename_i q
    obtain ⟨ns,hn,rfl⟩:=q
    cases e
    exact h ns hn
  · cases e
noncomputable def exC (l:List Addr) (i:Nat):Addr:=l.getD i 0
noncomputable def CalI (P:Program) (w:World) (K:PySem.W.Frag) (mg:Str→Option Value) (base:Heap) (k:Nat) (C:Addr) (f:Str):Prop :=
  ∃ fa fd ps,FnOk P w K mg base CX0 k fa fd ps (spI C f)∧PySem.W.findIn K (.ref C) "__init__"=some (some (.ref fa))∧PySem.W.isFn K (.ref fa)=true∧Yz K fd ps []∧Yr K C=true∧PySem.W.keepIn K (.ref C)=true
theorem CalI.mk {X:Cx} {k:Nat} {C:Addr} {f:Str} (c:CalI X.prog X.w X.K X.mg X.base k C f):XMk X C f k:=by
  obtain ⟨fa,fd,ps,h1,h2,h3,h4,h5,h6⟩:=c
  exact ⟨⟨fa,fd,ps,h1,h2,h3,h4⟩,h5,h6⟩
theorem cs_nil {P:Addr→Prop}:∀ D,([]:List Addr).contains D=true→P D:=fun D h=>by simp at h
theorem Yp {P:Addr→Prop} {a:Addr} {l:List Addr} (h1:P a) (h2:∀ D,l.contains D=true→P D):∀ D,(a :: l).contains D=true→P D:=fun D h=>by
  rw [List.contains_cons,Bool.or_eq_true] at h
  rcases h with h | h
  · rw [beq_iff_eq.mp h];exact h1
  · exact h2 D h
theorem Yj {α:Type} {P:Addr→α→Prop}:∀ D g,([]:List (Addr×α)).lookup D=some g→P D g:=fun D g h=>by simp at h
theorem Qj {α:Type} {P:Addr→α→Prop} {a:Addr} {x:α} {t:List (Addr×α)} (h1:P a x) (h2:∀ D g,t.lookup D=some g→P D g):∀ D g,((a,x) :: t).lookup D=some g→P D g:=fun D g h=>by
  rw [List.lookup_cons] at h
  cases q:D==a with
  | true=>rw [q] at h;cases h;rw [beq_iff_eq.mp q];exact h1
  | false=>rw [q] at h;exact h2 D g h
theorem Xi {K:PySem.W.Frag} {T C:Addr} (h1:PySem.W.isClsIn K T=true) (h2:PySem.W.typeIn K (.ref T)=some (.type "type")) (h3:PySem.W.mroIn K C (.ref T)=some true):PySem.W.kitOne K (.ref C) (.ref T)=some true:=by
  unfold PySem.W.kitOne
  split
  · rfl
  · show (if ((PySem.W.clsIn K T).isSome&&PySem.W.typeIn K (.ref T)==some (.type "type"))=true then PySem.W.subIn K (.ref C) (.ref T) else none)=_
    rw [if_pos (by rw [h2,show (PySem.W.clsIn K T).isSome=true from h1];decide +kernel)]
    exact h3
theorem Qz {K:PySem.W.Frag} {T C:Addr} (h1:PySem.W.isClsIn K T=true) (h2:PySem.W.typeIn K (.ref T)=some (.type "type")) (h3:PySem.W.mroIn K C (.ref T)=some false) (hn:(C==T)=false):PySem.W.kitOne K (.ref C) (.ref T)=some false:=by
  unfold PySem.W.kitOne
  rw [if_neg (fun h=>by
    have:Value.ref C=Value.ref T:=beq_iff_eq.mp h
    cases this
    simp at hn)]
  show (if ((PySem.W.clsIn K T).isSome&&PySem.W.typeIn K (.ref T)==some (.type "type"))=true then PySem.W.subIn K (.ref C) (.ref T) else none)=_
  rw [if_pos (by rw [h2,show (PySem.W.clsIn K T).isSome=true from h1];decide +kernel)]
  exact h3
theorem QfE {K:PySem.W.Frag} {C:Addr} {T:String} (h1:PySem.W.kitMeta T=true) (h3:PySem.W.mroIn K C (.type T)=some true):PySem.W.kitOne K (.ref C) (.type T)=some true:=by
  unfold PySem.W.kitOne
  rw [if_neg (fun h=>by cases (beq_iff_eq.mp h:Value.ref C=Value.type T))]
  show (if PySem.W.kitMeta T=true then PySem.W.subIn K (.ref C) (.type T) else none)=_
  rw [if_pos h1]
  exact h3
theorem Qha {K:PySem.W.Frag} {x qual y:Str} {st:Stmt} {f:Addr} {fd:FuncData} {j:Int} {ps:List Str} (F:FunD K x qual st f fd j) (hl:ps.length=2)
    (h:∀ (dV kV doc pm:Value) (an:Option Addr) (cdv ct d u w:Value),∃ k:Option (Array Value)→Sem (List (Str×Value)),bindArgs (PySem.W.fnOf x qual (Qq st) (Qm st) (Qf st) dV kV doc pm an cdv ct) ⟨[u],[(y,w)]⟩=seqItems? dV >>= k∧k (some #[d])=pure (ps.zip [u,w])):KBinds K fd ps [y] kwG kwG:=by
  obtain ⟨T,oc,od,kV,doc,pm,an,cdv,ct,osl,rfl,lk,hcd,tc,td,tk,tn,ts,t⟩:=F.ex
  refine ⟨fun s us ws X hz => ?_,fun {vs us zs ws} r1 r2 => ?_⟩
  · unfold kwG at hz ⊢
    split at hz
    · rename_i c
      obtain ⟨c1,c2⟩:=c
      rw [if_pos ⟨c1,c2⟩]
      match us,ws,c1,c2 with
      | [u],[w],_,_ =>
        obtain ⟨k,e1,e2⟩:=h (.ref T) kV doc pm an cdv ct (.int j tk) u w
        exact BindsTo.of_defaults rfl (X _ _ t) rfl e1 e2
    · rw [hl] at hz;cases hz
  · unfold kwG
    rw [r1.length,r2.length]
    split
    · exact r1.append r2
    · exact .nil
end L2.PM

noncomputable section
namespace L2.PM
open PySem PySem.Spec PyProof.Rows

theorem Qfv {i j:Int} (h1 : -(2 ^ 64) < j) (h2:j < 2 ^ 64):cMul i j=true:=by
  unfold cMul
  rw [Bool.or_eq_true]
  exact .inr (QbG ⟨h1,h2⟩)
theorem Qht {i j:Int} (h1 : -(2 ^ 64) < i) (h2:i < 2 ^ 64):cMul i j=true:=by
  unfold cMul
  rw [Bool.or_eq_true]
  exact .inl (QbG ⟨h1,h2⟩)
theorem pAdd_i (i j:Int):pAdd (.int i) (.int j)=some (.int (i + j)):=rfl
theorem pSub_i (i j:Int):pSub (.int i) (.int j)=some (.int (i - j)):=rfl
theorem pMul_l {i j:Int} (h1 : -(2 ^ 64) < i) (h2:i < 2 ^ 64):pMul (.int i) (.int j)=some (.int (i * j)):=if_pos (Qht h1 h2)
theorem pMul_r {i j:Int} (h1 : -(2 ^ 64) < j) (h2:j < 2 ^ 64):pMul (.int i) (.int j)=some (.int (i * j)):=if_pos (Qfv h1 h2)
theorem pMod_i {i j:Int} (h:0 < j):pMod (.int i) (.int j)=some (.int (i % j)):=if_pos (decide_eq_true h)
theorem pDiv_i {i j:Int} (h:0 < j) (h2:j < 2 ^ 200):pDiv (.int i) (.int j)=some (.int (i / j)):=if_pos (QbG ⟨h,h2⟩)
theorem pLt_i (i j:Int):pLt (.int i) (.int j)=some (.bl (decide (i < j))):=rfl
theorem pLe_i (i j:Int):pLe (.int i) (.int j)=some (.bl (decide (i≤j))):=rfl
theorem pGt_i (i j:Int):pGt (.int i) (.int j)=some (.bl (decide (j < i))):=rfl
theorem Xl (i:Int):okv (.int i)=true:=by simp [okv,dep,okS]
theorem ZU {s:Str} (h:PyData.strOk s=true):okv (.str s)=true:=by simp [okv,dep,okS,h]
theorem QbB {p q:PV} (h1:okv p=true) (h2:okv q=true):pEq p q=some (.bl (peq p q)):=if_pos ⟨h1,h2⟩
theorem QcN {p q:PV} (h1:okv p=true) (h2:okv q=true):pNe p q=some (.bl (!peq p q)):=if_pos ⟨h1,h2⟩
theorem pEq_i (i j:Int):pEq (.int i) (.int j)=some (.bl (i==j)):=by rw [QbB (Xl i) (Xl j)];rfl
theorem pNe_i (i j:Int):pNe (.int i) (.int j)=some (.bl (!(i==j))):=by rw [QcN (Xl i) (Xl j)];rfl
theorem YI {n:Nat} (h:n≤100000):n≤LIM:=Nat.le_trans h (by decide)
theorem lt_lim {n:Nat} (h:n≤100000):n < LIM:=Nat.lt_of_le_of_lt h (by decide)
theorem keepE_true (ms:List Nat) (γ:PEnv):Zd true ms γ=γ:=rfl
theorem keepE_false (ms:List Nat) (γ:PEnv):Zd false ms γ=frz ms γ:=rfl
theorem flat_int (i:Int):flat (.int i)=true:=rfl
theorem flat_bl (i:Bool):flat (.bl i)=true:=rfl
theorem flat_str (i:Str):flat (.str i)=true:=rfl
theorem flat_non:flat .non=true:=rfl
theorem flat_tup (i:List PV):flat (.tup i)=false:=rfl
theorem flat_lst (i:List PV):flat (.lst i)=false:=rfl
theorem allflat_ints (ns:List Int):(ns.map PV.int).all flat=true:=by simp [flat]
theorem allflat_strs (ns:List Str):(ns.map PV.str).all flat=true:=by simp [flat]
theorem pIx_lst (xs:List PV) (i:Int):pIx (.lst xs) (.int i)=atI xs i:=rfl
theorem pIx_tup (xs:List PV) (i:Int):pIx (.tup xs) (.int i)=atI xs i:=rfl

theorem QeQ {α:Type} {g:PV→PEnv→Option PEnv} {t:PEnv→Option Bool} {e:MEx} {γ:PEnv} (f:α→PV) (b:α→Bool) (y:α→PV) :
    ∀ (xs:List α),(∀ x∈xs,∃ γ1,g (f x) γ=some γ1∧t γ1=some (b x)∧(b x=true→e γ1=some (y x)))→XA g t e γ (xs.map f)=some ((xs.filter b).map y)
  | [],_=>rfl
  | x :: xs,h=>by
    obtain ⟨γ1,h1,h2,h3⟩:=h x List.mem_cons_self
    have ih:=QeQ f b y xs fun z hz=>h z (List.mem_cons_of_mem _ hz)
    rw [List.map_cons,XA,h1,Option.bind_some,h2,Option.bind_some]
    cases hb:b x with
    | true =>
      rw [if_pos rfl,h3 hb,Option.bind_some,ih,List.filter_cons_of_pos hb]
      rfl
    | false =>
      rw [if_neg Bool.false_ne_true,ih,List.filter_cons_of_neg (by simp [hb])]
theorem Qbg {α:Type} {g:PV→PEnv→Option PEnv} {e:MEx} {γ:PEnv} (f:α→PV) (y:α→PV) (xs:List α) (h:∀ x∈xs,∃ γ1,g (f x) γ=some γ1∧e γ1=some (y x)):XA g Qbw e γ (xs.map f)=some (xs.map y):=by
  have:=QeQ (g:=g) (t:=Qbw) (e:=e) (γ:=γ) f (fun _=>true) y xs fun x hx=>by
    obtain ⟨γ1,h1,h2⟩:=h x hx
    exact ⟨γ1,h1,rfl,fun _=>h2⟩
  rw [this,List.filter_eq_self.mpr (fun _ _=>rfl)]
theorem QeN {α:Type} {g:PV→PEnv→Option PEnv} {b:MSt} (f:α→PV) (R:List α→PEnv→Prop) (xs:List α) :
    ∀ (ys pre:List α) (γ:PEnv),pre++ys=xs→R pre γ→(∀ pre x post γ,pre++x :: post=xs→R pre γ→∃ γ1 γ2,g (f x) γ=some γ1∧b γ1=some (.nx γ2)∧R (pre++[x]) γ2)→∃ γ',forL g b (ys.map f) γ=some (.nx γ')∧R xs γ'
  | [],pre,γ,e,r,_=>by
    rw [List.append_nil] at e
    subst e
    exact ⟨γ,rfl,r⟩
  | x :: ys,pre,γ,e,r,h=>by
    obtain ⟨γ1,γ2,h1,h2,h3⟩:=h pre x ys γ e r
    obtain ⟨γ',e',r'⟩:=QeN f R xs ys (pre++[x]) γ2 (by rw [List.append_assoc];exact e) h3 h
    refine ⟨γ',?_,r'⟩
    rw [List.map_cons,forL,h1,Option.bind_some,h2,Option.bind_some]
    exact e'
end L2.PM

noncomputable section
namespace L2.PM
open PySem PySem.Spec PyProof.Rows
end L2.PM

noncomputable section
namespace L2.PM
open PySem PySem.Spec PyProof.Rows

theorem rngL_0 (j:Int):rngL 0 j=(List.range j.toNat).map fun (k:Nat)=>PV.int k:=by
  unfold rngL
  rw [show (j - 0)=j by omega]
  exact List.map_congr_left fun k _=>by simp
noncomputable def rg1:PV→Option (List PV)
  | .int j=>if rOk j=true then some (rngL 0 j) else none
  | _=>none
theorem rg1_i {j:Int} (h1 : -100000≤j) (h2:j≤100000):rg1 (.int j)=some ((List.range j.toNat).map fun (k:Nat)=>PV.int k):=by
  have e:rg1 (.int j)=if rOk j=true then some (rngL 0 j) else none:=rfl
  rw [e,if_pos (QfM (by omega) (by omega)),rngL_0]
theorem ev_iRg1 (m:MEx) (γ:PEnv):iRg1 m γ=(m γ).bind rg1:=by
  unfold iRg1
  cases m γ with
  | none=>rfl
  | some p=>cases p <;> rfl
noncomputable def rg2:PV→PV→Option (List PV)
  | .int i,.int j=>if rOk i=true∧rOk j=true then some (rngL i j) else none
  | _,_=>none
theorem rg2_i {i j:Int} (h1 : -100000≤i) (h2:i≤100000) (h3 : -100000≤j) (h4:j≤100000):rg2 (.int i) (.int j)=some (rngL i j):=by
  have e:rg2 (.int i) (.int j)=if rOk i=true∧rOk j=true then some (rngL i j) else none:=rfl
  rw [e,if_pos ⟨QfM (by omega) (by omega),QfM (by omega) (by omega)⟩]
theorem ev_iRg2 (m1 m2:MEx) (γ:PEnv):iRg2 m1 m2 γ=(m1 γ).bind fun p=>(m2 γ).bind fun q=>rg2 p q:=by
  unfold iRg2
  cases m1 γ with
  | none=>rfl
  | some p =>
    cases m2 γ with
    | none=>rfl
    | some q=>cases p <;> cases q <;> rfl
noncomputable def itL:PV→Option (List PV)
  | .lst xs=>some xs
  | _=>none
theorem itL_l (xs:List PV):itL (.lst xs)=some xs:=rfl
theorem ev_iLst (m:MEx) (γ:PEnv):iLst m γ=(m γ).bind itL:=by
  unfold iLst
  cases m γ with
  | none=>rfl
  | some p=>cases p <;> rfl
noncomputable def itT:PV→Option (List PV)
  | .tup xs=>some xs
  | _=>none
theorem itT_t (xs:List PV):itT (.tup xs)=some xs:=rfl
noncomputable def itS:PV→Option (List PV)
  | .lst xs=>some xs
  | .tup xs=>some xs
  | _=>none
theorem itS_l (xs:List PV):itS (.lst xs)=some xs:=rfl
theorem itS_t (xs:List PV):itS (.tup xs)=some xs:=rfl
theorem ev_iSeq (m:MEx) (γ:PEnv):iSeq m γ=(m γ).bind itS:=by
  unfold iSeq
  cases m γ with
  | none=>rfl
  | some p=>cases p <;> rfl
noncomputable def cmpK (g:PV→PEnv→Option PEnv) (t:PEnv→Option Bool) (e:MEx) (γ:PEnv) (xs:List PV):Option (List PV):=if xs.length≤LIM then XA g t e γ xs else none
theorem cmpK_ok {g:PV→PEnv→Option PEnv} {t:PEnv→Option Bool} {e:MEx} {γ:PEnv} {xs:List PV} (h:xs.length≤100000):cmpK g t e γ xs=XA g t e γ xs:=if_pos (YI h)
theorem ev_mComp (mi:PEnv→Option (List PV)) (nt:Nat) (caps:List Nat) (g:PV→PEnv→Option PEnv) (t:PEnv→Option Bool) (e:MEx) (γ:PEnv):QfD mi nt caps g t e γ=(mi γ).bind (cmpK g t e (blkG nt caps γ)):=rfl
noncomputable def seqK (s2:MSt):Out→Option Out
  | .nx γ=>s2 γ
  | o=>some o
theorem seqK_nx (s2:MSt) (γ:PEnv):seqK s2 (.nx γ)=s2 γ:=rfl
theorem seqK_rt (s2:MSt) (p:PV):seqK s2 (.rt p)=some (.rt p):=rfl
theorem seqK_ro (s2:MSt) (p:List PV):seqK s2 (.ro p)=some (.ro p):=rfl
theorem seqK_ct (s2:MSt) (γ:PEnv):seqK s2 (.ct γ)=some (.ct γ):=rfl
theorem seqK_bk (s2:MSt) (γ:PEnv):seqK s2 (.bk γ)=some (.bk γ):=rfl
theorem ev_sSeq (s1 s2:MSt) (γ:PEnv):sSeq s1 s2 γ=(s1 γ).bind (seqK s2):=by
  unfold sSeq
  cases s1 γ with
  | none=>rfl
  | some o=>cases o <;> rfl
theorem ev_startG1 (N:Nat) (ps:List PV):Zj N ps=ps.map .fz++List.replicate (N - ps.length) .un:=rfl
theorem outV_rt (p:PV):outV (.rt p)=some p:=rfl
theorem outV_ro (xs:List PV):outV (.ro xs)=some (.lst xs):=rfl
theorem outV_nx (γ:PEnv):outV (.nx γ)=some .non:=rfl
theorem ev_bin2 {α:Type} (f:PV→PV→Option α) (m1 m2:MEx) (γ:PEnv):bin2 f m1 m2 γ=(m1 γ).bind fun x=>(m2 γ).bind (f x):=rfl
theorem ev_mVar (i:Nat) (γ:PEnv):mVar i γ=getV γ i:=rfl
theorem ev_mC (p:PV) (γ:PEnv):mC p γ=some p:=rfl
theorem ev_mCall {α:Type} (g:List PV→Option α) (ma:PEnv→Option (List PV)) (γ:PEnv):Qo g ma γ=(ma γ).bind g:=rfl
theorem ev_mLst (m:PEnv→Option (List PV)) (γ:PEnv):mLst m γ=(m γ).map PV.lst:=rfl
noncomputable def tupK (xs:List PV):Option PV:=if xs.length≤LIM then some (.tup xs) else none
theorem tupK_ok {xs:List PV} (h:xs.length≤100000):tupK xs=some (.tup xs):=if_pos (YI h)
theorem ev_mTup (m:PEnv→Option (List PV)) (γ:PEnv):mTup m γ=(m γ).bind tupK:=rfl
noncomputable def limK (xs:List PV):Option (List PV):=if xs.length≤LIM then some xs else none
theorem limK_ok {xs:List PV} (h:xs.length≤100000):limK xs=some xs:=if_pos (YI h)
theorem ev_mLim (m:PEnv→Option (List PV)) (γ:PEnv):mLim m γ=(m γ).bind limK:=rfl
theorem ev_aNil (γ:PEnv):aNil γ=some []:=rfl
theorem ev_aCons (m:MEx) (ma:PEnv→Option (List PV)) (γ:PEnv):Qc m ma γ=(m γ).bind fun x=>(ma γ).map (x :: ·):=rfl
theorem isB_bl (b:Bool):isB (.bl b)=some b:=rfl
theorem ev_truB (m:MEx) (γ:PEnv):truB m γ=(m γ).bind isB:=rfl
theorem ev_mIsi (f:PV→Bool) (m:MEx) (γ:PEnv):mIsi f m γ=(m γ).bind (isiK f):=rfl
theorem isiK_i (f:PV→Bool) (i:Int):isiK f (.int i)=some (.bl (f (.int i))):=rfl
theorem isiK_b (f:PV→Bool) (i:Bool):isiK f (.bl i)=some (.bl (f (.bl i))):=rfl
theorem isiK_s (f:PV→Bool) (i:Str):isiK f (.str i)=some (.bl (f (.str i))):=rfl
theorem isiK_t (f:PV→Bool) (i:List PV):isiK f (.tup i)=some (.bl (f (.tup i))):=rfl
theorem isiK_l (f:PV→Bool) (i:List PV):isiK f (.lst i)=some (.bl (f (.lst i))):=rfl
theorem isiK_0 (f:PV→Bool):isiK f .non=some (.bl (f .non)):=rfl
theorem isiK_n (f:PV→Bool) (i:Nat):isiK f (pN i)=some (.bl (f (pN i))):=rfl
theorem getV_0 (s:Slot) (γ:PEnv):getV (s :: γ) 0=s.val:=rfl
theorem getV_s (s:Slot) (γ:PEnv) (i:Nat):getV (s :: γ) (i + 1)=getV γ i:=rfl
theorem val_fz (p:PV):(Slot.fz p).val=some p:=rfl
theorem val_ow (p:List PV):(Slot.ow p).val=some (.lst p):=rfl
noncomputable def keep (k:Bool) (ms:List Nat) (γ:PEnv):PEnv:=Zd k ms γ
theorem ev_sRet (m:MEx) (γ:PEnv):sRet m γ=(m γ).map .rt:=rfl
theorem ev_sRetO (m:PEnv→Option (List PV)) (γ:PEnv):Qcw m γ=(m γ).map .ro:=rfl
noncomputable def retS:Option Slot→Option Out
  | some (.ow xs)=>some (.ro xs)
  | some (.fz p)=>some (.rt p)
  | _=>none
theorem retS_ow (xs:List PV):retS (some (.ow xs))=some (.ro xs):=rfl
theorem retS_fz (p:PV):retS (some (.fz p))=some (.rt p):=rfl
theorem ev_sRetV (i:Nat) (γ:PEnv):Qaj i γ=retS γ[i]?:=by
  unfold Qaj
  cases γ[i]? with
  | none=>rfl
  | some s=>cases s <;> rfl
noncomputable def ifK (s1 s2:MSt) (γ:PEnv) (k:Bool):Option Out:=if k=true then s1 γ else s2 γ
theorem ifK_t (s1 s2:MSt) (γ:PEnv):ifK s1 s2 γ true=s1 γ:=rfl
theorem ifK_f (s1 s2:MSt) (γ:PEnv):ifK s1 s2 γ false=s2 γ:=rfl
theorem ev_sIf (t:PEnv→Option Bool) (s1 s2:MSt) (γ:PEnv):sIf t s1 s2 γ=(t γ).bind (ifK s1 s2 γ):=rfl
theorem ev_sNx (γ:PEnv):sNx γ=some (.nx γ):=rfl
theorem ev_sBk (γ:PEnv):sBk γ=some (.bk γ):=rfl
theorem ev_sCt (γ:PEnv):sCt γ=some (.ct γ):=rfl
theorem ev_sSet (ms:List Nat) (i:Nat) (m:MEx) (γ:PEnv):sSet ms i m γ=(m γ).map fun r => .nx ((Zd (flat r) ms γ).set i (.fz r)):=rfl
theorem ev_sSetO (ms:List Nat) (i:Nat) (m:PEnv→Option (List PV)) (γ:PEnv):Yw ms i m γ=(m γ).map fun xs => .nx ((Zd (xs.all flat) ms γ).set i (.ow xs)):=rfl
theorem ev_gSet (i:Nat) (p:PV) (γ:PEnv):gSet i p γ=some (γ.set i (.fz p)):=rfl
theorem gSet2_t (i j:Nat) (x y:PV) (γ:PEnv):gSet2 i j (.tup [x,y]) γ=some ((γ.set i (.fz x)).set j (.fz y)):=rfl
theorem gSet3_t (i j k:Nat) (x y z:PV) (γ:PEnv):QhG i j k (.tup [x,y,z]) γ=some (((γ.set i (.fz x)).set j (.fz y)).set k (.fz z)):=rfl
theorem ev_sAsg (ms:List Nat) (g:PV→PEnv→Option PEnv) (m:MEx) (γ:PEnv):sAsg ms g m γ=(m γ).bind fun r=>(g r (Zd (flat r) ms γ)).map .nx:=rfl
noncomputable def appK (ms:List Nat) (i:Nat) (γ:PEnv) (r:PV):Option Slot→Option Out
  | some (.ow xs)=>if xs.length < LIM∧(flat r || !ms.contains i)=true then some (.nx ((Zd (flat r) ms γ).set i (.ow (xs++[r])))) else none
  | _=>none
theorem QdV {ms:List Nat} {i:Nat} {γ:PEnv} {r:PV} {xs:List PV} (h:xs.length≤100000) (h2:(flat r || !ms.contains i)=true):appK ms i γ r (some (.ow xs))=some (.nx ((Zd (flat r) ms γ).set i (.ow (xs++[r])))):=if_pos ⟨lt_lim h,h2⟩
theorem ev_sApp (ms:List Nat) (i:Nat) (m:MEx) (γ:PEnv):sApp ms i m γ=(m γ).bind fun r=>appK ms i γ r γ[i]?:=by
  unfold sApp
  cases γ[i]? with
  | none=>cases m γ <;> rfl
  | some s =>
    cases s with
    | ow xs=>rfl
    | _=>cases m γ <;> rfl
noncomputable def sixK (ms:List Nat) (i:Nat) (γ:PEnv) (r k:PV):Option Slot→Option Out
  | some (.ow xs)=>match k with
    | .int j=>(ixN xs.length j).bind fun n=>if (flat r || !ms.contains i)=true then some (.nx ((Zd (flat r) ms γ).set i (.ow (xs.set n r)))) else none
    | _=>none
  | _=>none
theorem sixK_ow {ms:List Nat} {i:Nat} {γ:PEnv} {r:PV} {xs:List PV} {j:Int} (h0:0≤j) (h1:j < xs.length) (h2:(flat r || !ms.contains i)=true):sixK ms i γ r (.int j) (some (.ow xs))=some (.nx ((Zd (flat r) ms γ).set i (.ow (xs.set j.toNat r)))):=by
  show ((ixN xs.length j).bind fun n=>if (flat r || !ms.contains i)=true then some (Out.nx ((Zd (flat r) ms γ).set i (.ow (xs.set n r)))) else none)=_
  unfold ixN
  rw [if_pos h0,if_pos h1,Option.bind_some,if_pos h2]
theorem ev_sSetIx (ms:List Nat) (i:Nat) (mv mi:MEx) (γ:PEnv):YY ms i mv mi γ=(mv γ).bind fun r=>(mi γ).bind fun k=>sixK ms i γ r k γ[i]?:=by
  unfold YY
  cases γ[i]? with
  | none=>cases mv γ <;> cases mi γ <;> rfl
  | some s =>
    cases s with
    | ow xs =>
      cases mv γ with
      | none=>rfl
      | some r =>
        cases mi γ with
        | none=>rfl
        | some k=>cases k <;> rfl
    | _=>cases mv γ <;> cases mi γ <;> rfl
theorem ev_sFor (ms:List Nat) (mi:PEnv→Option (List PV)) (g:PV→PEnv→Option PEnv) (b:MSt) (γ:PEnv):sFor ms mi g b γ=(mi γ).bind fun xs=>forL g b xs (frz ms γ):=rfl
theorem ev_sForR (mi:PEnv→Option (List PV)) (g:PV→PEnv→Option PEnv) (b:MSt) (γ:PEnv):Qak mi g b γ=(mi γ).bind fun xs=>forL g b xs γ:=rfl
noncomputable def capO:Option PV→Slot
  | some p => .fz p
  | none => .un
theorem capO_s (p:PV):capO (some p) = .fz p:=rfl
theorem ev_capS (γ:PEnv) (j:Nat):capS γ j=capO (getV γ j):=by
  unfold capS
  cases getV γ j <;> rfl
theorem ev_blkG (nt:Nat) (caps:List Nat) (γ:PEnv):blkG nt caps γ=List.replicate nt .un++caps.map (capS γ):=rfl
theorem ev_tYesM (γ:PEnv):Qbw γ=some true:=rfl
theorem ev_mTru (m:MEx) (γ:PEnv):mTru m γ=(m γ).bind tru:=rfl
theorem tru_i (i:Int):tru (.int i)=some (i != 0):=rfl
theorem tru_b (i:Bool):tru (.bl i)=some i:=rfl
theorem tru_l (i:List PV):tru (.lst i)=some (!i.isEmpty):=rfl
theorem tru_t (i:List PV):tru (.tup i)=some (!i.isEmpty):=rfl
noncomputable def andK (t2:PEnv→Option Bool) (γ:PEnv) (x:Bool):Option Bool:=if x=true then t2 γ else some false
theorem andK_t (t2:PEnv→Option Bool) (γ:PEnv):andK t2 γ true=t2 γ:=rfl
theorem andK_f (t2:PEnv→Option Bool) (γ:PEnv):andK t2 γ false=some false:=rfl
theorem ev_bAnd (t1 t2:PEnv→Option Bool) (γ:PEnv):bAnd t1 t2 γ=(t1 γ).bind (andK t2 γ):=rfl
noncomputable def orK (t2:PEnv→Option Bool) (γ:PEnv) (x:Bool):Option Bool:=if x=true then some true else t2 γ
theorem orK_t (t2:PEnv→Option Bool) (γ:PEnv):orK t2 γ true=some true:=rfl
theorem orK_f (t2:PEnv→Option Bool) (γ:PEnv):orK t2 γ false=t2 γ:=rfl
theorem ev_bOr (t1 t2:PEnv→Option Bool) (γ:PEnv):bOr t1 t2 γ=(t1 γ).bind (orK t2 γ):=rfl
theorem ev_bNot (t1:PEnv→Option Bool) (γ:PEnv):bNot t1 γ=(t1 γ).map not:=rfl
noncomputable def vAndK (m2:MEx) (γ:PEnv) (k:Bool):Option PV:=if k=true then m2 γ else some (.bl false)
theorem vAndK_t (m2:MEx) (γ:PEnv):vAndK m2 γ true=m2 γ:=rfl
theorem vAndK_f (m2:MEx) (γ:PEnv):vAndK m2 γ false=some (.bl false):=rfl
theorem ev_vAnd (m1 m2:MEx) (γ:PEnv):vAnd m1 m2 γ=(m1 γ).bind fun x=>(isB x).bind (vAndK m2 γ):=rfl
noncomputable def vOrK (m2:MEx) (γ:PEnv) (k:Bool):Option PV:=if k=true then some (.bl true) else m2 γ
theorem vOrK_t (m2:MEx) (γ:PEnv):vOrK m2 γ true=some (.bl true):=rfl
theorem vOrK_f (m2:MEx) (γ:PEnv):vOrK m2 γ false=m2 γ:=rfl
theorem ev_vOr (m1 m2:MEx) (γ:PEnv):vOr m1 m2 γ=(m1 γ).bind fun x=>(isB x).bind (vOrK m2 γ):=rfl
theorem ev_vNot (m1:MEx) (γ:PEnv):vNot m1 γ=(m1 γ).bind fun x=>(isB x).map fun k => .bl (!k):=rfl
noncomputable def chK (g:PV→PV→Option PV) (m3:MEx) (γ:PEnv) (y:PV) (k:Bool):Option PV:=if k=true then (m3 γ).bind fun w=>g y w else some (.bl false)
theorem chK_t (g:PV→PV→Option PV) (m3:MEx) (γ:PEnv) (y:PV):chK g m3 γ y true=(m3 γ).bind (g y):=rfl
theorem chK_f (g:PV→PV→Option PV) (m3:MEx) (γ:PEnv) (y:PV):chK g m3 γ y false=some (.bl false):=rfl
theorem ev_ch3 (f g:PV→PV→Option PV) (m1 m2 m3:MEx) (γ:PEnv):ch3 f g m1 m2 m3 γ=(m1 γ).bind fun x=>(m2 γ).bind fun y=>(f x y).bind fun z=>(isB z).bind (chK g m3 γ y):=rfl
noncomputable def mtK {α:Type} (T:String) (g:PV→List PV→Option α) (q:Option (List PV)) (p:PV):Option α:=if tyOk T p=true then q.bind (g p) else none
theorem mtK_i {α:Type} (g:PV→List PV→Option α) (q:Option (List PV)) (i:Int):mtK "int" g q (.int i)=q.bind (g (.int i)):=rfl
theorem mtK_s {α:Type} (g:PV→List PV→Option α) (q:Option (List PV)) (i:Str):mtK "str" g q (.str i)=q.bind (g (.str i)):=rfl
theorem mtK_l {α:Type} (g:PV→List PV→Option α) (q:Option (List PV)) (i:List PV):mtK "list" g q (.lst i)=q.bind (g (.lst i)):=rfl
theorem ev_mMt {α:Type} (T:String) (g:PV→List PV→Option α) (m:MEx) (ma:PEnv→Option (List PV)) (γ:PEnv):mMt T g m ma γ=(m γ).bind (mtK T g (ma γ)):=rfl
theorem ev_mMt0 {α:Type} (T:String) (g:PV→List PV→Option α) (m:MEx) (γ:PEnv):mMt0 T g m γ=(m γ).bind (mtK T g (some [])):=rfl
theorem ev_sl3 {α:Type} (f:PV→Option Int→Option Int→Option α) (m:MEx) (ml mh:PEnv→Option (Option Int)) (γ:PEnv):sl3 f m ml mh γ=(m γ).bind fun x=>(ml γ).bind fun l=>(mh γ).bind (f x l):=rfl
theorem ev_mNo (γ:PEnv):mNo γ=some none:=rfl
theorem ev_mSo (m:MEx) (γ:PEnv):mSo m γ=(m γ).bind pInt:=rfl
theorem pInt_i (i:Int):pInt (.int i)=some (some i):=rfl
theorem pCut_l (xs:List PV) (lo hi:Option Int):pCut (.lst xs) lo hi=some (cutP xs lo hi):=rfl
theorem pCutS_s {z:Str} (h:z.length≤100000) (lo hi:Option Int):Qhz (.str z) lo hi=some (.str (Txt.slice z lo hi)):=if_pos (YI h)
theorem pTuple_l (xs:List PV):QaG [.lst xs]=some (.tup xs):=rfl
theorem pTuple_t (xs:List PV):QaG [.tup xs]=some (.tup xs):=rfl
theorem pAdd_s {a b:Str} (h:a.length + b.length≤100000):pAdd (.str a) (.str b)=some (.str (a++b)):=if_pos (YI h)
theorem pCat_l {a b:List PV} (h:a.length + b.length≤100000):pCat (.lst a) (.lst b)=some (a++b):=if_pos (YI h)
theorem tru_bit (b:Bool):(((if b=true then 1 else 0):Int) != 0)=b:=by cases b <;> rfl
theorem isInt_i (i:Int):isInt (.int i)=true:=rfl
theorem isBl_i (i:Int):isBl (.int i)=false:=rfl
theorem isBl_b (i:Bool):isBl (.bl i)=true:=rfl
theorem isStr_s (i:Str):Qej (.str i)=true:=rfl
theorem isTup_t (i:List PV):Qei (.tup i)=true:=rfl
theorem isTup_l (i:List PV):Qei (.lst i)=false:=rfl
theorem isLst_l (i:List PV):isLst (.lst i)=true:=rfl
theorem isN_i (i:Int):isN (.int i)=false:=rfl
theorem isN_n:isN .non=true:=rfl
theorem isN_t (i:List PV):isN (.tup i)=false:=rfl
theorem forL_nil (g:PV→PEnv→Option PEnv) (b:MSt) (γ:PEnv):forL g b [] γ=some (.nx γ):=rfl
theorem runV_0 {N:Nat} {m:MSt}:runV N 0 m []=(m (Zj N [])).bind outV:=rfl
theorem runV_1 {N:Nat} {m:MSt} {a0:PV}:runV N 1 m [a0]=(m (Zj N [a0])).bind outV:=rfl
theorem runV_2 {N:Nat} {m:MSt} {a0 a1:PV}:runV N 2 m [a0,a1]=(m (Zj N [a0,a1])).bind outV:=rfl
theorem runV_3 {N:Nat} {m:MSt} {a0 a1 a2:PV}:runV N 3 m [a0,a1,a2]=(m (Zj N [a0,a1,a2])).bind outV:=rfl
theorem runV_4 {N:Nat} {m:MSt} {a0 a1 a2 a3:PV}:runV N 4 m [a0,a1,a2,a3]=(m (Zj N [a0,a1,a2,a3])).bind outV:=rfl
theorem runV_5 {N:Nat} {m:MSt} {a0 a1 a2 a3 a4:PV}:runV N 5 m [a0,a1,a2,a3,a4]=(m (Zj N [a0,a1,a2,a3,a4])).bind outV:=rfl
theorem runV_6 {N:Nat} {m:MSt} {a0 a1 a2 a3 a4 a5:PV}:runV N 6 m [a0,a1,a2,a3,a4,a5]=(m (Zj N [a0,a1,a2,a3,a4,a5])).bind outV:=rfl
theorem runV_7 {N:Nat} {m:MSt} {a0 a1 a2 a3 a4 a5 a6:PV}:runV N 7 m [a0,a1,a2,a3,a4,a5,a6]=(m (Zj N [a0,a1,a2,a3,a4,a5,a6])).bind outV:=rfl
noncomputable def frzS:Slot→Slot
  | .ow xs => .fz (.lst xs)
  | .od kvs => .fz (.dcw kvs)
  | s=>s
theorem frzS_ow (xs:List PV):frzS (.ow xs) = .fz (.lst xs):=rfl
theorem frzS_fz (p:PV):frzS (.fz p) = .fz p:=rfl
theorem frzS_un:frzS .un = .un:=rfl
theorem frz_nil (γ:PEnv):frz [] γ=γ:=rfl
theorem frz_cons (i:Nat) (ms:List Nat) (γ:PEnv):frz (i :: ms) γ=frz ms (frz1 γ i):=rfl
theorem frz1_0 (s:Slot) (γ:PEnv):frz1 (s :: γ) 0=frzS s :: γ:=by cases s <;> rfl
theorem frz1_s (s:Slot) (γ:PEnv) (i:Nat):frz1 (s :: γ) (i + 1)=s :: frz1 γ i:=by
  unfold frz1
  rw [List.getElem?_cons_succ]
  cases γ[i]? with
  | none=>rfl
  | some t=>cases t <;> rfl
theorem ev_mN (n:Nat) (γ:PEnv):mN n γ=some (pN n):=rfl
noncomputable def encN (xs:List Nat):List PV:=xs.map pN
theorem encN_len (xs:List Nat):(encN xs).length=xs.length:=List.length_map _
theorem flat_n (n:Nat):flat (pN n)=true:=rfl
theorem encN_flat (xs:List Nat):(encN xs).all flat=true:=by
  unfold encN
  rw [List.all_map,List.all_eq_true]
  exact fun _ _=>rfl
theorem pAdd_n (a b:Nat):pAdd (pN a) (pN b)=some (pN (a + b)):=by
  unfold pN;rw [pAdd_i];simp
theorem pSub_n {a b:Nat} (h:b≤a):pSub (pN a) (pN b)=some (pN (a - b)):=by
  unfold pN;rw [pSub_i,Int.ofNat_sub h]
theorem pMul_ln {a b:Nat} (h:a < 2 ^ 60):pMul (pN a) (pN b)=some (pN (a * b)):=by
  unfold pN;rw [pMul_l (by omega) (by omega)];simp
theorem pMul_rn {a b:Nat} (h:b < 2 ^ 60):pMul (pN a) (pN b)=some (pN (a * b)):=by
  unfold pN;rw [pMul_r (by omega) (by omega)];simp
theorem pMod_n {a b:Nat} (h:0 < b):pMod (pN a) (pN b)=some (pN (a % b)):=by
  unfold pN;rw [pMod_i (by omega)];simp
theorem pMod_in {c:Int} {b:Nat} (h:0 < b):pMod (.int c) (pN b)=some (pN (c % (b:Int)).toNat):=by
  unfold pN;rw [pMod_i (by omega),Int.toNat_of_nonneg (Int.emod_nonneg _ (by omega))]
theorem pDiv_n {a b:Nat} (h:0 < b) (h2:b < 2 ^ 100):pDiv (pN a) (pN b)=some (pN (a / b)):=by
  unfold pN;rw [pDiv_i (by omega) (by omega)];simp
theorem pDiv_in {c:Int} {b:Nat} (h:0 < b) (h2:b < 2 ^ 100):pDiv (.int c) (pN b)=some (.int (c / (b:Int))):=by
  unfold pN;rw [pDiv_i (by omega) (by omega)]
theorem pLt_n (a b:Nat):pLt (pN a) (pN b)=some (.bl (decide (a < b))):=by
  unfold pN;rw [pLt_i];simp
theorem pLe_n (a b:Nat):pLe (pN a) (pN b)=some (.bl (decide (a≤b))):=by
  unfold pN;rw [pLe_i];simp
theorem pGt_n (a b:Nat):pGt (pN a) (pN b)=some (.bl (decide (b < a))):=by
  unfold pN;rw [pGt_i];simp
theorem QaP (a b:Nat):((a:Int)==(b:Int))=(a==b):=by
  rw [Bool.eq_iff_iff,beq_iff_eq,beq_iff_eq];exact Int.ofNat_inj
theorem pEq_n (a b:Nat):pEq (pN a) (pN b)=some (.bl (a==b)):=by
  unfold pN;rw [pEq_i,QaP]
theorem pNe_n (a b:Nat):pNe (pN a) (pN b)=some (.bl (!(a==b))):=by
  unfold pN;rw [pNe_i,QaP]
theorem testBit_odd (m k:Nat):((m / 2 ^ k)&&&1 != 0)=m.testBit k:=by
  rw [Nat.testBit,Nat.shiftRight_eq_div_pow,Nat.and_comm]
theorem testBit_mod (m k:Nat):(m / 2 ^ k % 2==1)=m.testBit k:=by
  rw [← testBit_odd,Nat.and_one_is_mod]
  have h:m / 2 ^ k % 2=0∨m / 2 ^ k % 2=1:=by omega
  rcases h with h | h <;> rw [h] <;> rfl
theorem pLen_ln (xs:List PV):pLen [.lst xs]=some (pN xs.length):=rfl
theorem pLen_tn (xs:List PV):pLen [.tup xs]=some (pN xs.length):=rfl
theorem pLen_sn {z:Str} (h:z.length≤100000):pLen [.str z]=some (pN z.length):=if_pos (YI h)
theorem rg1_n {n:Nat} (h:n≤100000):rg1 (pN n)=some (encN (List.range n)):=by
  unfold pN;rw [rg1_i (by omega) (by omega),Int.toNat_natCast];rfl
theorem mtK_n {α:Type} (g:PV→List PV→Option α) (q:Option (List PV)) (i:Nat):mtK "int" g q (pN i)=q.bind (g (pN i)):=rfl
theorem isInt_n (i:Nat):isInt (pN i)=true:=rfl
theorem isBl_n (i:Nat):isBl (pN i)=false:=rfl
theorem isTup_n (i:Nat):Qei (pN i)=false:=rfl
theorem isN_pn (i:Nat):isN (pN i)=false:=rfl
theorem tru_n (i:Nat):tru (pN i)=some (i != 0):=by
  unfold pN;rw [tru_i]
  have:=QaP i 0
  show some (!((i:Int)==((0:Nat):Int)))=_
  rw [this];rfl
theorem atI_last1 (xs:List PV) (v:PV):atI (xs++[v]) (-((1:Nat):Int))=some v:=atI_last xs v
theorem pInt_n (i:Nat):pInt (pN i)=some (some (i:Int)):=rfl
theorem QeW {α:Type} (xs:List α) (i:Nat):atI xs (i:Int)=xs[i]?:=by
  cases h:xs[i]? with
  | some v=>exact QgA h
  | none =>
    have:=List.getElem?_eq_none_iff.mp h
    unfold atI ixN
    rw [if_pos (by omega),if_neg (by omega)]
    rfl
theorem pIx_ln (xs:List PV) (i:Nat):pIx (.lst xs) (pN i)=xs[i]?:=QeW xs i
theorem pIx_tn (xs:List PV) (i:Nat):pIx (.tup xs) (pN i)=xs[i]?:=QeW xs i
theorem encN_get (xs:List Nat) (i:Nat):(encN xs)[i]?=(xs[i]?).map pN:=by unfold encN;rw [List.getElem?_map]
theorem sixK_n {ms:List Nat} {i:Nat} {γ:PEnv} {r:PV} {xs:List PV} {j:Nat} (h1:j < xs.length) (h2:(flat r || !ms.contains i)=true):sixK ms i γ r (pN j) (some (.ow xs))=some (.nx ((Zd (flat r) ms γ).set i (.ow (xs.set j r)))):=by
  have:=sixK_ow (ms:=ms) (i:=i) (γ:=γ) (r:=r) (xs:=xs) (j:=(j:Int)) (by omega) (by omega) h2
  rw [Int.toNat_natCast] at this
  exact this
theorem peq_pn (a b:Nat):peq (pN a) (pN b)=(a==b):=by
  unfold pN
  have:peq (.int (a:Int)) (.int (b:Int))=((a:Int)==(b:Int)):=rfl
  rw [this,QaP]
theorem okv_n (a:Nat):okv (pN a)=true:=Xl _
theorem QeG (xs:List Nat):(encN xs).all okv=true:=by
  unfold encN
  rw [List.all_map,List.all_eq_true]
  exact fun _ _=>okv_n _
theorem any_pn (k:Nat) (xs:List Nat):((encN xs).any fun y=>peq y (pN k))=decide (k∈xs):=by
  unfold encN
  rw [List.any_map,Bool.eq_iff_iff,List.any_eq_true]
  simp [peq_pn]
theorem pIn_nl (k:Nat) (xs:List Nat):pIn (pN k) (.lst (encN xs))=some (.bl (decide (k∈xs))):=by
  have e:pIn (pN k) (.lst (encN xs))=if okv (pN k)=true∧(encN xs).all okv=true then some (.bl ((encN xs).any fun y=>peq y (pN k))) else none:=rfl
  rw [e,if_pos ⟨okv_n k,QeG xs⟩,any_pn]
theorem pIn_nt (k:Nat) (xs:List Nat):pIn (pN k) (.tup (encN xs))=some (.bl (decide (k∈xs))):=by
  have e:pIn (pN k) (.tup (encN xs))=if okv (pN k)=true∧(encN xs).all okv=true then some (.bl ((encN xs).any fun y=>peq y (pN k))) else none:=rfl
  rw [e,if_pos ⟨okv_n k,QeG xs⟩,any_pn]
end L2.PM

noncomputable section
namespace L2.PM
open PySem PySem.Spec PyProof.Rows

theorem cutP_map {α β:Type} (f:α→β) (xs:List α) (lo hi:Option Int):cutP (xs.map f) lo hi=(cutP xs lo hi).map f:=by
  unfold cutP
  rw [List.length_map,← List.map_drop,← List.map_take]
theorem cutP_len {α:Type} (xs:List α) (lo hi:Option Int):(cutP xs lo hi).length≤xs.length:=by
  unfold cutP
  rw [List.length_take,List.length_drop]
  omega
theorem cutP_0n {α:Type} (xs:List α) (b:Nat):cutP xs none (some (b:Int))=xs.take b:=by
  unfold cutP
  rw [HT.sIx_nat,HT.sIx_none]
  simp
theorem Qcg {α:Type} (xs:List α) (a:Nat):cutP xs (some (a:Int)) none=xs.drop a:=by
  unfold cutP
  rw [HT.sIx_nat,HT.sIx_none]
  rw [List.take_of_length_le (by rw [List.length_drop];omega)]
  by_cases h:a≤xs.length
  · rw [Nat.min_eq_left h]
  · rw [Nat.min_eq_right (by omega),List.drop_length,List.drop_of_length_le (by omega)]
theorem QeF {ss:List Str} (h:∀ s∈ss,PyData.strOk s=true):(ss.map PV.str).all okv=true:=by
  rw [List.all_map,List.all_eq_true]
  exact fun s hs=>ZU (h s hs)
theorem peq_s (a b:Str):peq (.str a) (.str b)=(a==b):=rfl
theorem pIn_sl {s:Str} {ss:List Str} (h:PyData.strOk s=true) (hs:∀ s∈ss,PyData.strOk s=true):pIn (.str s) (.lst (ss.map .str))=some (.bl (ss.any (·==s))):=by
  have e:pIn (.str s) (.lst (ss.map .str))=if okv (.str s)=true∧(ss.map PV.str).all okv=true then some (.bl ((ss.map PV.str).any fun y=>peq y (.str s))) else none:=rfl
  rw [e,if_pos ⟨ZU h,QeF hs⟩,List.any_map]
  congr 3
theorem pIn_st {s:Str} {ss:List Str} (h:PyData.strOk s=true) (hs:∀ s∈ss,PyData.strOk s=true):pIn (.str s) (.tup (ss.map .str))=some (.bl (ss.any (·==s))):=by
  have e:pIn (.str s) (.tup (ss.map .str))=if okv (.str s)=true∧(ss.map PV.str).all okv=true then some (.bl ((ss.map PV.str).any fun y=>peq y (.str s))) else none:=rfl
  rw [e,if_pos ⟨ZU h,QeF hs⟩,List.any_map]
  congr 3
theorem Qee {a b:Str} (ha:PyData.strOk a=true) (hb:PyData.strOk b=true):pEq (.str a) (.str b)=some (.bl (a==b)):=by rw [QbB (ZU ha) (ZU hb),peq_s]
theorem Qfw {a b:Str} (ha:PyData.strOk a=true) (hb:PyData.strOk b=true):pNe (.str a) (.str b)=some (.bl (!(a==b))):=by rw [QcN (ZU ha) (ZU hb),peq_s]
theorem allflat_nats (ns:List Nat):(ns.map fun (k:Nat)=>PV.int k).all flat=true:=by simp [flat]
theorem XS (a b:Str):(a++b).length=a.length + b.length:=by
  show (a.cps++b.cps).size=_
  rw [Array.size_append];rfl
theorem QgH (sep:Str):Txt.join sep []=("":Str):=by
  unfold Txt.join
  rw [StrLaws.glued_eq_join]
  rfl
theorem QgG (sep x:Str):Txt.join sep [x]=x:=by
  unfold Txt.join
  rw [StrLaws.glued_eq_join]
  rfl
theorem Qfa (sep x:Str) (y:Str) (r:List Str):Txt.join sep (x :: y :: r)=x++sep++Txt.join sep (y :: r):=by
  unfold Txt.join
  rw [StrLaws.glued_eq_join,StrLaws.glued_eq_join]
  rfl
theorem Qdz (sep:Str) (ss:List Str):(Txt.join sep ss).length=(ss.map Str.length).sum + (ss.length - 1) * sep.length:=by
  unfold Txt.join
  exact PySem.size_glued sep ss
theorem Qgc (ss:List Str) (b:Nat) (h:∀ s∈ss,s.length≤b):(ss.map Str.length).sum≤ss.length * b:=by
  induction ss with
  | nil=>simp
  | cons x l ih =>
    have h1:=ih fun k hk=>h k (List.mem_cons_of_mem _ hk)
    have h2:=h x (by simp)
    simp only [List.map_cons,List.sum_cons,List.length_cons,Nat.succ_mul]
    omega
theorem EVc:type_of% (And.intro (And.intro (And.intro (And.intro (And.intro (And.intro (And.intro @ev_mN (And.intro @encN_len @encN_flat)) (And.intro @flat_n (And.intro @pAdd_n @pSub_n))) (And.intro (And.intro @pMul_ln (And.intro @pMul_rn @pMod_n)) (And.intro (And.intro @pMod_in @pDiv_n) (And.intro @pDiv_in @pLt_n)))) (And.intro (And.intro (And.intro @pLe_n (And.intro @pGt_n @pEq_n)) (And.intro @pNe_n (And.intro @testBit_odd @testBit_mod))) (And.intro (And.intro @rg1_n (And.intro @mtK_n @isInt_n)) (And.intro (And.intro @isBl_n @isTup_n) (And.intro @isN_pn @tru_n))))) (And.intro (And.intro (And.intro (And.intro @atI_last1 (And.intro @pInt_n @pIx_ln)) (And.intro @pIx_tn (And.intro @encN_get @sixK_n))) (And.intro (And.intro @pIn_nl (And.intro @pIn_nt @runV_0)) (And.intro (And.intro @runV_1 @runV_2) (And.intro @runV_3 @runV_4)))) (And.intro (And.intro (And.intro @runV_5 (And.intro @runV_6 @runV_7)) (And.intro @ev_startG1 (And.intro @ev_sSeq @seqK_nx))) (And.intro (And.intro @seqK_rt (And.intro @seqK_ro @seqK_ct)) (And.intro (And.intro @seqK_bk @ev_sSet) (And.intro @ev_sSetO @ev_sRet)))))) (And.intro (And.intro (And.intro (And.intro (And.intro @ev_sRetO (And.intro @ev_sRetV @retS_ow)) (And.intro @retS_fz (And.intro @ev_sIf @ifK_t))) (And.intro (And.intro @ifK_f (And.intro @ev_sNx @ev_sBk)) (And.intro (And.intro @ev_sCt @ev_bin2) (And.intro @ev_mVar @ev_mC)))) (And.intro (And.intro (And.intro @ev_mCall (And.intro @ev_mLst @ev_mTup)) (And.intro @tupK_ok (And.intro @ev_mLim @limK_ok))) (And.intro (And.intro @ev_aCons (And.intro @ev_aNil @ev_truB)) (And.intro (And.intro @isB_bl @ev_mIsi) (And.intro @isiK_i @isiK_b))))) (And.intro (And.intro (And.intro (And.intro @isiK_s (And.intro @isiK_t @isiK_l)) (And.intro @isiK_0 (And.intro @isiK_n @getV_0))) (And.intro (And.intro @getV_s (And.intro @val_fz @val_ow)) (And.intro (And.intro @pAdd_i @pSub_i) (And.intro @pLt_i @pLe_i)))) (And.intro (And.intro (And.intro @pGt_i (And.intro @pEq_i @pNe_i)) (And.intro (And.intro @pLen_ln @pLen_tn) (And.intro @pIx_lst @pIx_tup))) (And.intro (And.intro @keepE_true (And.intro @keepE_false @flat_int)) (And.intro (And.intro @flat_bl @flat_str) (And.intro @flat_non @flat_tup))))))) (And.intro (And.intro (And.intro (And.intro (And.intro (And.intro @flat_lst (And.intro @outV_rt @outV_ro)) (And.intro @outV_nx (And.intro @ev_bAnd @andK_t))) (And.intro (And.intro @andK_f (And.intro @ev_bOr @orK_t)) (And.intro (And.intro @orK_f @ev_bNot) (And.intro @ev_vAnd @vAndK_t)))) (And.intro (And.intro (And.intro @vAndK_f (And.intro @ev_vOr @vOrK_t)) (And.intro @vOrK_f (And.intro @ev_vNot @ev_ch3))) (And.intro (And.intro @chK_t (And.intro @chK_f @ev_mMt0)) (And.intro (And.intro @ev_mMt @mtK_i) (And.intro @mtK_s @mtK_l))))) (And.intro (And.intro (And.intro (And.intro @ev_sForR (And.intro @ev_sFor @ev_mComp)) (And.intro @cmpK_ok (And.intro @ev_iRg1 @rg1_i))) (And.intro (And.intro @ev_iRg2 (And.intro @rg2_i @ev_iLst)) (And.intro (And.intro @itL_l @itT_t) (And.intro @ev_iSeq @itS_l)))) (And.intro (And.intro (And.intro @itS_t (And.intro @ev_blkG @ev_capS)) (And.intro @capO_s (And.intro @ev_gSet @gSet2_t))) (And.intro (And.intro @gSet3_t (And.intro @ev_mTru @tru_i)) (And.intro (And.intro @tru_b @tru_l) (And.intro @tru_t @ev_tYesM)))))) (And.intro (And.intro (And.intro (And.intro (And.intro @pMod_i (And.intro @pDiv_i @pMul_l)) (And.intro @pMul_r (And.intro @tru_bit @ev_sl3))) (And.intro (And.intro @ev_mNo (And.intro @ev_mSo @pInt_i)) (And.intro (And.intro @pCut_l @pCutS_s) (And.intro @pTuple_l @pTuple_t)))) (And.intro (And.intro (And.intro @pLen_sn (And.intro @pAdd_s @pCat_l)) (And.intro @isInt_i (And.intro @isBl_i @isBl_b))) (And.intro (And.intro @isStr_s (And.intro @isTup_t @isTup_l)) (And.intro (And.intro @isLst_l @isN_i) (And.intro @isN_n @isN_t))))) (And.intro (And.intro (And.intro (And.intro @forL_nil (And.intro @frz_nil @frz_cons)) (And.intro @frz1_0 (And.intro @frz1_s @frzS_ow))) (And.intro (And.intro @frzS_fz (And.intro @frzS_un @ev_sAsg)) (And.intro (And.intro @ev_sApp @ev_sSetIx) (And.intro @sixK_ow @allflat_ints)))) (And.intro (And.intro (And.intro @allflat_strs (And.intro @allflat_nats @cutP_map)) (And.intro (And.intro @Nat.not_lt_zero @decide_true) (And.intro @decide_false @Bool.not_true))) (And.intro (And.intro @Bool.not_false (And.intro @Bool.true_or @Bool.false_or)) (And.intro (And.intro @Bool.or_true @Bool.or_false) (And.intro @Bool.true_and @Bool.false_and)))))))):=(And.intro (And.intro (And.intro (And.intro (And.intro (And.intro (And.intro @ev_mN (And.intro @encN_len @encN_flat)) (And.intro @flat_n (And.intro @pAdd_n @pSub_n))) (And.intro (And.intro @pMul_ln (And.intro @pMul_rn @pMod_n)) (And.intro (And.intro @pMod_in @pDiv_n) (And.intro @pDiv_in @pLt_n)))) (And.intro (And.intro (And.intro @pLe_n (And.intro @pGt_n @pEq_n)) (And.intro @pNe_n (And.intro @testBit_odd @testBit_mod))) (And.intro (And.intro @rg1_n (And.intro @mtK_n @isInt_n)) (And.intro (And.intro @isBl_n @isTup_n) (And.intro @isN_pn @tru_n))))) (And.intro (And.intro (And.intro (And.intro @atI_last1 (And.intro @pInt_n @pIx_ln)) (And.intro @pIx_tn (And.intro @encN_get @sixK_n))) (And.intro (And.intro @pIn_nl (And.intro @pIn_nt @runV_0)) (And.intro (And.intro @runV_1 @runV_2) (And.intro @runV_3 @runV_4)))) (And.intro (And.intro (And.intro @runV_5 (And.intro @runV_6 @runV_7)) (And.intro @ev_startG1 (And.intro @ev_sSeq @seqK_nx))) (And.intro (And.intro @seqK_rt (And.intro @seqK_ro @seqK_ct)) (And.intro (And.intro @seqK_bk @ev_sSet) (And.intro @ev_sSetO @ev_sRet)))))) (And.intro (And.intro (And.intro (And.intro (And.intro @ev_sRetO (And.intro @ev_sRetV @retS_ow)) (And.intro @retS_fz (And.intro @ev_sIf @ifK_t))) (And.intro (And.intro @ifK_f (And.intro @ev_sNx @ev_sBk)) (And.intro (And.intro @ev_sCt @ev_bin2) (And.intro @ev_mVar @ev_mC)))) (And.intro (And.intro (And.intro @ev_mCall (And.intro @ev_mLst @ev_mTup)) (And.intro @tupK_ok (And.intro @ev_mLim @limK_ok))) (And.intro (And.intro @ev_aCons (And.intro @ev_aNil @ev_truB)) (And.intro (And.intro @isB_bl @ev_mIsi) (And.intro @isiK_i @isiK_b))))) (And.intro (And.intro (And.intro (And.intro @isiK_s (And.intro @isiK_t @isiK_l)) (And.intro @isiK_0 (And.intro @isiK_n @getV_0))) (And.intro (And.intro @getV_s (And.intro @val_fz @val_ow)) (And.intro (And.intro @pAdd_i @pSub_i) (And.intro @pLt_i @pLe_i)))) (And.intro (And.intro (And.intro @pGt_i (And.intro @pEq_i @pNe_i)) (And.intro (And.intro @pLen_ln @pLen_tn) (And.intro @pIx_lst @pIx_tup))) (And.intro (And.intro @keepE_true (And.intro @keepE_false @flat_int)) (And.intro (And.intro @flat_bl @flat_str) (And.intro @flat_non @flat_tup))))))) (And.intro (And.intro (And.intro (And.intro (And.intro (And.intro @flat_lst (And.intro @outV_rt @outV_ro)) (And.intro @outV_nx (And.intro @ev_bAnd @andK_t))) (And.intro (And.intro @andK_f (And.intro @ev_bOr @orK_t)) (And.intro (And.intro @orK_f @ev_bNot) (And.intro @ev_vAnd @vAndK_t)))) (And.intro (And.intro (And.intro @vAndK_f (And.intro @ev_vOr @vOrK_t)) (And.intro @vOrK_f (And.intro @ev_vNot @ev_ch3))) (And.intro (And.intro @chK_t (And.intro @chK_f @ev_mMt0)) (And.intro (And.intro @ev_mMt @mtK_i) (And.intro @mtK_s @mtK_l))))) (And.intro (And.intro (And.intro (And.intro @ev_sForR (And.intro @ev_sFor @ev_mComp)) (And.intro @cmpK_ok (And.intro @ev_iRg1 @rg1_i))) (And.intro (And.intro @ev_iRg2 (And.intro @rg2_i @ev_iLst)) (And.intro (And.intro @itL_l @itT_t) (And.intro @ev_iSeq @itS_l)))) (And.intro (And.intro (And.intro @itS_t (And.intro @ev_blkG @ev_capS)) (And.intro @capO_s (And.intro @ev_gSet @gSet2_t))) (And.intro (And.intro @gSet3_t (And.intro @ev_mTru @tru_i)) (And.intro (And.intro @tru_b @tru_l) (And.intro @tru_t @ev_tYesM)))))) (And.intro (And.intro (And.intro (And.intro (And.intro @pMod_i (And.intro @pDiv_i @pMul_l)) (And.intro @pMul_r (And.intro @tru_bit @ev_sl3))) (And.intro (And.intro @ev_mNo (And.intro @ev_mSo @pInt_i)) (And.intro (And.intro @pCut_l @pCutS_s) (And.intro @pTuple_l @pTuple_t)))) (And.intro (And.intro (And.intro @pLen_sn (And.intro @pAdd_s @pCat_l)) (And.intro @isInt_i (And.intro @isBl_i @isBl_b))) (And.intro (And.intro @isStr_s (And.intro @isTup_t @isTup_l)) (And.intro (And.intro @isLst_l @isN_i) (And.intro @isN_n @isN_t))))) (And.intro (And.intro (And.intro (And.intro @forL_nil (And.intro @frz_nil @frz_cons)) (And.intro @frz1_0 (And.intro @frz1_s @frzS_ow))) (And.intro (And.intro @frzS_fz (And.intro @frzS_un @ev_sAsg)) (And.intro (And.intro @ev_sApp @ev_sSetIx) (And.intro @sixK_ow @allflat_ints)))) (And.intro (And.intro (And.intro @allflat_strs (And.intro @allflat_nats @cutP_map)) (And.intro (And.intro @Nat.not_lt_zero @decide_true) (And.intro @decide_false @Bool.not_true))) (And.intro (And.intro @Bool.not_false (And.intro @Bool.true_or @Bool.false_or)) (And.intro (And.intro @Bool.or_true @Bool.or_false) (And.intro @Bool.true_and @Bool.false_and))))))))
end L2.PM

set_option maxHeartbeats 4000000
noncomputable section
namespace DH
open PySem PySem.Spec PyProof.Rows L2 L2.PM
noncomputable def YH:MSt:=(sSeq (sSet [2] 2 (bin2 pMod (bin2 pMul (mVar 2) (mN 48271)) (mN 2147483647)))
  (sApp [2] 3 (bin2 pDiv (mVar 2) (mN 13))))
noncomputable def Qaw:MSt:=(sSeq (sSet [0] 2 (bin2 pMod (bin2 pMul (bin2 pAdd (bin2 pMod (mVar 0) (mN 2147483629)) (mN 1)) (mN 1103515245)) (mN 2147483647)))
  (sSeq (Yw [] 3 (mLim aNil))
  (sSeq (Qak (iRg1 (mVar 1)) (gSet 4) YH)
  (Qaj 3))))
noncomputable def Zr:List PV→Option PV:=runV 5 2 Qaw
theorem QaT:∀ ps r,Zr ps=some r→ps.length=2:=QP
noncomputable def YM:MSt:=(sSeq (sSet [] 2 (mC (.str " !\"#$&'()*+,-./0123456789:;<=>?@ABCDEFGHIJKLMNOPQRSTUVWXYZ[\\]^_`")))
  (sSeq (sSet [2] 2 (bin2 pAdd (mVar 2) (mC (.str "abcdefghijklmnopqrstuvwxyz{|}~\n   "))))
  (sSeq (sIf (truB (bin2 pGt (bin2 pMod (bin2 pIx (mVar 1) (mN 24)) (mN 3)) (mN 0))) (Qaj 0) sNx)
  (sSeq (sSet [1,0] 3 (bin2 pMod (bin2 pIx (mVar 1) (mN 25)) (bin2 pAdd (Qo pLen (Qc (mVar 0) aNil)) (mN 1))))
  (sSeq (sSet [2,1,2] 4 (bin2 pIx (mVar 2) (bin2 pMod (bin2 pIx (mVar 1) (mN 26)) (Qo pLen (Qc (mVar 2) aNil)))))
  (sRet (bin2 pAdd (bin2 pAdd (sl3 Qhz (mVar 0) mNo (mSo (mVar 3))) (bin2 pIx (mLst (mLim (Qc (mVar 4) (Qc (mVar 4) (Qc (mC (.str "")) aNil))))) (bin2 pMod (bin2 pIx (mVar 1) (mN 27)) (mN 3)))) (sl3 Qhz (mVar 0) (mSo (bin2 pAdd (mVar 3) (bin2 pMod (bin2 pIx (mVar 1) (mN 28)) (mN 2)))) mNo))))))))
noncomputable def QF:List PV→Option PV:=runV 5 2 YM
theorem Xn:∀ ps r,QF ps=some r→ps.length=2:=QP
noncomputable def YG:MSt:=(sSeq (sSet [0] 0 (bin2 pMod (bin2 pAdd (bin2 pMul (mVar 0) (mN 69621)) (mN 1)) (mN 2147483647)))
  (sSet [3,2,0] 3 (bin2 pAdd (mVar 3) (bin2 pIx (mVar 2) (bin2 pMod (bin2 pDiv (mVar 0) (mN 17)) (mN 26))))))
noncomputable def Qau:MSt:=(sSeq (sSet [] 2 (mC (.str "abcdefghijklmnopqrstuvwxyz")))
  (sSeq (sSet [] 3 (mC (.str "")))
  (sSeq (Qak (iRg1 (mVar 1)) (gSet 4) YG)
  (Qaj 3))))
noncomputable def QD:List PV→Option PV:=runV 5 2 Qau
theorem Zk:∀ ps r,QD ps=some r→ps.length=2:=QP
noncomputable def Xb:MSt:=(sSeq (Yw [] 1 (mLim (Qc (mC (.str "guess")) (Qc (mC (.str "unless")) (Qc (mC (.str "if")) (Qc (mC (.str "")) (Qc (mC (.str "by")) (Qc (mC (.str "If")) (Qc (mC (.str "a1")) (Qc (mC (.str "b-")) (Qc (mC (.str "guesses")) (Qc (mC (.str "GUESS")) (Qc (mC (.str "unles")) (Qc (mC (.str "ab\n")) (Qc (mC (.str "_a")) aNil)))))))))))))))
  (sSeq (sIf (truB (bin2 pLt (bin2 pMod (mVar 0) (mN 16)) (mN 13))) (sRet (bin2 pIx (mVar 1) (bin2 pMod (mVar 0) (mN 16)))) sNx)
  (sRet (Qo QD (Qc (mVar 0) (Qc (bin2 pIx (mLst (mLim (Qc (mN 13) (Qc (mN 12) (Qc (mN 40) aNil))))) (bin2 pSub (bin2 pMod (mVar 0) (mN 16)) (mN 13))) aNil))))))
noncomputable def QK:List PV→Option PV:=runV 2 1 Xb
theorem XD:∀ ps r,QK ps=some r→ps.length=1:=QP
noncomputable def ZV:MSt:=(sSeq (sSet [1,2,0] 3 (bin2 pMod (bin2 pIx (mVar 1) (bin2 pAdd (mN 18) (bin2 pMul (mN 3) (mVar 2)))) (bin2 pAdd (Qo pLen (Qc (mVar 0) aNil)) (mN 1))))
  (sSeq (sSet [1,2] 4 (Qo QK (Qc (bin2 pIx (mVar 1) (bin2 pAdd (mN 19) (bin2 pMul (mN 3) (mVar 2)))) aNil)))
  (sSeq (sSet [1,2] 5 (bin2 pMod (bin2 pIx (mVar 1) (bin2 pAdd (mN 20) (bin2 pMul (mN 3) (mVar 2)))) (mN 3)))
  (sIf (bAnd (truB (bin2 pEq (mVar 5) (mN 0))) (truB (bin2 pLt (mVar 3) (Qo pLen (Qc (mVar 0) aNil))))) (YY [4] 0 (mVar 4) (mVar 3)) (sIf (bAnd (truB (bin2 pEq (mVar 5) (mN 1))) (truB (bin2 pLt (mVar 3) (Qo pLen (Qc (mVar 0) aNil))))) (sPop 0 (mVar 3)) (sIns [4] 0 (mVar 3) (mVar 4)))))))
noncomputable def YF:MSt:=(sSeq (Qak (iRg1 (bin2 pMod (bin2 pIx (mVar 1) (mN 17)) (mN 3))) (gSet 2) ZV)
  (Qaj 0))
noncomputable def Zi:List PV→List PV→Option PV:=runW 6 2 YF
theorem Qag:∀ xs qs r,Zi xs qs=some r→qs.length + 1=2:=runW_len
noncomputable def Yv:MSt:=(sIf (truB (bin2 QdJ (mVar 1) (mC (.str "abcdefghijklmnopqrstuvwxyz")))) (sRet (mC (.bl false))) sNx)
noncomputable def Qbk:MSt:=(sSeq (sIf (truB (bin2 pIn (mVar 0) (mTup (Qc (mC (.str "guess")) (Qc (mC (.str "unless")) (Qc (mC (.str "if")) aNil)))))) (sRet (mC (.bl false))) sNx)
  (sSeq (sFor [0] (iStr (mVar 0)) (gSet 1) Yv)
  (sRet (ch3 pLe pLe (mN 1) (Qo pLen (Qc (mVar 0) aNil)) (mN 12)))))
noncomputable def Zw:List PV→Option PV:=runV 2 1 Qbk
theorem Qbp:∀ ps r,Zw ps=some r→ps.length=1:=QP
noncomputable def Ye:MSt:=(sSeq (sSet [1,2,2] 3 (vAnd (bin2 pEq (bin2 pIx (mVar 1) (mN 0)) (mC (.str "guess"))) (vOr (bin2 pEq (mVar 2) (mN 0)) (bin2 pEq (mVar 2) (mN 2)))))
  (sIf (bAnd (bNot (mTru (mVar 3))) (bAnd (bNot (mTru (Qo Zw (Qc (bin2 pIx (mVar 1) (mVar 2)) aNil)))) (bNot (bAnd (truB (bin2 pEq (mVar 2) (mN 1))) (truB (bin2 pEq (bin2 pIx (mVar 1) (mVar 2)) (mC (.str "if")))))))) (sRet (mTup (Qc (mN 0) aNil))) sNx))
noncomputable def ZK:MSt:=(sIf (truB (bin2 pIn (bin2 pIx (mVar 1) (mVar 2)) (mLst (sl3 pCut (mVar 1) (mSo (bin2 pAdd (mVar 2) (mN 1))) mNo)))) (sRet (mTup (Qc (mN 2) aNil))) sNx)
noncomputable def Qav:MSt:=(sSeq (Yw [0] 1 (mMt "str" QbA (mVar 0) (Qc (mC (.str " ")) aNil)))
  (sSeq (Qak (iRg1 (Qo pLen (Qc (mVar 1) aNil))) (gSet 2) Ye)
  (sSeq (sIf (truB (bin2 pEq (bin2 pIx (mVar 1) (mN 0)) (mC (.str "guess")))) (sSeq (sIf (bAnd (truB (bin2 pEq (Qo pLen (Qc (mVar 1) aNil)) (mN 4))) (bAnd (truB (bin2 pEq (bin2 pIx (mVar 1) (mN 2)) (mC (.str "unless")))) (truB (bin2 pNe (bin2 pIx (mVar 1) (mN 1)) (mC (.str "if")))))) (sRet (mTup (Qc (mC (.str "guess")) (Qc (bin2 pIx (mVar 1) (mN 1)) (Qc (bin2 pIx (mVar 1) (mN 3)) aNil))))) sNx)
  (sRet (mTup (Qc (mN 0) aNil)))) sNx)
  (sSeq (sIf (truB (bin2 pEq (Qo pLen (Qc (mVar 1) aNil)) (mN 1))) (sRet (mTup (Qc (mC (.str "rule")) (Qc (bin2 pIx (mVar 1) (mN 0)) (Qc (mTup aNil) aNil))))) sNx)
  (sSeq (sIf (bOr (truB (bin2 pNe (bin2 pIx (mVar 1) (mN 1)) (mC (.str "if")))) (truB (bin2 pEq (Qo pLen (Qc (mVar 1) aNil)) (mN 2)))) (sRet (mTup (Qc (mN 0) aNil))) sNx)
  (sSeq (sIf (truB (bin2 pGt (Qo pLen (Qc (mVar 1) aNil)) (mN 8))) (sRet (mTup (Qc (mN 1) aNil))) sNx)
  (sSeq (Qak (iRg2 (mN 2) (Qo pLen (Qc (mVar 1) aNil))) (gSet 2) ZK)
  (sRet (mTup (Qc (mC (.str "rule")) (Qc (bin2 pIx (mVar 1) (mN 0)) (Qc (Qo QaG (Qc (mLst (sl3 pCut (mVar 1) (mSo (mN 2)) mNo)) aNil)) aNil))))))))))))
noncomputable def Zq:List PV→Option PV:=runV 4 1 Qav
theorem QaS:∀ ps r,Zq ps=some r→ps.length=1:=QP
noncomputable def Qdn:MSt:=(sSeq (sIf (bOr (truB (bin2 pIn (mVar 0) (mC (.tup ((["guess","unless","if"]:List Str).map .str))))) (bNot (truB (ch3 pLe pLe (mN 1) (Qo pLen (Qc (mVar 0) aNil)) (mN 12))))) (sRet (mC (.bl false))) sNx)
  (sRet (Qo Qfz (Qc (mLst (QfD (iStr (mVar 0)) 1 [] (gSet 0) Qbw (ch3 pLeS pLeS (mC (.str "a")) (mVar 0) (mC (.str "z"))))) aNil))))
noncomputable def Zh:List PV→Option PV:=runV 1 1 Qdn
theorem Ya:∀ ps r,Zh ps=some r→ps.length=1:=QP
noncomputable def Yy:MSt:=(sSeq (sIf (bOr (truB (bin2 pNe (Qo pLen (Qc (mVar 0) aNil)) (mN 4))) (bOr (truB (bin2 pNe (bin2 pIx (mVar 0) (mN 0)) (mC (.str "guess")))) (truB (bin2 pNe (bin2 pIx (mVar 0) (mN 2)) (mC (.str "unless")))))) (sRet (mC (.bl false))) sNx)
  (sRet (vAnd (Qo Zh (Qc (bin2 pIx (mVar 0) (mN 1)) aNil)) (Qo Zh (Qc (bin2 pIx (mVar 0) (mN 3)) aNil)))))
noncomputable def QJ:List PV→Option PV:=runV 1 1 Yy
theorem XW:∀ ps r,QJ ps=some r→ps.length=1:=QP
noncomputable def Yb:MSt:=(sSeq (sIf (truB (bin2 pEq (Qo pLen (Qc (mVar 0) aNil)) (mN 1))) (sRet (Qo Zh (Qc (bin2 pIx (mVar 0) (mN 0)) aNil))) sNx)
  (sSeq (sIf (bOr (truB (bin2 pEq (Qo pLen (Qc (mVar 0) aNil)) (mN 2))) (truB (bin2 pNe (bin2 pIx (mVar 0) (mN 1)) (mC (.str "if"))))) (sRet (mC (.bl false))) sNx)
  (sRet (Qo Qfz (Qc (mLst (QfD (iLst (mLst (bin2 pCat (mLst (sl3 pCut (mVar 0) mNo (mSo (mN 1)))) (mLst (sl3 pCut (mVar 0) (mSo (mN 2)) mNo))))) 1 [] (gSet 0) Qbw (Qo Zh (Qc (mVar 0) aNil)))) aNil)))))
noncomputable def QI:List PV→Option PV:=runV 1 1 Yb
theorem Qaf:∀ ps r,QI ps=some r→ps.length=1:=QP
noncomputable def Qar (C:Nat→Addr):MStR:=(rSeq (QaY (Yw [0] 2 (mMt "str" QbA (mVar 0) (Qc (mC (.str " ")) aNil))))
  (rSeq (QaY (sIf (mTru (Qo QJ (Qc (mVar 2) aNil))) (sRet (mTup (Qc (mC (.str "guess")) (Qc (bin2 pIx (mVar 2) (mN 1)) (Qc (bin2 pIx (mVar 2) (mN 3)) aNil))))) sNx))
  (rSeq (rIf (bNot (mTru (Qo QI (Qc (mVar 2) aNil)))) (QcL [1] (C 2) "row" (Qc (mVar 1) aNil)) (QaY sNx))
  (rSeq (QaY (sSet [2] 3 (Qo QaG (Qc (mLst (sl3 pCut (mVar 2) (mSo (mN 2)) mNo)) aNil))))
  (rSeq (rIf (truB (bin2 pGt (Qo pLen (Qc (mVar 3) aNil)) (mN 6))) (QcL [1] (C 3) "row" (Qc (mVar 1) aNil)) (QaY sNx))
  (rSeq (rIf (truB (bin2 pLt (Qo QaN (Qc (mVar 3) aNil)) (Qo pLen (Qc (mVar 3) aNil)))) (QcL [1] (C 4) "row" (Qc (mVar 1) aNil)) (QaY sNx))
  (QaY (sRet (mTup (Qc (mC (.str "rule")) (Qc (bin2 pIx (mVar 2) (mN 0)) (Qc (mVar 3) aNil))))))))))))
noncomputable def Zf (C:Nat→Addr):List PV→Option (PV ⊕ PV):=runR 4 2 (Qar C)
theorem YK (C:Nat→Addr):∀ ps r,Zf C ps=some r→ps.length=2:=runR_len
noncomputable def Za (C:Nat→Addr):MSt:=(sSeq (Yw [7,7,7,7] 3 (mLim (Qc (mIsX [(C 1,false),(C 2,true),(C 3,false),(C 4,false),(C 5,false)] (mVar 7)) (Qc (mIsX [(C 1,false),(C 2,false),(C 3,true),(C 4,false),(C 5,false)] (mVar 7)) (Qc (mIsX [(C 1,false),(C 2,false),(C 3,false),(C 4,true),(C 5,false)] (mVar 7)) (Qc (mIsX [(C 1,false),(C 2,false),(C 3,false),(C 4,false),(C 5,true)] (mVar 7)) aNil))))))
  (sSeq (Yw [3,7,7,7] 3 (bin2 pCat (mVar 3) (mLst (mLim (Qc (mIsX [(C 1,true),(C 2,true),(C 3,true),(C 4,true),(C 5,true)] (mVar 7)) (Qc (mIsX [(C 1,true),(C 2,true),(C 3,true),(C 4,true),(C 5,true)] (mVar 7)) (Qc (mIsX [(C 1,true),(C 2,true),(C 3,true),(C 4,true),(C 5,true)] (mVar 7)) aNil)))))))
  (sSeq (Yw [7,7,7,7] 4 (mLim (Qc (mIsX [(C 1,false),(C 2,false),(C 3,false),(C 4,false),(C 5,false)] (mVar 7)) (Qc (mIsX [(C 1,false),(C 2,false),(C 3,false),(C 4,false),(C 5,false)] (mVar 7)) (Qc (mIsX [(C 1,false),(C 2,false),(C 3,false),(C 4,false),(C 5,false)] (mVar 7)) (Qc (mIsX [(C 1,false),(C 2,false),(C 3,false),(C 4,false),(C 5,false)] (mVar 7)) aNil))))))
  (sSeq (Yw [4,7,7,7] 4 (bin2 pCat (mVar 4) (mLst (mLim (Qc (mIsX [(C 1,false),(C 2,false),(C 3,false),(C 4,false),(C 5,false)] (mVar 7)) (Qc (mIsX [(C 1,false),(C 2,false),(C 3,false),(C 4,false),(C 5,false)] (mVar 7)) (Qc (mIsX [(C 1,false),(C 2,false),(C 3,false),(C 4,false),(C 5,false)] (mVar 7)) aNil)))))))
  (sSet [7] 5 (QfC [C 1,C 2,C 3,C 4,C 5] "row" (mVar 7)))))))
noncomputable def Xq (C:Nat→Addr):MSt:=(sSeq (Yw [] 3 (mLim aNil))
  (sSeq (Yw [] 4 (mLim aNil))
  (sSeq (sSet [] 5 (mN 0))
  (sSeq (sSet [] 6 (mC .non))
  (sSeq (sTry 7 [C 1,C 2,C 3,C 4,C 5] (qIf (mTru (mVar 1)) (qSet [0] 6 (Zf C) (Qc (mVar 0) (Qc (mN 0) aNil))) (qSet [0,2] 6 (Zf C) (Qc (mVar 0) (Qc (mVar 2) aNil)))) (Za C))
  (sRet (mTup (Qc (mLst (bin2 pCat (mVar 3) (mVar 4))) (Qc (mVar 5) (Qc (mVar 6) aNil))))))))))
noncomputable def QU (C:Nat→Addr):List PV→Option PV:=runV 8 3 (Xq C)
theorem XZ (C:Nat→Addr):∀ ps r,QU C ps=some r→ps.length=3:=QP
noncomputable def YV:MSt:=(sIf (bNot (mTru (mIsi Qej (mVar 2)))) (sRet (mC (.bl false))) sNx)
noncomputable def Xz:MSt:=(sSeq (sIf (bOr (bNot (mTru (mIsi Qei (mVar 0)))) (truB (bin2 pNe (Qo pLen (Qc (mVar 0) aNil)) (mN 3)))) (sRet (mC (.bl false))) sNx)
  (sSeq (sIf (bOr (bNot (mTru (mIsi Qej (bin2 pIx (mVar 0) (mN 0))))) (bNot (mTru (mIsi Qej (bin2 pIx (mVar 0) (mN 1)))))) (sRet (mC (.bl false))) sNx)
  (sSeq (sIf (truB (bin2 pEq (bin2 pIx (mVar 1) (mN 0)) (mC (.str "guess")))) (sRet (vAnd (mIsi Qej (bin2 pIx (mVar 0) (mN 2))) (bin2 pEq (mVar 0) (mVar 1)))) sNx)
  (sSeq (sIf (bOr (bNot (mTru (mIsi Qei (bin2 pIx (mVar 0) (mN 2))))) (truB (bin2 pNe (Qo pLen (Qc (bin2 pIx (mVar 0) (mN 2)) aNil)) (Qo pLen (Qc (bin2 pIx (mVar 1) (mN 2)) aNil))))) (sRet (mC (.bl false))) sNx)
  (sSeq (sFor [0] (iSeq (bin2 pIx (mVar 0) (mN 2))) (gSet 2) YV)
  (sRet (bin2 pEq (mVar 0) (mVar 1))))))))
noncomputable def QO:List PV→Option PV:=runV 3 2 Xz
theorem Qbq:∀ ps r,QO ps=some r→ps.length=2:=QP
noncomputable def YN:MSt:=(Qcw (bin2 pCat (mLst (bin2 pCat (mLst (QfD (iRg1 (mN 4)) 1 [0] (gSet 0) Qbw (bin2 pEq (mVar 0) (mVar 1)))) (mLst (mLim (Qc (mC (.bl true)) (Qc (mC (.bl true)) (Qc (mC (.bl true)) aNil))))))) (mLst (bin2 pRep (mLst (mLim (Qc (mC (.bl false)) aNil))) (mN 7)))))
noncomputable def Qt:List PV→Option PV:=runV 1 1 YN
theorem ZZ:∀ ps r,Qt ps=some r→ps.length=1:=QP
noncomputable def Qat:MSt:=(sRet (vAnd (mIsi isInt (mVar 0)) (vNot (mIsi isBl (mVar 0)))))
noncomputable def QL:List PV→Option PV:=runV 1 1 Qat
theorem YL:∀ ps r,QL ps=some r→ps.length=1:=QP
noncomputable def Xo (C:Nat→Addr):MSt:=(sSeq (sSet [0] 3 (Qo Zq (Qc (mVar 0) aNil)))
  (sSeq (sAsg [0,1,2] (QhG 4 5 6) (Qo (QU C) (Qc (mVar 0) (Qc (mVar 1) (Qc (mVar 2) aNil)))))
  (sSeq (sIf (truB (bin2 pEq (Qo pLen (Qc (mVar 3) aNil)) (mN 3))) (sRet (vAnd (bin2 pEq (mVar 4) (mLst (mLim aNil))) (Qo QO (Qc (mVar 6) (Qc (mVar 3) aNil))))) sNx)
  (sSeq (sIf (bOr (truB (bin2 pNe (mVar 4) (Qo Qt (Qc (bin2 pIx (mVar 3) (mN 0)) aNil)))) (bNot (mTru (Qo QL (Qc (mVar 5) aNil))))) (sRet (mC (.bl false))) sNx)
  (sSeq (sIf (mTru (mVar 1)) (sRet (bin2 pEq (mVar 5) (mN 0))) sNx)
  (sRet (bin2 pEq (mVar 5) (mVar 2))))))))
noncomputable def QS (C:Nat→Addr):List PV→Option PV:=runV 7 3 (Xo C)
theorem XX (C:Nat→Addr):∀ ps r,QS C ps=some r→ps.length=3:=QP
noncomputable def Xp (C:Nat→Addr):MSt:=(sSeq (Yw [0,0,0,0] 1 (mLim (Qc (mIsX [(C 1,false),(C 2,true),(C 3,false),(C 4,false),(C 5,false)] (mVar 0)) (Qc (mIsX [(C 1,false),(C 2,false),(C 3,true),(C 4,false),(C 5,false)] (mVar 0)) (Qc (mIsX [(C 1,false),(C 2,false),(C 3,false),(C 4,true),(C 5,false)] (mVar 0)) (Qc (mIsX [(C 1,false),(C 2,false),(C 3,false),(C 4,false),(C 5,true)] (mVar 0)) aNil))))))
  (sSeq (Yw [1,0,0,0] 1 (bin2 pCat (mVar 1) (mLst (mLim (Qc (mIsX [(C 1,true),(C 2,true),(C 3,true),(C 4,true),(C 5,true)] (mVar 0)) (Qc (mIsX [(C 1,true),(C 2,true),(C 3,true),(C 4,true),(C 5,true)] (mVar 0)) (Qc (mIsX [(C 1,true),(C 2,true),(C 3,true),(C 4,true),(C 5,true)] (mVar 0)) aNil)))))))
  (sSeq (Yw [1,0,0,0,0] 1 (bin2 pCat (mVar 1) (mLst (mLim (Qc (mIsX [(C 1,false),(C 2,false),(C 3,false),(C 4,false),(C 5,false)] (mVar 0)) (Qc (mIsX [(C 1,false),(C 2,false),(C 3,false),(C 4,false),(C 5,false)] (mVar 0)) (Qc (mIsX [(C 1,false),(C 2,false),(C 3,false),(C 4,false),(C 5,false)] (mVar 0)) (Qc (mIsX [(C 1,false),(C 2,false),(C 3,false),(C 4,false),(C 5,false)] (mVar 0)) aNil))))))))
  (Qcw (bin2 pCat (mVar 1) (mLst (mLim (Qc (mIsX [(C 1,false),(C 2,false),(C 3,false),(C 4,false),(C 5,false)] (mVar 0)) (Qc (mIsX [(C 1,false),(C 2,false),(C 3,false),(C 4,false),(C 5,false)] (mVar 0)) (Qc (mIsX [(C 1,false),(C 2,false),(C 3,false),(C 4,false),(C 5,false)] (mVar 0)) aNil))))))))))
noncomputable def QT (C:Nat→Addr):List PV→Option PV:=runV 2 1 (Xp C)
theorem XY (C:Nat→Addr):∀ ps r,QT C ps=some r→ps.length=1:=QP
noncomputable def ZW (C:Nat→Addr):MSt:=(sSeq (sSet [1,2] 3 (bin2 pIx (mVar 1) (mVar 2)))
  (sIf (bOr (truB (bin2 pNe (Qo (QT C) (Qc (mVar 3) aNil)) (Qo Qt (Qc (bin2 pSub (mVar 2) (mN 1)) aNil)))) (bOr (bNot (mTru (Qo QL (Qc (QfC [C 1,C 2,C 3,C 4,C 5] "row" (mVar 3)) aNil)))) (truB (bin2 pNe (QfC [C 1,C 2,C 3,C 4,C 5] "row" (mVar 3)) (mVar 0))))) (sRet (mC (.bl false))) sNx))
noncomputable def Qbl (C:Nat→Addr):MSt:=(sSeq (Yw [0,0,0,0,0] 1 (mLim (Qc (Qdu (C 1) "row" (Qc (mVar 0) aNil)) (Qc (Qdu (C 2) "row" (Qc (mVar 0) aNil)) (Qc (Qdu (C 3) "row" (Qc (mVar 0) aNil)) (Qc (Qdu (C 4) "row" (Qc (mVar 0) aNil)) (Qc (Qdu (C 5) "row" (Qc (mVar 0) aNil)) aNil)))))))
  (sSeq (Qak (iRg1 (mN 5)) (gSet 2) (ZW C))
  (sRet (mC (.bl true)))))
noncomputable def Zx (C:Nat→Addr):List PV→Option PV:=runV 4 1 (Qbl C)
theorem Qbr (C:Nat→Addr):∀ ps r,Zx C ps=some r→ps.length=1:=QP
noncomputable def Yd:MSt:=(sApp [0,3,1] 2 (Qo QD (Qc (bin2 pIx (mVar 0) (bin2 pAdd (mN 4) (mVar 3))) (Qc (Qo pLen (Qc (mVar 1) aNil)) aNil))))
noncomputable def Yc:MSt:=(sApp [2,3] 4 (bin2 pIx (mVar 2) (mVar 3)))
noncomputable def Qas:MSt:=(sSeq (sSet [0,0] 1 (Qo QD (Qc (bin2 pIx (mVar 0) (mN 0)) (Qc (bin2 pAdd (mN 1) (bin2 pMod (bin2 pIx (mVar 0) (mN 1)) (mN 12))) aNil))))
  (sSeq (Yw [1,0,0] 2 (mLim (Qc (mVar 1) (Qc (Qo QD (Qc (bin2 pIx (mVar 0) (mN 2)) (Qc (bin2 pAdd (mN 1) (bin2 pMod (bin2 pIx (mVar 0) (mN 3)) (mN 12))) aNil))) aNil))))
  (sSeq (Qak (iRg1 (mN 7)) (gSet 3) Yd)
  (sSeq (sIf (truB (bin2 pEq (bin2 pMod (bin2 pIx (mVar 0) (mN 11)) (mN 3)) (mN 0))) (Qcw (mLim (Qc (mC (.str "guess")) (Qc (bin2 pIx (mVar 2) (mN 0)) (Qc (mC (.str "unless")) (Qc (bin2 pIx (mVar 2) (bin2 pMod (bin2 pIx (mVar 0) (mN 12)) (mN 2))) aNil)))))) sNx)
  (sSeq (Yw [2] 4 (mLim (Qc (bin2 pIx (mVar 2) (mN 0)) (Qc (mC (.str "if")) aNil))))
  (sSeq (sSet [0] 5 (bin2 pMod (bin2 pIx (mVar 0) (mN 13)) (mN 10)))
  (sSeq (Qak (iRg1 (mVar 5)) (gSet 3) Yc)
  (sSeq (sIf (bAnd (truB (bin2 pGt (mVar 5) (mN 1))) (truB (bin2 pEq (bin2 pMod (bin2 pIx (mVar 0) (mN 14)) (mN 3)) (mN 0)))) (YY [4,0,5] 4 (bin2 pIx (mVar 4) (bin2 pAdd (mN 2) (bin2 pMod (bin2 pIx (mVar 0) (mN 16)) (mVar 5)))) (bin2 pAdd (mN 2) (bin2 pMod (bin2 pIx (mVar 0) (mN 15)) (mVar 5)))) sNx)
  (sSeq (sIf (bAnd (truB (bin2 pEq (mVar 5) (mN 0))) (truB (bin2 pGt (bin2 pMod (bin2 pIx (mVar 0) (mN 14)) (mN 4)) (mN 0)))) (Qcw (mLim (Qc (bin2 pIx (mVar 2) (mN 0)) aNil))) sNx)
  (Qaj 4))))))))))
noncomputable def Zp:List PV→Option (List PV):=runO 6 1 Qas
theorem QaR:∀ ps r,Zp ps=some r→ps.length=1:=runO_len
noncomputable def Xg (C:Nat→Addr):MSt:=(sSeq (sSet [1] 2 (Qo Zr (Qc (mVar 1) (Qc (mN 32) aNil))))
  (sSeq (sSet [2,2,2] 3 (Qo QF (Qc (mMt "str" Qfy (mC (.str " ")) (Qc (QfQ Zi (Qo Zp (Qc (mVar 2) aNil)) (Qc (mVar 2) aNil)) aNil)) (Qc (mVar 2) aNil))))
  (sSeq (sSet [2,1,2,2] 4 (bin2 pIx (mLst (mLim (Qc (bin2 pMod (bin2 pIx (mVar 2) (mN 30)) (mN 48)) (Qc (bin2 pAdd (bin2 Qfx (bin2 pMod (mVar 1) (bin2 pPow (mN 10) (mN 60))) (mN 1000)) (bin2 pMod (bin2 pIx (mVar 2) (mN 30)) (mN 1000))) aNil)))) (bin2 pMod (bin2 pIx (mVar 2) (mN 31)) (mN 2))))
  (sIf (bOr (bNot (mTru (Qo (QS C) (Qc (mVar 3) (Qc (bin2 pEq (bin2 pMod (bin2 pIx (mVar 2) (mN 29)) (mN 3)) (mN 0)) (Qc (mVar 4) aNil)))))) (bNot (mTru (Qo (Zx C) (Qc (mVar 4) aNil))))) (sRet (mC (.bl false))) sNx))))
noncomputable def Qdm (C:Nat→Addr):MSt:=(sSeq (sFor [0,0] (iLst (mLst (bin2 pCat (mLst (sl3 pCut (mVar 0) mNo (mSo (mN 150)))) (mLst (mLim (Qc (Qo pLen (Qc (mVar 0) aNil)) aNil)))))) (gSet 1) (Xg C))
  (sRet (mC (.bl true))))
noncomputable def XG (C:Nat→Addr):List PV→Option PV:=runV 5 1 (Qdm C)
end DH

noncomputable section
namespace DH
open PySem PySem.Spec PyProof.Rows L2 L2.PM
open Builtin.Str StrLaws
noncomputable def posL (c:Nat):List Nat→Nat→List Nat
  | [],_=>[]
  | d :: l,a=>if d=c then a :: posL c l (a + 1) else posL c l (a + 1)
noncomputable def splL (c:Nat):List Nat→List (List Nat)
  | []=>[[]]
  | d :: l=>if d=c then [] :: splL c l else match splL c l with
    | h :: t=>(d :: h) :: t
    | []=>[[d]]
theorem Qba (c:Nat) (l:List Nat):∃ h t,splL c l=h :: t:=by
  cases l with
  | nil=>exact ⟨_,_,rfl⟩
  | cons d l =>
    unfold splL
    split
    · exact ⟨_,_,rfl⟩
    · cases splL c l with
      | nil=>exact ⟨_,_,rfl⟩
      | cons h t=>exact ⟨_,_,rfl⟩
theorem Qgd (x:Str) (c i:Nat):subAt x ⟨#[c]⟩ i=true↔x.cps.toList[i]?=some c:=by
  rw [subAt_eq]
  show ((x.cps.toList.drop i).take 1==[c])=true↔_
  rw [beq_iff_eq]
  constructor
  · intro h
    have:=congrArg (fun l:List Nat=>l[0]?) h
    simpa using this
  · intro h
    rw [List.drop_eq_getElem_cons (List.getElem?_eq_some_iff.mp h).1,(List.getElem?_eq_some_iff.mp h).2]
    simp
theorem QdK (x:Str) (c:Nat):∀ (k a:Nat) (arr:Array Nat) (f:Nat),a + k=x.length + 1→arr.size≤a→f≤a →
    (forIn (List.range' a k) (arr,f) (occBody x ⟨#[c]⟩ x.length (x.length + 1))).run.fst.toList=arr.toList++posL c (x.cps.toList.drop a) a
  | 0,a,arr,f,h1,_,_=>by
    have hx:x.cps.toList.length=x.length:=by simp [Str.length]
    have:x.cps.toList.drop a=[]:=List.drop_eq_nil_of_le (by omega)
    rw [this]
    simp [posL]
  | k + 1,a,arr,f,h1,h2,h3=>by
    rw [List.range'_succ,List.forIn_cons]
    by_cases hs:subAt x ⟨#[c]⟩ a=true
    · have hg:=(Qgd x c a).mp hs
      have hl:=(List.getElem?_eq_some_iff.mp hg).1
      have hx:x.cps.toList.length=x.length:=by simp [Str.length]
      have e:occBody x ⟨#[c]⟩ x.length (x.length + 1) a (arr,f)=pure (ForInStep.yield (arr.push a,a + 1)):=by
        unfold occBody
        rw [if_pos]
        · rfl
        · simp [hs,h3]
          refine ⟨by omega,?_⟩
          show a + 1≤x.length
          omega
      rw [e]
      refine Eq.trans (QdK x c k (a + 1) (arr.push a) (a + 1) (by omega) (by simp;omega) (Nat.le_refl _)) ?_
      rw [List.drop_eq_getElem_cons hl,(List.getElem?_eq_some_iff.mp hg).2]
      simp [posL]
    · have e:occBody x ⟨#[c]⟩ x.length (x.length + 1) a (arr,f)=pure (ForInStep.yield (arr,f)):=by
        unfold occBody
        rw [if_neg (by simp [hs])]
        try rfl
      rw [e]
      refine Eq.trans (QdK x c k (a + 1) arr f (by omega) (by omega) (by omega)) ?_
      congr 1
      by_cases hl:a < x.cps.toList.length
      · rw [List.drop_eq_getElem_cons hl]
        conv=>rhs;unfold posL
        rw [if_neg]
        intro z
        exact hs ((Qgd x c a).mpr (by rw [List.getElem?_eq_getElem hl,z]))
      · rw [List.drop_eq_nil_of_le (by omega),List.drop_eq_nil_of_le (by omega)]
        rfl
theorem Qbd (x:Str) (c:Nat):∀ (n s a:Nat),a + n=x.cps.toList.length→s≤a→∃ h t,splL c (x.cps.toList.drop a)=h :: t ∧
    partsFrom x 1 s (posL c (x.cps.toList.drop a) a)=⟨((x.cps.toList.drop s).take (a - s)++h).toArray⟩ :: t.map fun l=>(⟨l.toArray⟩:Str)
  | 0,s,a,h1,h2=>by
    rw [List.drop_eq_nil_of_le (by omega)]
    refine ⟨[],[],rfl,?_⟩
    show [strSub x s x.length]=_
    have hx:x.cps.toList.length=x.length:=by simp [Str.length]
    simp only [List.append_nil,List.map_nil]
    congr 1
    apply Str.ext'
    apply Array.toList_inj.mp
    rw [strSub_toList]
    show _=(List.take (a - s) (List.drop s x.cps.toList))
    rw [show x.length - s=a - s by omega]
  | n + 1,s,a,h1,h2=>by
    have hl:a < x.cps.toList.length:=by omega
    rw [List.drop_eq_getElem_cons hl]
    unfold splL posL
    by_cases hc:x.cps.toList[a]=c
    · rw [if_pos hc,if_pos hc]
      obtain ⟨h,t,e1,e2⟩:=Qbd x c n (a + 1) (a + 1) (by omega) (Nat.le_refl _)
      refine ⟨[],_,rfl,?_⟩
      show strSub x s a :: partsFrom x 1 (a + 1) _=_
      rw [e2,e1]
      congr 1
      · apply Str.ext'
        apply Array.toList_inj.mp
        rw [strSub_toList]
        simp
      · simp
    · rw [if_neg hc,if_neg hc]
      obtain ⟨h,t,e1,e2⟩:=Qbd x c n s (a + 1) (by omega) (by omega)
      rw [e1]
      refine ⟨x.cps.toList[a] :: h,t,rfl,?_⟩
      rw [e2]
      congr 2
      rw [show a + 1 - s=(a - s) + 1 by omega,List.take_succ_eq_append_getElem (by rw [List.length_drop];omega),List.append_assoc,List.getElem_drop]
      have e3:s + (a - s)=a:=by omega
      simp only [List.singleton_append,e3]
noncomputable def sp:Str := " "
theorem sp_is:sp=⟨#[32]⟩:=by decide +kernel
theorem split_sp (x:Str):Txt.split x sp=(splL 32 x.cps.toList).map fun l=>(⟨l.toArray⟩:Str):=by
  have hx:x.cps.toList.length=x.length:=by simp [Str.length]
  have ho:occurrences x sp 0 x.length (x.length + 1)=posL 32 x.cps.toList 0:=by
    rw [occ_eq]
    have:=QdK x 32 (x.length + 1) 0 #[] 0 (by omega) (by simp) (Nat.le_refl _)
    rw [← sp_is] at this
    simpa using this
  obtain ⟨h,t,e1,e2⟩:=Qbd x 32 x.cps.toList.length 0 0 (by omega) (Nat.le_refl _)
  rw [List.drop_zero] at e1 e2
  have main:partsFrom x 1 0 (posL 32 x.cps.toList 0)=(splL 32 x.cps.toList).map fun l=>(⟨l.toArray⟩:Str):=by
    rw [e2,e1]
    simp
  unfold Txt.split
  rw [ho]
  by_cases h0:posL 32 x.cps.toList 0=[]
  · rw [h0] at main
    have one:[x]=(splL 32 x.cps.toList).map fun l=>(⟨l.toArray⟩:Str):=by
      rw [← main]
      show [x]=[strSub x 0 x.length]
      rw [sub_whole]
    rw [h0]
    split
    · exact one
    · rw [if_pos (show ([]:List Nat).isEmpty=true from rfl)];exact one
  · have hk:¬ (decide (x.length < sp.length)||decide (Builtin.Str.strKind x < Builtin.Str.strKind sp))=true:=by
      have k1:Builtin.Str.strKind sp=1:=by decide +kernel
      have k2:1≤Builtin.Str.strKind x:=by unfold Builtin.Str.strKind;split;omega;split <;> omega
      have k3:sp.length=1:=rfl
      have k4:0 < x.cps.toList.length:=by
        cases hL:x.cps.toList with
        | nil=>rw [hL] at h0;exact absurd rfl h0
        | cons _ _=>simp
      rw [k1,k3]
      simp
      omega
    rw [if_neg hk,if_neg (by simpa using h0),partsBetween_eq]
    exact main
end DH

noncomputable section
namespace DH
open PySem PySem.Spec PyProof.Rows L2 L2.PM
noncomputable def Asc (s:Str):Prop:=∀ c∈s.cps.toList,c < 128
theorem Yk {s:Str} (h:Asc s):PyData.strOk s=true:=by
  unfold PyData.strOk
  rw [Array.all_eq_true']
  intro c hc
  have:=h c (by simpa using hc)
  simp
  omega
theorem Qhu {s:Str} (h:Asc s):(s.cps.all (· < 128))=true:=by
  rw [Array.all_eq_true']
  intro c hc
  have:=h c (by simpa using hc)
  simp
  omega
theorem XV {a b:Str} (h1:Asc a) (h2:Asc b):Asc (a++b):=fun c hc=>by
  have hc:c∈(a.cps++b.cps).toList:=hc
  rw [Array.toList_append] at hc
  rcases List.mem_append.mp hc with z | z
  · exact h1 c z
  · exact h2 c z
noncomputable def no3:List Str:=["guess","unless","if"]
theorem ok3:∀ s∈no3,PyData.strOk s=true:=by decide +kernel
noncomputable def lowB (s:Str):Bool:=s.cps.toList.all fun c=>decide (97≤c)&&decide (c≤122)
noncomputable def wdB (s:Str):Bool := !no3.any (·==s)&&(decide (1≤s.length)&&(decide (s.length≤12)&&lowB s))
theorem pIn_3 {s:Str} (h:Asc s):pIn (.str s) (.tup [.str "guess",.str "unless",.str "if"])=some (.bl (no3.any (·==s))):=by
  show pIn (.str s) (.tup (no3.map .str))=_
  rw [pIn_st (Yk h) ok3]
theorem sLe_a (c:Nat):sLe "a" ⟨#[c]⟩=decide (97≤c):=by
  unfold sLe
  rw [show ("a":Str).cps.toList=[97] by decide +kernel]
  show (!decide ([c] < [97]))=_
  rw [StrLaws.lt_cons_cons,StrLaws.lt_nil_nil]
  by_cases h:97≤c
  · simp [h] <;> omega
  · simp [h] <;> omega
theorem sLe_z (c:Nat):sLe ⟨#[c]⟩ "z"=decide (c≤122):=by
  unfold sLe
  rw [show ("z":Str).cps.toList=[122] by decide +kernel]
  show (!decide ([122] < [c]))=_
  rw [StrLaws.lt_cons_cons,StrLaws.lt_nil_nil]
  by_cases h:c≤122
  · simp [h] <;> omega
  · simp [h] <;> omega
theorem pLeS_s (a b:Str):pLeS (.str a) (.str b)=some (.bl (sLe a b)):=rfl
theorem ev_iStr (m:MEx) (γ:PEnv):iStr m γ=(m γ).bind itX:=rfl
theorem Qgp {s:Str} (h:Asc s):itX (.str s)=some (YX s):=if_pos (Qhu h)
theorem signs_len (s:Str):(YX s).length=s.length:=by unfold YX;simp [Str.length]
theorem Qgj (bs:List Bool):Qfz [.lst (bs.map .bl)]=some (.bl (bs.all id)):=by
  show (bls? (bs.map PV.bl)).map (fun bs=>PV.bl (bs.all id))=_
  rw [QeU];rfl
local macro_rules | `(tactic| walk_at "ev") => `(tactic| try simp (disch:=first | assumption | omega | (simp only [signs_len,encN_len,List.length_map,List.length_range,List.length_cons,List.length_nil,List.length_append];omega) | decide) only [pLen_sn,ev_iStr,pLeS_s,signs_len,EVc,List.length_cons,List.length_nil,if_true,List.map_cons,List.map_nil,List.replicate_zero,List.replicate_succ,List.cons_append,List.nil_append,List.getElem?_cons_zero,List.getElem?_cons_succ,Option.bind_some,Option.map_some,List.set_cons_zero,List.set_cons_succ,List.length_map,List.length_range,List.all_nil,List.all_cons,List.length_append])
theorem XI {s:Str} (h:Asc s) (hl:s.length≤9000):Zh [.str s]=some (.bl (wdB s)):=by
  unfold Zh Qdn wdB
  walk_at "ev"
  rw [pIn_3 h]
  walk_at "ev"
  cases hn:no3.any (·==s) with
  | true=>walk_at "ev";try rfl
  | false =>
    walk_at "ev"
    by_cases h1:1≤s.length
    · rw [decide_eq_true h1]
      walk_at "ev"
      by_cases h2:s.length≤12
      · rw [decide_eq_true h2]
        walk_at "ev"
        rw [Qgp h]
        walk_at "ev"
        unfold YX
        rw [Qbg (fun c:Nat=>PV.str ⟨#[c]⟩) (fun c=>PV.bl (decide (97≤c)&&decide (c≤122))) _ fun c hc=>⟨_,rfl,by
          walk_at "ev"
          rw [sLe_a]
          by_cases c1:97≤c
          · rw [decide_eq_true c1];walk_at "ev";rw [sLe_z];try rfl
          · rw [decide_eq_false c1];walk_at "ev";try rfl⟩]
        rw [show (s.cps.toList.map fun c=>PV.bl (decide (97≤c)&&decide (c≤122)))=(s.cps.toList.map fun c=>decide (97≤c)&&decide (c≤122)).map PV.bl by rw [List.map_map];rfl]
        walk_at "ev"
        rw [Qgj,List.all_map]
        rfl
      · rw [decide_eq_false h2]
        walk_at "ev"
        try rfl
    · rw [decide_eq_false h1]
      walk_at "ev"
      try rfl
theorem abc_in:∀ c:_root_.Fin 128,(!(!(Builtin.Str.occurrences ("abcdefghijklmnopqrstuvwxyz":Str) ⟨#[(c:Nat)]⟩ 0 ("abcdefghijklmnopqrstuvwxyz":Str).length 1).isEmpty)) = !(decide (97≤(c:Nat))&&decide ((c:Nat)≤122)):=by decide +kernel
theorem Qdc {c:Nat} (h:c < 128):QdJ (.str ⟨#[c]⟩) (.str "abcdefghijklmnopqrstuvwxyz")=some (.bl (!(decide (97≤c)&&decide (c≤122)))):=by
  have:=abc_in ⟨c,h⟩
  dsimp only at this
  show some (PV.bl _)=_
  rw [this]
theorem YE {α:Type} {g:PV→PEnv→Option PEnv} {b:MSt} (f:α→PV) (P:α→Bool) (p:PV) (I:PEnv→Prop):∀ (xs:List α) (γ:PEnv),I γ→(∀ x∈xs,∀ γ,I γ→∃ γ1,g (f x) γ=some γ1∧(P x=true→∃ γ2,b γ1=some (.nx γ2)∧I γ2)∧(P x=false→b γ1=some (.rt p))) →
    (xs.all P=true→∃ γ',forL g b (xs.map f) γ=some (.nx γ')∧I γ')∧(xs.all P=false→forL g b (xs.map f) γ=some (.rt p))
  | [],γ,h,_=>⟨fun _=>⟨γ,rfl,h⟩,fun z=>by simp at z⟩
  | x :: xs,γ,h,st=>by
    obtain ⟨γ1,e1,y,n⟩:=st x (by simp) γ h
    cases hx:P x with
    | true =>
      obtain ⟨γ2,e2,h2⟩:=y hx
      have ih:=YE f P p I xs γ2 h2 fun z hz=>st z (by simp [hz])
      have e:forL g b ((x :: xs).map f) γ=forL g b (xs.map f) γ2:=by
        rw [List.map_cons]
        conv=>lhs;unfold forL
        rw [e1,Option.bind_some,e2]
        rfl
      rw [e,List.all_cons,hx,Bool.true_and]
      exact ih
    | false =>
      have e:forL g b ((x :: xs).map f) γ=some (.rt p):=by
        rw [List.map_cons]
        conv=>lhs;unfold forL
        rw [e1,Option.bind_some,n hx]
        rfl
      rw [e,List.all_cons,hx,Bool.false_and]
      exact ⟨fun z=>(by cases z),fun _=>rfl⟩
theorem Qfs {s:Str} (h:Asc s) (hl:s.length≤9000):Zw [.str s]=some (.bl (wdB s)):=by
  unfold Zw Qbk wdB
  walk_at "ev"
  rw [pIn_3 h]
  walk_at "ev"
  cases hn:no3.any (·==s) with
  | true=>walk_at "ev";try rfl
  | false =>
    walk_at "ev"
    rw [Qgp h]
    walk_at "ev"
    unfold YX
    obtain ⟨y,n⟩:=YE (g:=gSet 1) (b:=Yv) (fun c:Nat=>PV.str ⟨#[c]⟩) (fun c=>decide (97≤c)&&decide (c≤122)) (.bl false) (fun γ=>∃ s1,γ=[.fz (.str s),s1]) s.cps.toList [.fz (.str s),.un] ⟨_,rfl⟩ (by
      rintro c hc γ ⟨s1,rfl⟩
      refine ⟨_,rfl,fun z=>⟨_,?_,.fz (.str ⟨#[c]⟩),rfl⟩,fun z => ?_⟩
      · unfold Yv
        walk_at "ev"
        rw [Qdc (h c hc),z]
        walk_at "ev"
      · unfold Yv
        walk_at "ev"
        rw [Qdc (h c hc),z]
        walk_at "ev")
    have hlo:lowB s=s.cps.toList.all fun c=>decide (97≤c)&&decide (c≤122):=rfl
    rw [hlo]
    cases ha:s.cps.toList.all fun c=>decide (97≤c)&&decide (c≤122) with
    | true =>
      obtain ⟨γ',e,s1,rfl⟩:=y ha
      rw [e]
      walk_at "ev"
      by_cases h1:1≤s.length
      · rw [decide_eq_true h1]
        walk_at "ev"
        by_cases h2:s.length≤12
        · rw [decide_eq_true h2];walk_at "ev";try rfl
        · rw [decide_eq_false h2];walk_at "ev";try rfl
      · rw [decide_eq_false h1];walk_at "ev";try rfl
    | false =>
      rw [n ha]
      walk_at "ev"
      simp
end DH

noncomputable section
namespace DH
open PySem PySem.Spec PyProof.Rows L2 L2.PM
noncomputable def AllA (ws:List Str):Prop:=∀ s∈ws,Asc s∧s.length≤9000
noncomputable def gB:List Str→Bool
  | [a,b,c,d]=>(a == "guess"&&c == "unless")&&(wdB b&&wdB d)
  | _=>false
noncomputable def rB:List Str→Bool
  | [a]=>wdB a
  | [_,_]=>false
  | a :: b :: body=>b == "if"&&(a :: body).all wdB
  | []=>false
theorem Qdv:PyData.strOk ("guess":Str)=true:=by decide +kernel
theorem un_ok:PyData.strOk ("unless":Str)=true:=by decide +kernel
theorem QhE:PyData.strOk ("if":Str)=true:=by decide +kernel
local macro_rules | `(tactic| walk_at "ev") => `(tactic| try simp (disch:=first | assumption | omega | (simp only [signs_len,encN_len,List.length_map,List.length_range,List.length_cons,List.length_nil,List.length_append];omega) | decide) only [pLen_sn,ev_iStr,pLeS_s,signs_len,EVc,List.length_cons,List.length_nil,if_true,List.map_cons,List.map_nil,List.replicate_zero,List.replicate_succ,List.cons_append,List.nil_append,List.getElem?_cons_zero,List.getElem?_cons_succ,Option.bind_some,Option.map_some,List.set_cons_zero,List.set_cons_succ,List.length_map,List.length_range,List.all_nil,List.all_cons,List.length_append])
theorem Qel:∀ {ws:List Str},AllA ws→ws.length≤1000→QJ [.lst (ws.map .str)]=some (.bl (gB ws)):=by
  intro ws ha hl
  by_cases h4:ws.length=4
  · match ws,h4 with
    | [a,b,c,d],_ =>
      obtain ⟨a1,a2⟩:=ha a (by simp)
      obtain ⟨b1,b2⟩:=ha b (by simp)
      obtain ⟨c1,c2⟩:=ha c (by simp)
      obtain ⟨d1,d2⟩:=ha d (by simp)
      unfold QJ Yy gB
      walk_at "ev"
      rw [show (!0 + 1 + 1 + 1 + 1==4)=false from rfl]
      walk_at "ev"
      rw [Qfw (Yk a1) Qdv]
      cases ea:(a == "guess") with
      | false=>walk_at "ev";try rfl
      | true =>
        walk_at "ev"
        rw [Qfw (Yk c1) un_ok]
        cases ec:(c == "unless") with
        | false=>walk_at "ev";try rfl
        | true =>
          walk_at "ev"
          rw [XI b1 b2]
          walk_at "ev"
          cases eb:wdB b with
          | false=>walk_at "ev";try rfl
          | true =>
            walk_at "ev"
            rw [XI d1 d2]
            walk_at "ev"
            try rfl
  · have hg:gB ws=false:=by
      unfold gB
      split
      · exact absurd rfl h4
      · rfl
    unfold QJ Yy
    walk_at "ev"
    rw [show (!(ws.length==4))=true by simp [h4],hg]
    walk_at "ev"
theorem cut_01 {α:Type} (x y:α) (l:List α):cutP (x :: y :: l) none (some ((1:Nat):Int))=[x]:=by
  rw [cutP_0n]
  rfl
theorem cut_2 {α:Type} (x y:α) (l:List α):cutP (x :: y :: l) (some ((2:Nat):Int)) none=l:=by
  rw [Qcg]
  rfl
theorem e_words {ws:List Str} (ha:AllA ws):XA (gSet 0) Qbw (Qo Zh (Qc (mVar 0) aNil)) [.un] (ws.map .str)=some ((ws.map wdB).map .bl):=by
  rw [Qbg PV.str (fun s=>PV.bl (wdB s)) _ fun s hs=>⟨_,rfl,by
    obtain ⟨a1,a2⟩:=ha s hs
    walk_at "ev"
    rw [XI a1 a2]⟩]
  rw [List.map_map];rfl
theorem Qfr:∀ {ws:List Str},AllA ws→ws.length≤1000→0 < ws.length→QI [.lst (ws.map .str)]=some (.bl (rB ws)):=by
  intro ws ha hl h0
  match ws with
  | []=>cases h0
  | [a] =>
    obtain ⟨a1,a2⟩:=ha a (by simp)
    unfold QI Yb
    walk_at "ev"
    rw [show (0 + 1==1)=true from rfl]
    walk_at "ev"
    rw [XI a1 a2]
    walk_at "ev"
    rfl
  | [a,b] =>
    unfold QI Yb
    walk_at "ev"
    rw [show (0 + 1 + 1==1)=false from rfl]
    walk_at "ev"
    rw [show (0 + 1 + 1==2)=true from rfl]
    walk_at "ev"
    rfl
  | a :: b :: c :: body =>
    obtain ⟨b1,b2⟩:=ha b (by simp)
    have hl2:body.length + 1 + 1 + 1≤1000:=hl
    unfold QI Yb
    walk_at "ev"
    rw [show (body.length + 1 + 1 + 1==1)=false by rw [beq_eq_false_iff_ne];omega]
    walk_at "ev"
    rw [show (body.length + 1 + 1 + 1==2)=false by rw [beq_eq_false_iff_ne];omega]
    walk_at "ev"
    rw [Qfw (Yk b1) QhE]
    have hr:rB (a :: b :: c :: body)=(b == "if"&&(a :: c :: body).all wdB):=rfl
    obtain ⟨A,hA⟩:∃ A,A=(a :: c :: body).all wdB:=⟨_,rfl⟩
    rw [hr,← hA]
    cases eb:(b == "if") with
    | false=>walk_at "ev";try rfl
    | true =>
      walk_at "ev"
      rw [cut_01,cut_2,pCat_l (by simp;omega),show [PV.str a]++PV.str c :: body.map PV.str=(a :: c :: body).map PV.str from rfl]
      have ha':AllA (a :: c :: body):=fun s hs=>ha s (by
        simp only [List.mem_cons] at hs ⊢
        rcases hs with z | z | z <;> simp [z])
      have hl':((a :: c :: body).map PV.str).length≤100000:=by simp;omega
      generalize a :: c :: body=us at *
      walk_at "ev"
      rw [e_words ha']
      walk_at "ev"
      rw [Qgj,List.all_map,hA]
      rfl
noncomputable def semT (ws:List Str):PV ⊕ Nat :=
  if gB ws=true then .inl (.tup [.str "guess",.str (ws.getD 1 ""),.str (ws.getD 3 "")])
  else if rB ws=false then .inr 0
  else if 6 < (ws.drop 2).length then .inr 1
  else if (once (ws.drop 2)).length < (ws.drop 2).length then .inr 2
  else .inl (.tup [.str "rule",.str (ws.getD 0 ""),.tup ((ws.drop 2).map .str)])
noncomputable def rdT (C:Nat→Addr) (r:PV):PV ⊕ Nat→PV ⊕ PV
  | .inl p => .inl p
  | .inr k => .inr (.obj (C (k + 2)) ["row"] [r])
noncomputable def Qhx (s2:MStR):Out ⊕ PV→Option (Out ⊕ PV)
  | .inl (.nx γ')=>s2 γ'
  | o=>some o
theorem ev_rSeq (s1 s2:MStR) (γ:PEnv):rSeq s1 s2 γ=(s1 γ).bind (Qhx s2):=by
  unfold rSeq
  congr 1
theorem rseqK_nx (s2:MStR) (γ:PEnv):Qhx s2 (.inl (.nx γ))=s2 γ:=rfl
theorem rseqK_rt (s2:MStR) (p:PV):Qhx s2 (.inl (.rt p))=some (.inl (.rt p)):=rfl
theorem rseqK_x (s2:MStR) (p:PV):Qhx s2 (.inr p)=some (.inr p):=rfl
theorem ev_rLift (m:MSt) (γ:PEnv):QaY m γ=(m γ).map .inl:=rfl
noncomputable def rifK (s1 s2:MStR) (γ:PEnv):Bool→Option (Out ⊕ PV)
  | true=>s1 γ
  | false=>s2 γ
theorem rifK_t (s1 s2:MStR) (γ:PEnv):rifK s1 s2 γ true=s1 γ:=rfl
theorem rifK_f (s1 s2:MStR) (γ:PEnv):rifK s1 s2 γ false=s2 γ:=rfl
theorem ev_rIf (t:PEnv→Option Bool) (s1 s2:MStR) (γ:PEnv):rIf t s1 s2 γ=(t γ).bind (rifK s1 s2 γ):=by
  unfold rIf
  congr 1
  funext k
  cases k <;> rfl
theorem ev_rRaise (ms:List Nat) (C:Addr) (f:Str) (ma:PEnv→Option (List PV)) (γ:PEnv):QcL ms C f ma γ=(ma γ).bind fun qs=>(one? qs).map fun p => .inr (.obj C [f] [p]):=rfl
theorem one_1 (p:PV):one? [p]=some p:=rfl
theorem runR_2 (N:Nat) (m:MStR) (a b:PV):runR N 2 m [a,b]=(m (Zj N [a,b])).bind outR:=if_pos rfl
theorem outR_rt (p:PV):outR (.inl (.rt p))=some (.inl p):=rfl
theorem outR_x (p:PV):outR (.inr p)=some (.inr p):=rfl
theorem QbQ {L:Str} (hl:L.length≤9000):QbA (.str L) [.str " "]=some ((Txt.split L sp).map .str):=by
  show (if ((" ":Str).length==0)=false∧L.length + 2≤LIM then some ((Txt.split L " ").map PV.str) else none)=_
  rw [if_pos ⟨rfl,YI (by omega)⟩]
  rfl
theorem QaL {c:Nat}:∀ {l w:List Nat},w∈splL c l→(∀ d∈w,d∈l)∧w.length≤l.length
  | [],w,h=>by
    have:w=[]:=by simpa [splL] using h
    subst this
    simp
  | d :: l,w,h=>by
    unfold splL at h
    split at h
    · rcases List.mem_cons.mp h with rfl | h
      · simp
      · obtain ⟨h1,h2⟩:=QaL h
        exact ⟨fun e he=>List.mem_cons_of_mem _ (h1 e he),by simp;omega⟩
    · obtain ⟨y,t,e⟩:=Qba c l
      rw [e] at h
      rcases List.mem_cons.mp h with rfl | h
      · obtain ⟨h1,h2⟩:=QaL (l:=l) (w:=y) (c:=c) (by rw [e];simp)
        refine ⟨fun e he => ?_,by simp;omega⟩
        rcases List.mem_cons.mp he with rfl | he
        · simp
        · exact List.mem_cons_of_mem _ (h1 e he)
      · obtain ⟨h1,h2⟩:=QaL (l:=l) (w:=w) (c:=c) (by rw [e];simp [h])
        exact ⟨fun e he=>List.mem_cons_of_mem _ (h1 e he),by simp;omega⟩
theorem Qew {c:Nat}:∀ {l:List Nat},(splL c l).length≤l.length + 1
  | []=>by simp [splL]
  | d :: l=>by
    have ih:=Qew (c:=c) (l:=l)
    unfold splL
    split
    · simp;omega
    · obtain ⟨y,t,e⟩:=Qba c l
      rw [e] at ih ⊢
      simp at ih ⊢
      omega
theorem QaZ {L:Str} (h:Asc L) (hl:L.length≤900):AllA (Txt.split L sp)∧(Txt.split L sp).length≤1000∧0 < (Txt.split L sp).length:=by
  have hx:L.cps.toList.length=L.length:=by simp [Str.length]
  rw [split_sp]
  refine ⟨fun s hs => ?_,?_,?_⟩
  · obtain ⟨w,hw,rfl⟩:=List.mem_map.mp hs
    obtain ⟨h1,h2⟩:=QaL hw
    refine ⟨fun c hc=>h c (h1 c (by simpa using hc)),?_⟩
    show w.toArray.size≤9000
    simp
    omega
  · rw [List.length_map]
    have:=Qew (c:=32) (l:=L.cps.toList)
    omega
  · obtain ⟨y,t,e⟩:=Qba 32 L.cps.toList
    rw [e]
    simp
theorem Qgl:∀ {l:List Str},(once l).length≤l.length
  | []=>Nat.le_refl _
  | x :: l=>by
    unfold once
    have h1 := @Qgl l
    simp only [List.length_cons]
    exact Nat.succ_le_succ (Nat.le_trans (List.length_filter_le _ _) h1)
theorem QgR {body:List Str} (hl:body.length < 1000):QaN [.tup (body.map .str)]=some (pN (once body).length):=by
  show (match Xh (body.map PV.str) with
    | some ss=>if ss.length < 1000 then some (PV.int (once ss).length) else none
    | none=>none)=_
  rw [L2.PM.strs?_map]
  show (if body.length < 1000 then some (PV.int (once body).length) else none)=_
  rw [if_pos hl]
  rfl
theorem Qhl (ws:List Str):(ws.map PV.str).all flat=true:=by rw [List.all_map];simp [flat]
local macro_rules | `(tactic| walk_at "ev") => `(tactic| try simp (disch:=first | assumption | omega | (simp only [signs_len,encN_len,List.length_map,List.length_range,List.length_cons,List.length_nil,List.length_append];omega) | decide) only [pLen_sn,ev_iStr,pLeS_s,signs_len,mtK_s,ev_rSeq,rseqK_nx,rseqK_rt,rseqK_x,ev_rLift,rifK_t,rifK_f,ev_rIf,ev_rRaise,one_1,runR_2,outR_rt,outR_x,EVc,List.length_cons,List.length_nil,if_true,List.map_cons,List.map_nil,List.replicate_zero,List.replicate_succ,List.cons_append,List.nil_append,List.getElem?_cons_zero,List.getElem?_cons_succ,Option.bind_some,Option.map_some,List.set_cons_zero,List.set_cons_succ,List.length_map,List.length_range,List.all_nil,List.all_cons,List.length_append])
theorem QbV (C:Nat→Addr) {L:Str} (h:Asc L) (hl:L.length≤900) (r:PV) (hr:flat r=true):Zf C [.str L,r]=some (rdT C r (semT (Txt.split L sp))):=by
  obtain ⟨ha,h1,h2⟩:=QaZ h hl
  unfold Zf Qar semT
  walk_at "ev"
  rw [QbQ (by omega)]
  generalize Txt.split L sp=ws at *
  walk_at "ev"
  try rw [Qhl]
  walk_at "ev"
  rw [Qel ha h1]
  walk_at "ev"
  cases hg:gB ws with
  | true =>
    have hg':=hg
    unfold gB at hg'
    split at hg'
    · walk_at "ev"
      rfl
    · cases hg'
  | false =>
    walk_at "ev"
    rw [Qfr ha h1 h2]
    walk_at "ev"
    cases hb:rB ws with
    | false=>walk_at "ev";rfl
    | true =>
      walk_at "ev"
      rw [show cutP ws (some ((2:Nat):Int)) none=ws.drop 2 from Qcg ws 2]
      have h3:(ws.drop 2).length≤1000:=by rw [List.length_drop];omega
      have h0:(ws.map PV.str)[0]?=some (.str (ws.getD 0 "")):=by
        cases ws with
        | nil=>cases h2
        | cons a t=>rfl
      generalize ws.drop 2=body at *
      walk_at "ev"
      by_cases h6:6 < body.length
      · rw [decide_eq_true h6,if_pos h6]
        walk_at "ev"
        rfl
      · rw [decide_eq_false h6,if_neg h6]
        walk_at "ev"
        rw [QgR (by omega)]
        walk_at "ev"
        by_cases h7:(once body).length < body.length
        · rw [decide_eq_true h7,if_pos h7]
          walk_at "ev"
          rfl
        · rw [decide_eq_false h7,if_neg h7]
          walk_at "ev"
          rw [h0]
          walk_at "ev"
          rfl
end DH

noncomputable section
namespace DH
open PySem PySem.Spec PyProof.Rows L2 L2.PM
noncomputable def dupB:List Str→Bool
  | []=>false
  | x :: l=>l.any (·==x)||dupB l
theorem Qcq {x:Str}:∀ {l:List Str},x∈once l↔x∈l
  | []=>by simp [once]
  | y :: l=>by
    unfold once
    rw [List.mem_cons,List.mem_cons,List.mem_filter,Qcq]
    by_cases h:x=y
    · simp [h]
    · simp [h]
theorem Qdi {p:Str→Bool}:∀ {l:List Str} {x:Str},x∈l→p x=false→(l.filter p).length < l.length
  | y :: l,x,h,hp=>by
    rcases List.mem_cons.mp h with rfl | h
    · rw [List.filter_cons,hp]
      exact Nat.lt_succ_of_le (List.length_filter_le _ _)
    · have:=Qdi h hp
      rw [List.filter_cons]
      split
      · simp only [List.length_cons];omega
      · simp only [List.length_cons];omega
theorem QeE:∀ {l:List Str},((once l).length < l.length)↔dupB l=true
  | []=>by simp [once,dupB]
  | x :: l=>by
    have h1 := @Qgl l
    have ih := @QeE l
    unfold once dupB
    rw [Bool.or_eq_true,← ih]
    by_cases hx:x∈l
    · have h2:=Qdi (p:=fun y => !(y==x)) (l:=once l) (x:=x) (Qcq.mpr hx) (by simp)
      have h3:(l.any fun y=>y==x)=true:=List.any_eq_true.mpr ⟨x,hx,by simp⟩
      simp only [List.length_cons,h3,true_or,iff_true]
      omega
    · have h3:(once l).filter (fun y => !(y==x))=once l:=by
        rw [List.filter_eq_self]
        intro y hy
        have:y≠x:=fun e=>hx (e ▸ Qcq.mp hy)
        simpa using this
      have h4:(l.any fun y=>y==x)=false:=by
        rw [List.any_eq_false]
        intro y hy e
        exact hx (by rw [← beq_iff_eq.mp e];exact hy)
      rw [h3,h4]
      simp
theorem Qdk:∀ (l:List Str),((List.range l.length).all fun k => !((l.drop (k + 1)).any (·==l.getD k ""))) = !dupB l
  | []=>rfl
  | x :: l=>by
    rw [List.length_cons,List.range_succ_eq_map,List.all_cons,List.all_map]
    have ih:=Qdk l
    have e:((fun k => !((List.drop (k + 1) (x :: l)).any fun y=>y==(x :: l).getD k "")) ∘ Nat.succ)=fun k => !((l.drop (k + 1)).any (·==l.getD k "")):=by
      funext k
      simp [Function.comp]
    rw [e,ih]
    show (!(l.any fun y=>y==x) && !dupB l) = !(l.any (·==x)||dupB l)
    rw [Bool.not_or]
noncomputable def badK (ws:List Str) (k:Nat):Bool := !(ws.getD 0 "" == "guess"&&(k==0||k==2))&&(!wdB (ws.getD k "") && !(k==1&&ws.getD k "" == "if"))
theorem Xv {ws:List Str} {k:Nat} (h:k < ws.length):(ws.map PV.str)[k]?=some (.str (ws.getD k "")):=by
  rw [List.getElem?_map,List.getElem?_eq_getElem h]
  simp [List.getD,h]
theorem Yo {ws:List Str} (ha:AllA ws) {k:Nat} (h:k < ws.length):Asc (ws.getD k "")∧(ws.getD k "").length≤9000:=by
  have:ws.getD k ""=ws[k]:=by simp [List.getD,h]
  rw [this]
  exact ha _ (List.getElem_mem h)
local macro_rules | `(tactic| walk_at "ev") => `(tactic| try simp (disch:=first | assumption | omega | (simp only [signs_len,encN_len,List.length_map,List.length_range,List.length_cons,List.length_nil,List.length_append];omega) | decide) only [pLen_sn,ev_iStr,pLeS_s,signs_len,mtK_s,EVc,List.length_cons,List.length_nil,if_true,List.map_cons,List.map_nil,List.replicate_zero,List.replicate_succ,List.cons_append,List.nil_append,List.getElem?_cons_zero,List.getElem?_cons_succ,Option.bind_some,Option.map_some,List.set_cons_zero,List.set_cons_succ,List.length_map,List.length_range,List.all_nil,List.all_cons,List.length_append])
theorem Xw {t1 t2:PEnv→Option Bool} {γ:PEnv} {a b:Bool} (h1:t1 γ=some a) (h2:t2 γ=some b):bAnd t1 t2 γ=some (a&&b):=by
  rw [ev_bAnd,h1];cases a
  · rfl
  · exact h2
theorem bOr_b {t1 t2:PEnv→Option Bool} {γ:PEnv} {a b:Bool} (h1:t1 γ=some a) (h2:t2 γ=some b):bOr t1 t2 γ=some (a||b):=by
  rw [ev_bOr,h1];cases a
  · exact h2
  · rfl
theorem QfW {t1:PEnv→Option Bool} {γ:PEnv} {a:Bool} (h1:t1 γ=some a):bNot t1 γ=some (!a):=by rw [ev_bNot,h1];rfl
theorem vAnd_b {t1 t2:MEx} {γ:PEnv} {a b:Bool} (h1:t1 γ=some (.bl a)) (h2:t2 γ=some (.bl b)):vAnd t1 t2 γ=some (.bl (a&&b)):=by
  rw [ev_vAnd,h1];cases a
  · rfl
  · exact h2
theorem vOr_b {t1 t2:MEx} {γ:PEnv} {a b:Bool} (h1:t1 γ=some (.bl a)) (h2:t2 γ=some (.bl b)):vOr t1 t2 γ=some (.bl (a||b)):=by
  rw [ev_vOr,h1];cases a
  · exact h2
  · rfl
theorem Xx {t:PEnv→Option Bool} {s1 s2:MSt} {γ:PEnv} {a:Bool} (h:t γ=some a):sIf t s1 s2 γ=if a=true then s1 γ else s2 γ:=by
  rw [ev_sIf,h];cases a <;> rfl
theorem due_step (L:Str) {ws:List Str} (ha:AllA ws) {k:Nat} (hk:k < ws.length) (s3:Slot):Ye [.fz (.str L),.ow (ws.map .str),.fz (pN k),s3]=some (if badK ws k=true then .rt (.tup [pN 0]) else .nx [.fz (.str L),.ow (ws.map .str),.fz (pN k),.fz (.bl (ws.getD 0 "" == "guess"&&(k==0||k==2)))]):=by
  have h0:0 < ws.length:=by omega
  obtain ⟨a1,a2⟩:=Yo ha hk
  obtain ⟨b1,b2⟩:=Yo ha h0
  have e0:=Xv h0
  have ek:=Xv hk
  unfold Ye badK
  generalize ws.getD 0 ""=w0 at *
  generalize ws.getD k ""=wk at *
  generalize hW:ws.map PV.str=W at *
  have i1:vAnd (bin2 pEq (bin2 pIx (mVar 1) (mN 0)) (mC (.str "guess"))) (vOr (bin2 pEq (mVar 2) (mN 0)) (bin2 pEq (mVar 2) (mN 2))) [.fz (.str L),.ow W,.fz (pN k),s3]=some (.bl (w0 == "guess"&&(k==0||k==2))):=by
    refine vAnd_b ?_ (vOr_b ?_ ?_)
    · walk_at "ev"
      rw [e0]
      walk_at "ev"
      rw [Qee (Yk b1) Qdv]
    · walk_at "ev"
    · walk_at "ev"
  rw [ev_sSeq,ev_sSet,i1]
  show sIf _ _ _ [.fz (.str L),.ow W,.fz (pN k),.fz (.bl (w0 == "guess"&&(k==0||k==2)))]=_
  rw [Xx (Xw (QfW (a:=w0 == "guess"&&(k==0||k==2)) ?_) (Xw (QfW (a:=wdB wk) ?_) (QfW (Xw (a:=k==1) (b:=wk == "if") ?_ ?_))))]
  · cases (!(w0 == "guess"&&(k==0||k==2))&&(!wdB wk && !(k==1&&wk == "if")))
    · walk_at "ev"
      try rfl
    · walk_at "ev"
      try rfl
  · walk_at "ev"
  · walk_at "ev"
    rw [ek]
    walk_at "ev"
    rw [Qfs a1 a2]
    walk_at "ev"
  · walk_at "ev"
  · walk_at "ev"
    rw [ek]
    walk_at "ev"
    rw [Qee (Yk a1) QhE]
    walk_at "ev"
noncomputable def dueV:PV ⊕ Nat→PV
  | .inl p=>p
  | .inr k => .tup [pN k]
noncomputable def due2 (ws:List Str):PV :=
  if (ws.getD 0 "" == "guess")=true then (if (ws.length==4&&(ws.getD 2 "" == "unless" && !(ws.getD 1 "" == "if")))=true then .tup [.str "guess",.str (ws.getD 1 ""),.str (ws.getD 3 "")] else .tup [pN 0])
  else if (ws.length==1)=true then .tup [.str "rule",.str (ws.getD 0 ""),.tup []]
  else if (!(ws.getD 1 "" == "if")||ws.length==2)=true then .tup [pN 0]
  else if 8 < ws.length then .tup [pN 1]
  else if dupB (ws.drop 2)=true then .tup [pN 2]
  else .tup [.str "rule",.str (ws.getD 0 ""),.tup ((ws.drop 2).map .str)]
noncomputable def due1 (ws:List Str):PV:=if ((List.range ws.length).all fun k => !badK ws k)=true then due2 ws else .tup [pN 0]
theorem tail_dup {ws:List Str} (h2:2≤ws.length):((List.range (ws.length - 2)).all fun k => !((ws.drop (2 + k + 1)).any (·==ws.getD (2 + k) ""))) = !dupB (ws.drop 2):=by
  have:=Qdk (ws.drop 2)
  rw [List.length_drop] at this
  rw [← this]
  congr 1
  funext k
  rw [List.drop_drop,show 2 + (k + 1)=2 + k + 1 by omega]
  simp [List.getD]
theorem rng2 (n:Nat):rngL 2 (n:Int)=(List.range (n - 2)).map fun k=>pN (2 + k):=by
  unfold rngL
  rw [show ((n:Int) - 2).toNat=n - 2 by omega]
  congr 1
theorem due_end (L:Str) {ws:List Str} (ha:AllA ws) (h1:ws.length≤1000) (h2:2≤ws.length) (s2 s3:Slot) :
    (Qak (iRg2 (mN 2) (Qo pLen (Qc (mVar 1) aNil))) (gSet 2) ZK [.fz (.str L),.ow (ws.map .str),s2,s3]).bind (seqK (sRet (mTup (Qc (mC (.str "rule")) (Qc (bin2 pIx (mVar 1) (mN 0)) (Qc (Qo QaG (Qc (mLst (sl3 pCut (mVar 1) (mSo (mN 2)) mNo)) aNil)) aNil))))))=some (.rt (if dupB (ws.drop 2)=true then .tup [pN 2] else .tup [.str "rule",.str (ws.getD 0 ""),.tup ((ws.drop 2).map .str)])):=by
  have e0:=Xv (ws:=ws) (k:=0) (by omega)
  obtain ⟨y,n⟩:=YE (g:=gSet 2) (b:=ZK) (fun k:Nat=>pN (2 + k)) (fun k => !((ws.drop (2 + k + 1)).any (·==ws.getD (2 + k) ""))) (.tup [pN 2]) (fun γ=>∃ s2,γ=[.fz (.str L),.ow (ws.map .str),s2,s3]) (List.range (ws.length - 2)) [.fz (.str L),.ow (ws.map .str),s2,s3] ⟨_,rfl⟩ (by
    rintro k hk γ ⟨s2,rfl⟩
    have hk:2 + k < ws.length:=by have:=List.mem_range.mp hk;omega
    obtain ⟨a1,a2⟩:=Yo ha hk
    have ek:=Xv hk
    have tst:truB (bin2 pIn (bin2 pIx (mVar 1) (mVar 2)) (mLst (sl3 pCut (mVar 1) (mSo (bin2 pAdd (mVar 2) (mN 1))) mNo))) [.fz (.str L),.ow (ws.map .str),.fz (pN (2 + k)),s3]=some ((ws.drop (2 + k + 1)).any (·==ws.getD (2 + k) "")):=by
      walk_at "ev"
      rw [ek]
      walk_at "ev"
      rw [Qcg,pIn_sl (Yk a1) fun s hs=>Yk (ha s (List.mem_of_mem_drop hs)).1]
      walk_at "ev"
    refine ⟨_,rfl,fun z=>⟨_,?_,.fz (pN (2 + k)),rfl⟩,fun z => ?_⟩
    · unfold ZK
      refine (Xx tst).trans ?_
      rw [if_neg (by rw [Bool.not_eq_true'] at z;rw [z];decide)]
      rfl
    · unfold ZK
      refine (Xx tst).trans ?_
      rw [if_pos (by rw [Bool.not_eq_false'] at z;exact z)]
      rfl)
  rw [tail_dup h2] at y n
  have hr:iRg2 (mN 2) (Qo pLen (Qc (mVar 1) aNil)) [.fz (.str L),.ow (ws.map .str),s2,s3]=some ((List.range (ws.length - 2)).map fun k=>pN (2 + k)):=by
    rw [← rng2 ws.length]
    walk_at "ev"
    exact rg2_i (by omega) (by omega) (by omega) (by omega)
  rw [ev_sForR,hr,Option.bind_some]
  cases hd:dupB (ws.drop 2) with
  | true =>
    rw [n (by rw [hd];rfl)]
    rfl
  | false =>
    obtain ⟨γ',e,s2',rfl⟩:=y (by rw [hd];rfl)
    rw [e]
    walk_at "ev"
    rw [e0]
    walk_at "ev"
    rw [Qcg]
    rfl
theorem Qho {L:Str} (h:Asc L) (hl:L.length≤900):Zq [.str L]=some (due1 (Txt.split L sp)):=by
  obtain ⟨ha,h1,h2⟩:=QaZ h hl
  unfold Zq Qav due1
  walk_at "ev"
  rw [QbQ (by omega)]
  generalize Txt.split L sp=ws at *
  obtain ⟨y,n⟩:=YE (g:=gSet 2) (b:=Ye) pN (fun k => !badK ws k) (.tup [pN 0]) (fun γ=>∃ s2 s3,γ=[.fz (.str L),.ow (ws.map .str),s2,s3]) (List.range ws.length) [.fz (.str L),.ow (ws.map .str),.un,.un] ⟨_,_,rfl⟩ (by
    rintro k hk γ ⟨s2,s3,rfl⟩
    have e:=due_step L ha (List.mem_range.mp hk) s3
    refine ⟨_,rfl,fun z=>⟨_,e.trans (by rw [if_neg (by simpa using z)]),_,_,rfl⟩,fun z=>e.trans (by rw [if_pos (by simpa using z)])⟩)
  walk_at "ev"
  rw [show encN (List.range ws.length)=(List.range ws.length).map pN from rfl]
  cases hb:(List.range ws.length).all fun k => !badK ws k with
  | false =>
    rw [n hb]
    rfl
  | true =>
    obtain ⟨γ',e,s2,s3,rfl⟩:=y hb
    rw [e,if_pos rfl]
    have e0:=Xv h2
    obtain ⟨a1,a2⟩:=Yo ha h2
    have t0:truB (bin2 pEq (bin2 pIx (mVar 1) (mN 0)) (mC (.str "guess"))) [.fz (.str L),.ow (ws.map .str),s2,s3]=some (ws.getD 0 "" == "guess"):=by
      walk_at "ev"
      rw [e0]
      walk_at "ev"
      rw [Qee (Yk a1) Qdv]
      walk_at "ev"
    have t4:∀ m:Nat,m≤100→truB (bin2 pEq (Qo pLen (Qc (mVar 1) aNil)) (mN m)) [.fz (.str L),.ow (ws.map .str),s2,s3]=some (ws.length==m):=fun m hm=>by
      walk_at "ev"
    rw [Option.bind_some,seqK_nx,ev_sSeq,Xx t0]
    unfold due2
    cases c0:(ws.getD 0 "" == "guess") with
    | true =>
      rw [if_pos rfl,if_pos rfl,ev_sSeq]
      by_cases h4:ws.length=4
      · have e1:=Xv (ws:=ws) (k:=1) (by omega)
        have e2:=Xv (ws:=ws) (k:=2) (by omega)
        have e3:=Xv (ws:=ws) (k:=3) (by omega)
        obtain ⟨b1,_⟩:=Yo ha (k:=1) (by omega)
        obtain ⟨b2,_⟩:=Yo ha (k:=2) (by omega)
        rw [Xx (Xw (t4 4 (by omega)) (Xw (a:=ws.getD 2 "" == "unless") (b := !(ws.getD 1 "" == "if")) ?_ ?_))]
        · cases (ws.length==4&&(ws.getD 2 "" == "unless" && !(ws.getD 1 "" == "if"))) with
          | true =>
            rw [if_pos rfl,if_pos rfl]
            walk_at "ev"
            rw [e1]
            walk_at "ev"
            rw [e3]
            walk_at "ev"
          | false =>
            rw [if_neg (by decide),if_neg (by decide)]
            walk_at "ev"
        · walk_at "ev"
          rw [e2]
          walk_at "ev"
          rw [Qee (Yk b2) un_ok]
          walk_at "ev"
        · walk_at "ev"
          rw [e1]
          walk_at "ev"
          rw [Qfw (Yk b1) QhE]
          walk_at "ev"
      · have l4:(ws.length==4)=false:=by simpa using h4
        rw [Xx (a:=false) (by rw [ev_bAnd,t4 4 (by omega),l4];rfl),if_neg (by decide),l4]
        walk_at "ev"
        rfl
    | false =>
      rw [if_neg (by decide),if_neg (by decide)]
      rw [ev_sNx,Option.bind_some,seqK_nx]
      rw [ev_sSeq,Xx (t4 1 (by omega))]
      by_cases h1':ws.length=1
      · have l1:(ws.length==1)=true:=by simpa using h1'
        rw [l1,if_pos rfl,if_pos rfl]
        walk_at "ev"
        rw [e0]
        walk_at "ev"
      · have l1:(ws.length==1)=false:=by simpa using h1'
        rw [l1,if_neg (by decide),if_neg (by decide)]
        rw [ev_sNx,Option.bind_some,seqK_nx]
        have e1:=Xv (ws:=ws) (k:=1) (by omega)
        obtain ⟨b1,_⟩:=Yo ha (k:=1) (by omega)
        rw [ev_sSeq,Xx (bOr_b (a := !(ws.getD 1 "" == "if")) ?_ (t4 2 (by omega)))]
        · cases (!(ws.getD 1 "" == "if")||ws.length==2) with
          | true=>rw [if_pos rfl,if_pos rfl];walk_at "ev"
          | false =>
            rw [if_neg (by decide),if_neg (by decide)]
            rw [ev_sNx,Option.bind_some,seqK_nx]
            rw [ev_sSeq,Xx (a:=decide (8 < ws.length)) (by walk_at "ev")]
            by_cases h8:8 < ws.length
            · rw [decide_eq_true h8,if_pos rfl,if_pos h8];walk_at "ev"
            · rw [decide_eq_false h8,if_neg (by decide),if_neg h8]
              rw [ev_sNx,Option.bind_some,seqK_nx]
              rw [ev_sSeq,due_end L ha h1 (by omega) s2 s3]
              rfl
        · walk_at "ev"
          rw [e1]
          walk_at "ev"
          rw [Qfw (Yk b1) QhE]
          walk_at "ev"
end DH

noncomputable section
namespace DH
open PySem PySem.Spec PyProof.Rows L2 L2.PM
theorem wd_no {s:Str} (h:wdB s=true) {r:Str} (hr:r∈no3):(s==r)=false:=by
  unfold wdB at h
  rw [Bool.and_eq_true,Bool.not_eq_true',List.any_eq_false] at h
  have:=h.1 r hr
  rw [beq_eq_false_iff_ne]
  rintro rfl
  simp at this
theorem m_g:("guess":Str)∈no3:=by decide +kernel
theorem m_i:("if":Str)∈no3:=by decide +kernel
theorem QcY (P:Str→Bool):∀ l:List Str,((List.range l.length).all fun k=>P (l.getD k ""))=l.all P
  | []=>rfl
  | x :: l=>by
    rw [List.length_cons,List.range_succ_eq_map,List.all_cons,List.all_map,List.all_cons,← QcY P l]
    rfl
theorem bad_w {ws:List Str} {k:Nat} (h0:(k==0)=false) (h1:(k==1)=false) (h2:(k==2)=false):(!badK ws k)=wdB (ws.getD k ""):=by
  unfold badK
  rw [h0,h1,h2]
  simp
theorem due_sem:∀ {ws:List Str},0 < ws.length→due1 ws=dueV (semT ws)
  | [],h=>by cases h
  | [a],_=>by
    have e:((List.range [a].length).all fun k => !badK [a] k)=(a == "guess"||wdB a):=by
      show (!badK [a] 0&&true)=_
      unfold badK
      simp [List.getD]
    unfold due1
    rw [e]
    unfold due2 semT gB rB
    cases hw:wdB a with
    | true =>
      have:=wd_no hw m_g
      simp [this,once,dueV,List.getD,hw]
    | false =>
      cases hg:(a == "guess") with
      | true=>simp [dueV,List.getD,hg,hw]
      | false=>simp [dueV,hw]
  | [a,b],_=>by
    unfold due1 due2 semT gB rB
    have:(2==4)=false:=rfl
    simp [dueV,List.getD]
  | a :: b :: c :: body,_=>by
    have e:((List.range (a :: b :: c :: body).length).all fun k => !badK (a :: b :: c :: body) k)=(!badK (a :: b :: c :: body) 0&&(!badK (a :: b :: c :: body) 1&&(!badK (a :: b :: c :: body) 2&&body.all wdB))):=by
      show ((List.range (body.length + 1 + 1 + 1)).all fun k => !badK (a :: b :: c :: body) k)=_
      rw [List.range_succ_eq_map,List.all_cons,List.all_map,List.range_succ_eq_map,List.all_cons,List.all_map,List.range_succ_eq_map,List.all_cons,List.all_map,← QcY wdB body]
      congr 3
      congr 1
      funext k
      exact bad_w rfl rfl rfl
    have b0:(!badK (a :: b :: c :: body) 0)=(a == "guess"||wdB a):=by
      unfold badK;simp [List.getD]
    have b1:(!badK (a :: b :: c :: body) 1)=(wdB b||b == "if"):=by
      unfold badK;simp [List.getD]
    have b2:(!badK (a :: b :: c :: body) 2)=(a == "guess"||wdB c):=by
      unfold badK;simp [List.getD]
    unfold due1
    rw [e,b0,b1,b2]
    have hr:rB (a :: b :: c :: body)=(b == "if"&&(wdB a&&(wdB c&&body.all wdB))):=rfl
    have hd:(a :: b :: c :: body).drop 2=c :: body:=rfl
    have hl:(a :: b :: c :: body).length=body.length + 3:=rfl
    have g0:(a :: b :: c :: body).getD 0 ""=a:=rfl
    have g1:(a :: b :: c :: body).getD 1 ""=b:=rfl
    have g2:(a :: b :: c :: body).getD 2 ""=c:=rfl
    unfold due2 semT
    rw [hr,hd,hl,g0,g1,g2]
    cases A:(a == "guess") with
    | true =>
      have wa:wdB a=false:=by
        cases w:wdB a with
        | false=>rfl
        | true=>rw [wd_no w m_g] at A;cases A
      rw [wa,Bool.true_or,Bool.true_or,Bool.true_and,Bool.true_and,Bool.false_and,Bool.and_false,if_pos (show (true:Bool)=true from rfl),if_pos (show (false:Bool)=false from rfl)]
      match body with
      | [d] =>
        have hg:gB [a,b,c,d]=((a == "guess"&&c == "unless")&&(wdB b&&wdB d)):=rfl
        rw [hg,A,show ([d]:List Str).all wdB=wdB d by simp,show (([d]:List Str).length + 3==4)=true from rfl]
        cases wb:wdB b with
        | true =>
          rw [wd_no wb m_i]
          cases wdB d <;> cases (c == "unless") <;> rfl
        | false =>
          cases (b == "if") <;> cases wdB d <;> cases (c == "unless") <;> rfl
      | [] =>
        have hg:gB [a,b,c]=false:=rfl
        rw [hg]
        cases (wdB b||b == "if") <;> rfl
      | d :: e :: r =>
        have hg:gB (a :: b :: c :: d :: e :: r)=false:=rfl
        have hl4:((d :: e :: r).length + 3==4)=false:=by simp
        rw [hg,hl4]
        cases ((wdB b||b == "if")&&(d :: e :: r).all wdB) <;> rfl
    | false =>
      have hg:gB (a :: b :: c :: body)=false:=by
        unfold gB
        split
        · rename_i x y z w e0
          cases e0
          rw [A];rfl
        · rfl
      rw [hg,Bool.false_or,Bool.false_or,if_neg (show ¬ (false:Bool)=true by decide),if_neg (show ¬ (false:Bool)=true by decide),show (body.length + 3==1)=false by simp,show (body.length + 3==2)=false by simp,Bool.or_false,if_neg (show ¬ (false:Bool)=true by decide)]
      cases I:(b == "if") with
      | false =>
        rw [Bool.false_and,if_pos (show (false:Bool)=false from rfl),if_pos (show (!false)=true from rfl)]
        split <;> rfl
      | true =>
        rw [Bool.or_true,Bool.true_and,Bool.true_and,if_neg (show ¬ (!true)=true by decide)]
        cases (wdB a&&(wdB c&&body.all wdB)) with
        | false=>rfl
        | true =>
          rw [if_pos rfl,if_neg (show ¬ (true:Bool)=false by decide),List.length_cons]
          by_cases h8:8 < body.length + 3
          · rw [if_pos h8,if_pos (show 6 < body.length + 1 by omega)];rfl
          · rw [if_neg h8,if_neg (show ¬ 6 < body.length + 1 by omega)]
            have hdd:(once (c :: body)).length < body.length + 1↔dupB (c :: body)=true:=QeE
            by_cases hdp:dupB (c :: body)=true
            · rw [if_pos hdp,if_pos (hdd.mpr hdp)];rfl
            · rw [if_neg hdp,if_neg (fun z=>hdp (hdd.mp z))];rfl
end DH

noncomputable section
namespace DH
open PySem PySem.Spec PyProof.Rows L2 L2.PM
noncomputable def QcP (k:Nat):List Bool:=[k==1,k==2,k==3,k==4,true,true,true,false,false,false,false,false,false,false]
noncomputable def bls (bs:List Bool):List PV:=bs.map .bl
theorem nodup5 {C:Nat→Addr} (h:([C 1,C 2,C 3,C 4,C 5]:List Addr).Nodup):∀ i j,1≤i→i≤5→1≤j→j≤5→i≠j→(C i==C j)=false:=by
  intro i j h1 h2 h3 h4 h5
  rw [beq_eq_false_iff_ne]
  simp only [List.nodup_cons,List.mem_cons,List.not_mem_nil,or_false,not_or] at h
  obtain ⟨⟨a1,a2,a3,a4⟩,⟨b1,b2,b3⟩,⟨c1,c2⟩,d1,_⟩:=h
  have hi:i=1∨i=2∨i=3∨i=4∨i=5:=by omega
  have hj:j=1∨j=2∨j=3∨j=4∨j=5:=by omega
  rcases hi with rfl | rfl | rfl | rfl | rfl <;> rcases hj with rfl | rfl | rfl | rfl | rfl <;> first
    | exact absurd rfl h5
    | assumption
    | (apply Ne.symm;assumption)
theorem lk5 {C:Nat→Addr} (h:([C 1,C 2,C 3,C 4,C 5]:List Addr).Nodup) {i:Nat} (h1:1≤i) (h2:i≤5) (f:Nat→Bool):([(C 1,f 1),(C 2,f 2),(C 3,f 3),(C 4,f 4),(C 5,f 5)]:List (Addr×Bool)).lookup (C i)=some (f i):=by
  have n:=nodup5 h
  have hi:i=1∨i=2∨i=3∨i=4∨i=5:=by omega
  rcases hi with rfl | rfl | rfl | rfl | rfl <;> simp (disch:=omega) only [List.lookup_cons,beq_self_eq_true,n]
theorem ct5 {C:Nat→Addr} {i:Nat} (h1:1≤i) (h2:i≤5):([C 1,C 2,C 3,C 4,C 5]:List Addr).contains (C i)=true:=by
  have hi:i=1∨i=2∨i=3∨i=4∨i=5:=by omega
  rcases hi with rfl | rfl | rfl | rfl | rfl <;> simp
theorem ev_mIsX (tab:List (Addr×Bool)) (m:MEx) (γ:PEnv):mIsX tab m γ=(m γ).bind (isX tab):=rfl
theorem ev_mFldX (Cs:List Addr) (f:Str) (m:MEx) (γ:PEnv):QfC Cs f m γ=(m γ).bind (fldX Cs f):=rfl
theorem Qcx {C:Nat→Addr} (h:([C 1,C 2,C 3,C 4,C 5]:List Addr).Nodup) {i:Nat} (h1:1≤i) (h2:i≤5) (b1 b2 b3 b4 b5:Bool) (ks:List Str) (ps:List PV) :
    isX [(C 1,b1),(C 2,b2),(C 3,b3),(C 4,b4),(C 5,b5)] (.obj (C i) ks ps)=some (.bl (if i=1 then b1 else if i=2 then b2 else if i=3 then b3 else if i=4 then b4 else b5)):=by
  have:=lk5 h h1 h2 fun k=>if k=1 then b1 else if k=2 then b2 else if k=3 then b3 else if k=4 then b4 else b5
  show ((([(C 1,b1),(C 2,b2),(C 3,b3),(C 4,b4),(C 5,b5)]:List (Addr×Bool)).lookup (C i)).map PV.bl)=_
  have e:([(C 1,b1),(C 2,b2),(C 3,b3),(C 4,b4),(C 5,b5)]:List (Addr×Bool)).lookup (C i)=some (if i=1 then b1 else if i=2 then b2 else if i=3 then b3 else if i=4 then b4 else b5):=this
  rw [e];rfl
theorem fldX_5 {C:Nat→Addr} {i:Nat} (h1:1≤i) (h2:i≤5) (r:PV):fldX [C 1,C 2,C 3,C 4,C 5] "row" (.obj (C i) ["row"] [r])=some r:=by
  show (if ([C 1,C 2,C 3,C 4,C 5]:List Addr).contains (C i)=true then ((["row"]:List Str).zip [r]).lookup ("row":Str) else none)=_
  rw [if_pos (ct5 h1 h2)]
  simp
theorem ofCs_5 {C:Nat→Addr} {i:Nat} (h1:1≤i) (h2:i≤5) (ks:List Str) (ps:List PV):ofCs [C 1,C 2,C 3,C 4,C 5] (.obj (C i) ks ps)=true:=ct5 h1 h2
theorem flat_obj (C:Addr) (ks:List Str) (ps:List PV):flat (.obj C ks ps)=false:=rfl
local macro_rules | `(tactic| walk_at "ev") => `(tactic| try simp (disch:=first | assumption | omega | (simp only [signs_len,encN_len,List.length_map,List.length_range,List.length_cons,List.length_nil,List.length_append];omega) | decide) only [pLen_sn,ev_mIsX,ev_mFldX,flat_obj,EVc,List.length_cons,List.length_nil,if_true,List.map_cons,List.map_nil,List.replicate_zero,List.replicate_succ,List.cons_append,List.nil_append,List.getElem?_cons_zero,List.getElem?_cons_succ,Option.bind_some,Option.map_some,List.set_cons_zero,List.set_cons_succ,List.length_map,List.length_range,List.all_nil,List.all_cons,List.length_append])
theorem e_kinds {C:Nat→Addr} (h:([C 1,C 2,C 3,C 4,C 5]:List Addr).Nodup) {i:Nat} (h1:1≤i) (h2:i≤5) (r:PV):QT C [.obj (C i) ["row"] [r]]=some (.lst (bls (QcP (i - 1)))):=by
  have hi:i=1∨i=2∨i=3∨i=4∨i=5:=by omega
  unfold QT Xp
  rcases hi with rfl | rfl | rfl | rfl | rfl
  · have e:∀ b1 b2 b3 b4 b5,isX [(C 1,b1),(C 2,b2),(C 3,b3),(C 4,b4),(C 5,b5)] (.obj (C 1) ["row"] [r])=some (.bl b1):=fun b1 b2 b3 b4 b5=>Qcx h h1 h2 b1 b2 b3 b4 b5 ["row"] [r]
    iterate 4 (walk_at "ev";try simp only [e])
    walk_at "ev"
    rfl
  · have e:∀ b1 b2 b3 b4 b5,isX [(C 1,b1),(C 2,b2),(C 3,b3),(C 4,b4),(C 5,b5)] (.obj (C 2) ["row"] [r])=some (.bl b2):=fun b1 b2 b3 b4 b5=>Qcx h h1 h2 b1 b2 b3 b4 b5 ["row"] [r]
    iterate 4 (walk_at "ev";try simp only [e])
    walk_at "ev"
    rfl
  · have e:∀ b1 b2 b3 b4 b5,isX [(C 1,b1),(C 2,b2),(C 3,b3),(C 4,b4),(C 5,b5)] (.obj (C 3) ["row"] [r])=some (.bl b3):=fun b1 b2 b3 b4 b5=>Qcx h h1 h2 b1 b2 b3 b4 b5 ["row"] [r]
    iterate 4 (walk_at "ev";try simp only [e])
    walk_at "ev"
    rfl
  · have e:∀ b1 b2 b3 b4 b5,isX [(C 1,b1),(C 2,b2),(C 3,b3),(C 4,b4),(C 5,b5)] (.obj (C 4) ["row"] [r])=some (.bl b4):=fun b1 b2 b3 b4 b5=>Qcx h h1 h2 b1 b2 b3 b4 b5 ["row"] [r]
    iterate 4 (walk_at "ev";try simp only [e])
    walk_at "ev"
    rfl
  · have e:∀ b1 b2 b3 b4 b5,isX [(C 1,b1),(C 2,b2),(C 3,b3),(C 4,b4),(C 5,b5)] (.obj (C 5) ["row"] [r])=some (.bl b5):=fun b1 b2 b3 b4 b5=>Qcx h h1 h2 b1 b2 b3 b4 b5 ["row"] [r]
    iterate 4 (walk_at "ev";try simp only [e])
    walk_at "ev"
    rfl
end DH

noncomputable section
namespace DH
open PySem PySem.Spec PyProof.Rows L2 L2.PM
noncomputable def tryK (i:Nat) (Cs:List Addr) (sm:MSt):Out ⊕ (PEnv×PV)→Option Out
  | .inl o=>some o
  | .inr (γ1,p)=>if ofCs Cs p=true then (sm (γ1.set i (.fz p))).bind fun o=>match o with
    | .nx γ2=>some (.nx (γ2.set i .un))
    | _=>none
    else none
theorem ev_sTry (i:Nat) (Cs:List Addr) (mb:MStQ) (sm:MSt) (γ:PEnv):sTry i Cs mb sm γ=(mb γ).bind (tryK i Cs sm):=by
  unfold sTry
  congr 1
theorem tryK_l (i:Nat) (Cs:List Addr) (sm:MSt) (o:Out):tryK i Cs sm (.inl o)=some o:=rfl
theorem tryK_r {i:Nat} {Cs:List Addr} {sm:MSt} {γ1 γ2:PEnv} {p:PV} (h:ofCs Cs p=true) (e:sm (γ1.set i (.fz p))=some (.nx γ2)):tryK i Cs sm (.inr (γ1,p))=some (.nx (γ2.set i .un)):=by
  show (if ofCs Cs p=true then _ else _)=_
  rw [if_pos h,e]
  rfl
noncomputable def qifK (s1 s2:MStQ) (γ:PEnv):Bool→Option (Out ⊕ (PEnv×PV))
  | true=>s1 γ
  | false=>s2 γ
theorem ev_qIf (t:PEnv→Option Bool) (s1 s2:MStQ) (γ:PEnv):qIf t s1 s2 γ=(t γ).bind (qifK s1 s2 γ):=by
  unfold qIf
  congr 1
  funext k
  cases k <;> rfl
theorem qifK_t (s1 s2:MStQ) (γ:PEnv):qifK s1 s2 γ true=s1 γ:=rfl
theorem qifK_f (s1 s2:MStQ) (γ:PEnv):qifK s1 s2 γ false=s2 γ:=rfl
noncomputable def Qhy (ms:List Nat) (i:Nat) (γ:PEnv):PV ⊕ PV→Out ⊕ (PEnv×PV)
  | .inl r => .inl (.nx ((Zd (flat r) ms γ).set i (.fz r)))
  | .inr p => .inr (frz ms γ,p)
theorem ev_qSet (ms:List Nat) (i:Nat) (g:List PV→Option (PV ⊕ PV)) (ma:PEnv→Option (List PV)) (γ:PEnv):qSet ms i g ma γ=(ma γ).bind fun qs=>(g qs).map (Qhy ms i γ):=by
  unfold qSet
  congr 1
theorem qsetK_l (ms:List Nat) (i:Nat) (γ:PEnv) (r:PV):Qhy ms i γ (.inl r) = .inl (.nx ((Zd (flat r) ms γ).set i (.fz r))):=rfl
theorem qsetK_r (ms:List Nat) (i:Nat) (γ:PEnv) (r:PV):Qhy ms i γ (.inr r) = .inr (frz ms γ,r):=rfl
local macro_rules | `(tactic| walk_at "ev") => `(tactic| try simp (disch:=first | assumption | omega | (simp only [signs_len,encN_len,List.length_map,List.length_range,List.length_cons,List.length_nil,List.length_append];omega) | decide) only [pLen_sn,ev_mIsX,ev_mFldX,flat_obj,EVc,List.length_cons,List.length_nil,if_true,List.map_cons,List.map_nil,List.replicate_zero,List.replicate_succ,List.cons_append,List.nil_append,List.getElem?_cons_zero,List.getElem?_cons_succ,Option.bind_some,Option.map_some,List.set_cons_zero,List.set_cons_succ,List.length_map,List.length_range,List.all_nil,List.all_cons,List.length_append])
theorem e_suite {C:Nat→Addr} (h:([C 1,C 2,C 3,C 4,C 5]:List Addr).Nodup) {k:Nat} (hk:k < 3) (s0 s1 s2 s6:Slot) (r:PV) (hr:flat r=true):Za C [s0,s1,s2,.ow [],.ow [],.fz (pN 0),s6,.fz (.obj (C (k + 2)) ["row"] [r])] =
    some (.nx [s0,s1,s2,.ow (bls [k==0,k==1,k==2,false,true,true,true]),.ow (bls [false,false,false,false,false,false,false]),.fz r,s6,.fz (.obj (C (k + 2)) ["row"] [r])]):=by
  have hi:k=0∨k=1∨k=2:=by omega
  unfold Za
  have f:=fldX_5 (C:=C) (i:=k + 2) (by omega) (by omega) r
  rcases hi with rfl | rfl | rfl
  · have e:∀ b1 b2 b3 b4 b5,isX [(C 1,b1),(C 2,b2),(C 3,b3),(C 4,b4),(C 5,b5)] (.obj (C 2) ["row"] [r])=some (.bl b2):=fun b1 b2 b3 b4 b5=>Qcx h (by decide) (by decide) b1 b2 b3 b4 b5 ["row"] [r]
    iterate 5 (walk_at "ev";try simp only [e])
    walk_at "ev"
    rw [f]
    walk_at "ev"
    rw [hr]
    rfl
  · have e:∀ b1 b2 b3 b4 b5,isX [(C 1,b1),(C 2,b2),(C 3,b3),(C 4,b4),(C 5,b5)] (.obj (C 3) ["row"] [r])=some (.bl b3):=fun b1 b2 b3 b4 b5=>Qcx h (by decide) (by decide) b1 b2 b3 b4 b5 ["row"] [r]
    iterate 5 (walk_at "ev";try simp only [e])
    walk_at "ev"
    rw [f]
    walk_at "ev"
    rw [hr]
    rfl
  · have e:∀ b1 b2 b3 b4 b5,isX [(C 1,b1),(C 2,b2),(C 3,b3),(C 4,b4),(C 5,b5)] (.obj (C 4) ["row"] [r])=some (.bl b4):=fun b1 b2 b3 b4 b5=>Qcx h (by decide) (by decide) b1 b2 b3 b4 b5 ["row"] [r]
    iterate 5 (walk_at "ev";try simp only [e])
    walk_at "ev"
    rw [f]
    walk_at "ev"
    rw [hr]
    rfl
noncomputable def askV (r:PV):PV ⊕ Nat→PV
  | .inl t => .tup [.lst [],pN 0,t]
  | .inr k => .tup [.lst (bls (QcP (k + 1))),r,.non]
theorem Qez {ws:List Str} {k:Nat} (h:semT ws = .inr k):k < 3:=by
  unfold semT at h
  split at h
  · cases h
  split at h
  · cases h;decide
  split at h
  · cases h;decide
  split at h
  · cases h;decide
  · cases h
theorem sem_flat {ws:List Str} {t:PV} (h:semT ws = .inl t):flat t=false:=by
  unfold semT at h
  split at h
  · cases h;rfl
  split at h
  · cases h
  split at h
  · cases h
  split at h
  · cases h
  · cases h;rfl
local macro_rules | `(tactic| walk_at "ev") => `(tactic| try simp (disch:=first | assumption | omega | (simp only [signs_len,encN_len,List.length_map,List.length_range,List.length_cons,List.length_nil,List.length_append];omega) | decide) only [pLen_sn,ev_sTry,tryK_l,ev_qIf,qifK_t,qifK_f,ev_qSet,qsetK_l,qsetK_r,EVc,List.length_cons,List.length_nil,if_true,List.map_cons,List.map_nil,List.replicate_zero,List.replicate_succ,List.cons_append,List.nil_append,List.getElem?_cons_zero,List.getElem?_cons_succ,Option.bind_some,Option.map_some,List.set_cons_zero,List.set_cons_succ,List.length_map,List.length_range,List.all_nil,List.all_cons,List.length_append])
theorem e_try {C:Nat→Addr} (hC:([C 1,C 2,C 3,C 4,C 5]:List Addr).Nodup) (L:Str) (bare:Bool) (p q:Nat) (ws:List Str) (ms:List Nat) (hm:ms=[0]∨ms=[0,2]) :
    ((tryK 7 [C 1,C 2,C 3,C 4,C 5] (Za C) (Qhy ms 6 [.fz (.str L),.fz (.bl bare),.fz (pN p),.ow [],.ow [],.fz (pN 0),.fz .non,.un] (rdT C (pN q) (semT ws)))).bind
      (seqK (sRet (mTup (Qc (mLst (bin2 pCat (mVar 3) (mVar 4))) (Qc (mVar 5) (Qc (mVar 6) aNil))))))).bind outV=some (askV (pN q) (semT ws)):=by
  cases hs:semT ws with
  | inl t =>
    have hf:=sem_flat hs
    rw [show rdT C (pN q) (Sum.inl t)=Sum.inl t from rfl,qsetK_l,hf,tryK_l]
    rcases hm with rfl | rfl
    · walk_at "ev"
      rfl
    · walk_at "ev"
      rfl
  | inr k =>
    have hk:=Qez hs
    rw [show rdT C (pN q) (Sum.inr k)=Sum.inr (.obj (C (k + 2)) ["row"] [pN q]) from rfl,qsetK_r]
    have e:=e_suite hC hk (.fz (.str L)) (.fz (.bl bare)) (.fz (pN p)) (.fz .non) (pN q) rfl
    have hi:k=0∨k=1∨k=2:=by omega
    rcases hm with rfl | rfl
    · rw [tryK_r (ofCs_5 (by omega) (by omega) _ _) (show Za C ((frz [0] [.fz (.str L),.fz (.bl bare),.fz (pN p),.ow [],.ow [],.fz (pN 0),.fz .non,.un]).set 7 _)=_ from e)]
      rcases hi with rfl | rfl | rfl <;> (walk_at "ev";rfl)
    · rw [tryK_r (ofCs_5 (by omega) (by omega) _ _) (show Za C ((frz [0,2] [.fz (.str L),.fz (.bl bare),.fz (pN p),.ow [],.ow [],.fz (pN 0),.fz .non,.un]).set 7 _)=_ from e)]
      rcases hi with rfl | rfl | rfl <;> (walk_at "ev";rfl)
theorem e_asked {C:Nat→Addr} (hC:([C 1,C 2,C 3,C 4,C 5]:List Addr).Nodup) {L:Str} (h:Asc L) (hl:L.length≤900) (bare:Bool) (p:Nat):QU C [.str L,.bl bare,pN p]=some (askV (pN (if bare=true then 0 else p)) (semT (Txt.split L sp))):=by
  unfold QU Xq
  cases bare with
  | true =>
    walk_at "ev"
    rw [QbV C h hl (pN 0) rfl]
    walk_at "ev"
    exact e_try hC L true p 0 _ [0] (.inl rfl)
  | false =>
    walk_at "ev"
    rw [QbV C h hl (pN p) rfl]
    walk_at "ev"
    exact e_try hC L false p p _ [0,2] (.inr rfl)
local macro_rules | `(tactic| walk_at "ev") => `(tactic| try simp (disch:=first | assumption | omega | (simp only [signs_len,encN_len,List.length_map,List.length_range,List.length_cons,List.length_nil,List.length_append];omega) | decide) only [pLen_sn,EVc,List.length_cons,List.length_nil,if_true,List.map_cons,List.map_nil,List.replicate_zero,List.replicate_succ,List.cons_append,List.nil_append,List.getElem?_cons_zero,List.getElem?_cons_succ,Option.bind_some,Option.map_some,List.set_cons_zero,List.set_cons_succ,List.length_map,List.length_range,List.all_nil,List.all_cons,List.length_append])
theorem okv_t3 {x y z:PV} (hx:okv x=true) (hy:okv y=true) (hz:okv z=true) (dx:dep x≤5) (dy:dep y≤5) (dz:dep z≤5):okv (.tup [x,y,z])=true:=by
  unfold okv at *
  rw [Bool.and_eq_true,decide_eq_true_iff] at *
  refine ⟨?_,?_⟩
  · simp only [dep,depL];omega
  · simp only [okS,okSL,hx.2,hy.2,hz.2,Bool.and_self]
theorem e_same_g {a b:Str} (ha:PyData.strOk a=true) (hb:PyData.strOk b=true):QO [.tup [.str "guess",.str a,.str b],.tup [.str "guess",.str a,.str b]]=some (.bl true):=by
  unfold QO Xz
  walk_at "ev"
  rw [show (!0 + 1 + 1 + 1==3)=false from rfl]
  walk_at "ev"
  rw [Qee Qdv Qdv,show (("guess":Str) == "guess")=true by simp]
  walk_at "ev"
  have ho:okv (.tup [.str "guess",.str a,.str b])=true:=okv_t3 (ZU Qdv) (ZU ha) (ZU hb) (by simp [dep]) (by simp [dep]) (by simp [dep])
  rw [QbB ho ho,YD]
  walk_at "ev"
theorem Qck:∀ (ss:List Str),depL (ss.map .str)≤1
  | []=>by simp [depL]
  | x :: ss=>by
    have:=Qck ss
    simp only [List.map_cons,depL,dep]
    omega
theorem Qeu:∀ {ss:List Str},(∀ s∈ss,PyData.strOk s=true)→okSL (ss.map .str)=true
  | [],_=>rfl
  | x :: ss,h=>by
    simp only [List.map_cons,okSL,okS,Bool.and_eq_true]
    exact ⟨h x (by simp),Qeu fun s hs=>h s (by simp [hs])⟩
theorem okv_strT {ss:List Str} (h:∀ s∈ss,PyData.strOk s=true):okv (.tup (ss.map .str))=true:=by
  have:=Qck ss
  unfold okv
  rw [Bool.and_eq_true,decide_eq_true_iff]
  refine ⟨?_,?_⟩
  · simp only [dep];omega
  · simp only [okS];exact Qeu h
theorem ru_ok:PyData.strOk ("rule":Str)=true:=by decide +kernel
theorem e_same_r {a:Str} {body:List Str} (ha:PyData.strOk a=true) (hb:∀ s∈body,PyData.strOk s=true) (hl:body.length≤1000):QO [.tup [.str "rule",.str a,.tup (body.map .str)],.tup [.str "rule",.str a,.tup (body.map .str)]]=some (.bl true):=by
  have ho:okv (.tup [.str "rule",.str a,.tup (body.map .str)])=true:=okv_t3 (ZU ru_ok) (ZU ha) (okv_strT hb) (by simp [dep]) (by simp [dep]) (by have:=Qck body;simp only [dep];omega)
  unfold QO Xz
  walk_at "ev"
  rw [show (!0 + 1 + 1 + 1==3)=false from rfl]
  walk_at "ev"
  rw [Qee ru_ok Qdv,show (("rule":Str) == "guess")=false by decide +kernel]
  walk_at "ev"
  rw [show (!(body.length==body.length))=false by simp]
  walk_at "ev"
  obtain ⟨y,_⟩:=YE (g:=gSet 2) (b:=YV) PV.str (fun _=>true) (.bl false) (fun γ=>∃ s2,γ=[.fz (.tup [.str "rule",.str a,.tup (body.map .str)]),.fz (.tup [.str "rule",.str a,.tup (body.map .str)]),s2]) body [.fz (.tup [.str "rule",.str a,.tup (body.map .str)]),.fz (.tup [.str "rule",.str a,.tup (body.map .str)]),.un] ⟨_,rfl⟩ (by
    rintro x hx γ ⟨s2,rfl⟩
    refine ⟨_,rfl,fun _=>⟨_,?_,.fz (.str x),rfl⟩,fun z=>by cases z⟩
    unfold YV
    walk_at "ev")
  obtain ⟨γ',e,s2,rfl⟩:=y (by simp)
  rw [e]
  walk_at "ev"
  rw [QbB ho ho,YD]
  rfl
theorem pRep_7:pRep (.lst [.bl false]) (pN 7)=some (bls [false,false,false,false,false,false,false]):=by
  show (if -1000≤((7:Nat):Int)∧((7:Nat):Int)≤1000∧[PV.bl false].length≤1000 then some (List.replicate ((7:Nat):Int).toNat [PV.bl false]).flatten else none)=_
  rw [if_pos (by decide)]
  rfl
theorem Qgx (z:Int):Qt [.int z]=some (.lst (bls [((0:Nat):Int)==z,((1:Nat):Int)==z,((2:Nat):Int)==z,((3:Nat):Int)==z,true,true,true,false,false,false,false,false,false,false])):=by
  have hc:XA (gSet 0) Qbw (bin2 pEq (mVar 0) (mVar 1)) [.un,.fz (.int z)] (encN (List.range 4))=some ((List.range 4).map fun k=>PV.bl (((k:Nat):Int)==z)):=by
    rw [show encN (List.range 4)=(List.range 4).map pN from rfl]
    rw [Qbg pN (fun k=>PV.bl (((k:Nat):Int)==z)) _ fun k hk=>⟨_,rfl,by
      show bin2 pEq (mVar 0) (mVar 1) [.fz (pN k),.fz (.int z)]=_
      rw [ev_bin2]
      show pEq (.int (k:Int)) (.int z)=_
      rw [QbB (Xl _) (Xl _)]
      rfl⟩]
  unfold Qt YN
  walk_at "ev"
  rw [hc]
  walk_at "ev"
  rw [pRep_7]
  walk_at "ev"
  rfl
theorem due_k {k:Nat} (h:k < 3):Qt [pN k]=some (.lst (bls (QcP (k + 1)))):=by
  have hi:k=0∨k=1∨k=2:=by omega
  rw [show pN k = .int (k:Int) from rfl,Qgx]
  rcases hi with rfl | rfl | rfl <;> rfl
theorem YT:∀ (bs:List Bool),okv (.lst (bls bs))=true:=fun bs=>by
  have d:∀ bs:List Bool,depL (bls bs)≤1:=fun bs=>by
    induction bs with
    | nil=>simp [bls,depL]
    | cons b bs ih=>simp only [bls,List.map_cons,depL,dep] at *;omega
  have o:∀ bs:List Bool,okSL (bls bs)=true:=fun bs=>by
    induction bs with
    | nil=>rfl
    | cons b bs ih=>simp only [bls,List.map_cons,okSL,okS,Bool.true_and] at *;exact ih
  have:=d bs
  unfold okv
  rw [Bool.and_eq_true,decide_eq_true_iff]
  exact ⟨by simp only [dep];omega,by simp only [okS];exact o bs⟩
theorem QdR (p:Nat):QL [pN p]=some (.bl true):=by
  unfold QL Qat
  walk_at "ev"
theorem sem_same {ws:List Str} (ha:AllA ws) (h0:0 < ws.length) (h1:ws.length≤1000) {t:PV} (h:semT ws = .inl t):QO [t,t]=some (.bl true)∧∃ x y z,t = .tup [x,y,z]:=by
  have ok:∀ k,PyData.strOk (ws.getD k "")=true:=fun k=>by
    by_cases hk:k < ws.length
    · exact Yk (Yo ha hk).1
    · have:ws.getD k "" = "":=by simp [List.getD,List.getElem?_eq_none (Nat.le_of_not_lt hk)]
      rw [this];decide +kernel
  unfold semT at h
  split at h
  · cases h
    exact ⟨e_same_g (ok 1) (ok 3),_,_,_,rfl⟩
  split at h
  · cases h
  split at h
  · cases h
  split at h
  · cases h
  · cases h
    refine ⟨e_same_r (ok 0) (fun s hs=>Yk (ha s (List.mem_of_mem_drop hs)).1) (by rw [List.length_drop];omega),_,_,_,rfl⟩
theorem e_right {C:Nat→Addr} (hC:([C 1,C 2,C 3,C 4,C 5]:List Addr).Nodup) {L:Str} (h:Asc L) (hl:L.length≤900) (bare:Bool) (p:Nat):QS C [.str L,.bl bare,pN p]=some (.bl true):=by
  obtain ⟨ha,h1,h2⟩:=QaZ h hl
  have eD:=Qho h hl
  have eA:=e_asked hC h hl bare p
  rw [due_sem h2] at eD
  unfold QS Xo
  walk_at "ev"
  rw [eD]
  cases hs:semT (Txt.split L sp) with
  | inl t =>
    obtain ⟨hsm,x,y,z,rfl⟩:=sem_same ha h2 h1 hs
    rw [hs] at eA
    rw [show dueV (Sum.inl (PV.tup [x,y,z])) = .tup [x,y,z] from rfl]
    rw [show askV (pN (if bare=true then 0 else p)) (Sum.inl (PV.tup [x,y,z])) = .tup [.lst [],pN 0,.tup [x,y,z]] from rfl] at eA
    walk_at "ev"
    rw [eA]
    walk_at "ev"
    rw [show (0 + 1 + 1 + 1==3)=true from rfl]
    walk_at "ev"
    rw [QbB (p := .lst []) (q := .lst []) (YT []) (YT []),YD]
    walk_at "ev"
    rw [hsm]
    walk_at "ev"
  | inr k =>
    have hk:=Qez hs
    rw [hs] at eA
    rw [show dueV (Sum.inr k) = .tup [pN k] from rfl]
    rw [show askV (pN (if bare=true then 0 else p)) (Sum.inr k) = .tup [.lst (bls (QcP (k + 1))),pN (if bare=true then 0 else p),.non] from rfl] at eA
    walk_at "ev"
    rw [eA]
    walk_at "ev"
    rw [show (0 + 1==3)=false from rfl]
    walk_at "ev"
    rw [due_k hk]
    walk_at "ev"
    rw [QcN (YT _) (YT _),YD]
    walk_at "ev"
    rw [QdR]
    cases bare with
    | true=>walk_at "ev";rfl
    | false=>walk_at "ev";simp
theorem ev_mNewX (C:Addr) (f:Str) (ma:PEnv→Option (List PV)) (γ:PEnv):Qdu C f ma γ=(ma γ).bind fun qs=>(one? qs).map fun p => .obj C [f] [p]:=rfl
local macro_rules | `(tactic| walk_at "ev") => `(tactic| try simp (disch:=first | assumption | omega | (simp only [signs_len,encN_len,List.length_map,List.length_range,List.length_cons,List.length_nil,List.length_append];omega) | decide) only [pLen_sn,ev_mNewX,one_1,ev_mFldX,flat_obj,EVc,List.length_cons,List.length_nil,if_true,List.map_cons,List.map_nil,List.replicate_zero,List.replicate_succ,List.cons_append,List.nil_append,List.getElem?_cons_zero,List.getElem?_cons_succ,Option.bind_some,Option.map_some,List.set_cons_zero,List.set_cons_succ,List.length_map,List.length_range,List.all_nil,List.all_cons,List.length_append])
noncomputable def Qby (C:Nat→Addr) (p:Nat):List PV:=[.obj (C 1) ["row"] [pN p],.obj (C 2) ["row"] [pN p],.obj (C 3) ["row"] [pN p],.obj (C 4) ["row"] [pN p],.obj (C 5) ["row"] [pN p]]
theorem made_at (C:Nat→Addr) (p:Nat) {k:Nat} (h:k < 5):(Qby C p)[k]?=some (.obj (C (k + 1)) ["row"] [pN p]):=by
  have hi:k=0∨k=1∨k=2∨k=3∨k=4:=by omega
  rcases hi with rfl | rfl | rfl | rfl | rfl <;> rfl
theorem sub_1 (k:Nat):pSub (pN k) (pN 1)=some (.int (((k + 1:Nat):Int) - 2)):=by
  rw [show pN k = .int (k:Int) from rfl,show pN 1 = .int ((1:Nat):Int) from rfl,pSub_i]
  congr 2
  omega
theorem e_due_i {i:Nat} (h1:1≤i) (h2:i≤5):Qt [.int ((i:Int) - 2)]=some (.lst (bls (QcP (i - 1)))):=by
  have hi:i=1∨i=2∨i=3∨i=4∨i=5:=by omega
  rw [Qgx]
  rcases hi with rfl | rfl | rfl | rfl | rfl <;> rfl
theorem QgY {C:Nat→Addr} (hC:([C 1,C 2,C 3,C 4,C 5]:List Addr).Nodup) (p:Nat) {k:Nat} (h:k < 5) (s1 s3:Slot) (hs:s1 = .ow (Qby C p)∨s1 = .fz (.lst (Qby C p))) :
    ZW C [.fz (pN p),s1,.fz (pN k),s3]=some (.nx [.fz (pN p),.fz (.lst (Qby C p)),.fz (pN k),.fz (.obj (C (k + 1)) ["row"] [pN p])]):=by
  have e1:=made_at C p h
  have e2:=e_kinds hC (i:=k + 1) (by omega) (by omega) (pN p)
  have e3:=e_due_i (i:=k + 1) (by omega) (by omega)
  have e4:=fldX_5 (C:=C) (i:=k + 1) (by omega) (by omega) (pN p)
  unfold ZW
  generalize Qby C p=ml at *
  generalize C (k + 1)=D at *
  rcases hs with rfl | rfl
  · walk_at "ev"
    rw [e1]
    walk_at "ev"
    rw [e2]
    walk_at "ev"
    rw [sub_1,Option.bind_some,Option.bind_some,e3,Option.bind_some,QcN (YT _) (YT _),YD]
    walk_at "ev"
    rw [e4]
    walk_at "ev"
    rw [QdR]
    walk_at "ev"
    rw [e4]
    walk_at "ev"
    rw [show (!(p==p))=false by simp]
    walk_at "ev"
  · walk_at "ev"
    rw [e1]
    walk_at "ev"
    rw [e2]
    walk_at "ev"
    rw [sub_1,Option.bind_some,Option.bind_some,e3,Option.bind_some,QcN (YT _) (YT _),YD]
    walk_at "ev"
    rw [e4]
    walk_at "ev"
    rw [QdR]
    walk_at "ev"
    rw [e4]
    walk_at "ev"
    rw [show (!(p==p))=false by simp]
    walk_at "ev"
theorem e_made {C:Nat→Addr} (hC:([C 1,C 2,C 3,C 4,C 5]:List Addr).Nodup) (p:Nat):Zx C [pN p]=some (.bl true):=by
  unfold Zx Qbl
  walk_at "ev"
  obtain ⟨y,_⟩:=YE (g:=gSet 2) (b:=ZW C) pN (fun _=>true) (.bl false) (fun γ=>∃ s1 s2 s3,γ=[.fz (pN p),s1,s2,s3]∧(s1 = .ow (Qby C p)∨s1 = .fz (.lst (Qby C p)))) (List.range 5) [.fz (pN p),.ow (Qby C p),.un,.un] ⟨_,_,_,rfl,.inl rfl⟩ (by
    rintro k hk γ ⟨s1,s2,s3,rfl,hs⟩
    exact ⟨_,rfl,fun _=>⟨_,QgY hC p (List.mem_range.mp hk) s1 s3 hs,_,_,_,rfl,.inr rfl⟩,fun z=>by cases z⟩)
  obtain ⟨γ',e,s1,s2,s3,rfl,_⟩:=y (by simp)
  refine Eq.trans (congrArg (fun z=>(Option.bind z (seqK (sRet (mC (PV.bl true))))).bind outV) (show forL (gSet 2) (ZW C) (encN (List.range 5)) [.fz (pN p),.ow (Qby C p),.un,.un]=some (.nx [.fz (pN p),s1,s2,s3]) from e)) ?_
  rfl
end DH

noncomputable section
namespace DH
open PySem PySem.Spec PyProof.Rows L2 L2.PM
theorem pIx_abc' {i:Nat} (h1:i < 26):pIx (.str "abcdefghijklmnopqrstuvwxyz") (pN i)=some (.str ⟨#[97 + i]⟩):=by
  have key:∀ i:_root_.Fin 26,atI ("abcdefghijklmnopqrstuvwxyz":Str).cps.toList ((i:Nat):Int)=some (97 + (i:Nat)):=by decide +kernel
  have:=key ⟨i,h1⟩
  dsimp only at this
  show (if ("abcdefghijklmnopqrstuvwxyz":Str).length≤LIM then (atI ("abcdefghijklmnopqrstuvwxyz":Str).cps.toList (i:Int)).map (fun c=>PV.str ⟨#[c]⟩) else none)=_
  rw [if_pos (YI (by decide +kernel)),this]
  rfl
theorem QcQ {g:PV→PEnv→Option PEnv} {b:MSt} (I:Nat→PEnv→Prop) (n:Nat) (γ:PEnv) (h0:I 0 γ)
    (step:∀ j γ,j < n→I j γ→∃ γ1 γ2,g (pN j) γ=some γ1∧b γ1=some (.nx γ2)∧I (j + 1) γ2):∃ γ',forL g b (encN (List.range n)) γ=some (.nx γ')∧I n γ':=by
  obtain ⟨γ',e,h⟩:=QeN (g:=g) (b:=b) pN (fun pre γ=>I pre.length γ) (List.range n) (List.range n) [] γ rfl h0 (fun pre x post γ hp hI=>by
    have hl:=congrArg List.length hp
    simp at hl
    have hx:(List.range n)[pre.length]?=some x:=by rw [← hp];simp
    rw [List.getElem?_range (by omega)] at hx
    cases hx
    obtain ⟨γ1,γ2,h1,h2,h3⟩:=step pre.length γ (by omega) hI
    exact ⟨γ1,γ2,h1,h2,by simpa using h3⟩)
  rw [List.length_range] at h
  exact ⟨γ',e,h⟩
theorem QeH (c:Nat):(⟨#[c]⟩:Str).length=1:=rfl
theorem asc1 {c:Nat} (h:c < 128):Asc ⟨#[c]⟩:=fun d hd=>by
  simp at hd
  omega
theorem Qbh:Asc ("":Str):=fun c hc=>by
  rw [show ("":Str).cps.toList=[] by decide +kernel] at hc
  cases hc
local macro_rules | `(tactic| walk_at "ev") => `(tactic| try simp (disch:=first | assumption | omega | (simp only [signs_len,encN_len,List.length_map,List.length_range,List.length_cons,List.length_nil,List.length_append];omega) | decide) only [pLen_sn,EVc,List.length_cons,List.length_nil,if_true,List.map_cons,List.map_nil,List.replicate_zero,List.replicate_succ,List.cons_append,List.nil_append,List.getElem?_cons_zero,List.getElem?_cons_succ,Option.bind_some,Option.map_some,List.set_cons_zero,List.set_cons_succ,List.length_map,List.length_range,List.all_nil,List.all_cons,List.length_append])
theorem e_draws (c:Int):∃ ds:List Nat,Zr [.int c,pN 32]=some (.lst (encN ds))∧ds.length=32:=by
  unfold Zr Qaw
  walk_at "ev"
  generalize ((c % ((2147483629:Nat):Int)).toNat + 1) * 1103515245 % 2147483647=n0
  obtain ⟨γ',e,number,ds,s4,rfl,h1⟩:=QcQ (g:=gSet 4) (b:=YH) (fun j γ=>∃ (number:Nat) (ds:List Nat) (s4:Slot),γ=[.fz (.int c),.fz (pN 32),.fz (pN number),.ow (encN ds),s4]∧ds.length=j)
    32 [.fz (.int c),.fz (pN 32),.fz (pN n0),.ow (encN []),.un] ⟨n0,[],.un,rfl,rfl⟩ (by
      rintro j γ hj ⟨number,ds,s4,rfl,h1⟩
      refine ⟨_,_,rfl,?_,number * 48271 % 2147483647,ds++[number * 48271 % 2147483647 / 13],.fz (pN j),rfl,by simp [h1]⟩
      unfold YH
      walk_at "ev"
      rw [QdV (by rw [encN_len];omega) rfl]
      walk_at "ev"
      simp [encN])
  rw [show ([]:List PV)=encN [] from rfl,e]
  walk_at "ev"
  exact ⟨ds,rfl,h1⟩
theorem Qcf (n0:Nat) {size:Nat} (hs:size≤40):∃ s:Str,QD [pN n0,pN size]=some (.str s)∧s.length=size∧Asc s:=by
  unfold QD Qau
  walk_at "ev"
  obtain ⟨γ',e,number,s,s4,rfl,h1,h2⟩:=QcQ (g:=gSet 4) (b:=YG) (fun j γ=>∃ (number:Nat) (s:Str) (s4:Slot),γ=[.fz (pN number),.fz (pN size),.fz (.str "abcdefghijklmnopqrstuvwxyz"),.fz (.str s),s4]∧s.length=j∧Asc s)
    size [.fz (pN n0),.fz (pN size),.fz (.str "abcdefghijklmnopqrstuvwxyz"),.fz (.str ""),.un] ⟨n0,"",.un,rfl,rfl,Qbh⟩ (by
      rintro j γ hj ⟨number,s,s4,rfl,h1,h2⟩
      have hm:(number * 69621 + 1) % 2147483647 / 17 % 26 < 26:=Nat.mod_lt _ (by decide)
      refine ⟨_,_,rfl,?_,(number * 69621 + 1) % 2147483647,s++⟨#[97 + (number * 69621 + 1) % 2147483647 / 17 % 26]⟩,.fz (pN j),rfl,by rw [XS,QeH];omega,XV h2 (asc1 (by omega))⟩
      unfold YG
      generalize hn:(number * 69621 + 1) % 2147483647 / 17 % 26=i at *
      walk_at "ev"
      rw [hn,pIx_abc' hm]
      have:=QeH (97 + i)
      walk_at "ev")
  rw [e]
  walk_at "ev"
  exact ⟨s,rfl,h1,h2⟩
noncomputable def Wl (s:Str):Prop:=Asc s∧s.length≤40
noncomputable def odds:List Str:=["guess","unless","if","","by","If","a1","b-","guesses","GUESS","unles","ab\n","_a"]
theorem odds_ok:∀ s∈odds,(s.cps.toList.all fun c=>decide (c < 128))=true∧s.length≤40:=by decide +kernel
theorem QhC {s:Str} (h:s∈odds):Wl s:=by
  obtain ⟨h1,h2⟩:=odds_ok s h
  refine ⟨fun c hc => ?_,h2⟩
  have:=List.all_eq_true.mp h1 c hc
  simpa using this
theorem e_odd (n:Nat):∃ s:Str,QK [pN n]=some (.str s)∧Wl s:=by
  have hm:n % 16 < 16:=Nat.mod_lt _ (by decide)
  unfold QK Xb
  by_cases h:n % 16 < 13
  · have hg:(odds.map PV.str)[n % 16]?=some (.str (odds[n % 16]'(by show n % 16 < 13;exact h))):=by
      rw [List.getElem?_map,List.getElem?_eq_getElem (by show n % 16 < 13;exact h)];rfl
    refine ⟨odds[n % 16]'(by show n % 16 < 13;exact h),?_,QhC (List.getElem_mem _)⟩
    generalize odds[n % 16]'(by show n % 16 < 13;exact h)=o at *
    have hg:([.str "guess",.str "unless",.str "if",.str "",.str "by",.str "If",.str "a1",.str "b-",.str "guesses",.str "GUESS",.str "unles",.str "ab\n",.str "_a"]:List PV)[n % 16]?=some (.str o):=hg
    walk_at "ev"
    rw [decide_eq_true h]
    walk_at "ev"
    rw [hg]
    walk_at "ev"
  · have hk:n % 16=13∨n % 16=14∨n % 16=15:=by omega
    obtain ⟨z,hz,hz2⟩:∃ z,([pN 13,pN 12,pN 40]:List PV)[n % 16 - 13]?=some (pN z)∧z≤40:=by
      rcases hk with e | e | e <;> rw [e]
      · exact ⟨13,rfl,by decide⟩
      · exact ⟨12,rfl,by decide⟩
      · exact ⟨40,rfl,by decide⟩
    obtain ⟨s,e1,e2,e3⟩:=Qcf n hz2
    refine ⟨s,?_,e3,by omega⟩
    have h13:13≤n % 16:=by omega
    walk_at "ev"
    rw [decide_eq_false h]
    walk_at "ev"
    rw [hz]
    walk_at "ev"
    rw [e1]
    walk_at "ev"
noncomputable def AllW (ws:List Str):Prop:=∀ s∈ws,Wl s
theorem gw:Wl "guess":=QhC (by decide +kernel)
theorem uw:Wl "unless":=QhC (by decide +kernel)
theorem iw:Wl "if":=QhC (by decide +kernel)
theorem ZT {ds:List Nat} (h:ds.length=32) {k:Nat} (hk:k < 32):ds[k]?=some (ds.getD k 0):=by
  rw [List.getElem?_eq_getElem (by omega)]
  simp [List.getD,h,hk]
theorem getW {ws:List Str} (h:AllW ws) {k:Nat} (hk:k < ws.length):∃ s,(ws.map PV.str)[k]?=some (.str s)∧Wl s:=by
  rw [List.getElem?_map,List.getElem?_eq_getElem hk]
  exact ⟨_,rfl,h _ (List.getElem_mem hk)⟩
theorem e_names {ds:List Nat} (hd:ds.length=32) {base:Str} (hb:Wl base) {s2:Str} (h2:Wl s2) (s3 s4 s5:Slot):∃ names s3',forL (gSet 3) Yd (encN (List.range 7)) [.fz (.lst (encN ds)),.fz (.str base),.ow [.str base,.str s2],s3,s4,s5]=some (.nx [.fz (.lst (encN ds)),.fz (.str base),.ow (names.map .str),s3',s4,s5])∧names.length=9∧AllW names:=by
  obtain ⟨γ',e,names,s3',rfl,h3,h4⟩:=QcQ (g:=gSet 3) (b:=Yd) (fun j γ=>∃ (names:List Str) (s3:Slot),γ=[.fz (.lst (encN ds)),.fz (.str base),.ow (names.map .str),s3,s4,s5]∧names.length=j + 2∧AllW names)
    7 [.fz (.lst (encN ds)),.fz (.str base),.ow ([base,s2].map .str),s3,s4,s5] ⟨[base,s2],s3,rfl,rfl,fun s hs=>by
      simp only [List.mem_cons,List.not_mem_nil,or_false] at hs
      rcases hs with rfl | rfl
      · exact hb
      · exact h2⟩ (by
      rintro j γ hj ⟨names,s3,rfl,h3,h4⟩
      have e1:=ZT hd (k:=4 + j) (by omega)
      obtain ⟨s,f1,f2,f3⟩:=Qcf (ds.getD (4 + j) 0) hb.2
      refine ⟨_,_,rfl,?_,names++[s],.fz (pN j),rfl,by simp [h3],fun t ht => ?_⟩
      · unfold Yd
        have hbl:=hb.2
        walk_at "ev"
        rw [e1]
        walk_at "ev"
        rw [f1]
        walk_at "ev"
        rw [QdV (by rw [List.length_map];omega) rfl]
        walk_at "ev"
        simp
      · rcases List.mem_append.mp ht with z | z
        · exact h4 t z
        · rw [List.mem_singleton.mp z];exact ⟨f3,by have:=hb.2;omega⟩)
  exact ⟨names,s3',e,h3,h4⟩
theorem e_take {ds:List Nat} (names:List Str) (hn:names.length=9) {H:Str} {size:Nat} (hz:size < 10) (s0 s1 s3:Slot):∃ words s3',forL (gSet 3) Yc (encN (List.range size)) [s0,s1,.ow (names.map .str),s3,.ow [.str H,.str "if"],.fz (pN size)]=some (.nx [s0,s1,.ow (names.map .str),s3',.ow (words.map .str),.fz (pN size)])∧words=H :: "if" :: names.take size:=by
  obtain ⟨γ',e,s3',rfl⟩:=QcQ (g:=gSet 3) (b:=Yc) (fun j γ=>∃ s3,γ=[s0,s1,.ow (names.map .str),s3,.ow ((H :: "if" :: names.take j).map .str),.fz (pN size)])
    size [s0,s1,.ow (names.map .str),s3,.ow [.str H,.str "if"],.fz (pN size)] ⟨s3,rfl⟩ (by
      rintro j γ hj ⟨s3,rfl⟩
      have hj9:j < names.length:=by omega
      have e1:(names.map PV.str)[j]?=some (.str names[j]):=by rw [List.getElem?_map,List.getElem?_eq_getElem hj9];rfl
      refine ⟨_,_,rfl,?_,.fz (pN j),rfl⟩
      unfold Yc
      have hw:((H :: "if" :: names.take j).map PV.str).length≤100:=by simp;omega
      generalize hW:(H :: "if" :: names.take j).map PV.str=W at *
      have hW2:(H :: "if" :: names.take (j + 1)).map PV.str=W++[.str names[j]]:=by
        rw [← hW,List.take_succ_eq_append_getElem hj9,List.map_cons,List.map_cons,List.map_append];rfl
      rw [hW2]
      generalize hN:names.map PV.str=NN at *
      have e1:NN[j]?=some (.str names[j]):=e1
      walk_at "ev"
      rw [e1]
      walk_at "ev"
      rw [QdV (by omega) rfl]
      walk_at "ev")
  exact ⟨_,s3',e,rfl⟩
theorem map_set (ws:List Str) (i:Nat) (s:Str):(ws.map PV.str).set i (.str s)=(ws.set i s).map PV.str:=by rw [List.map_set]
theorem set_W {ws:List Str} (h:AllW ws) {s:Str} (hs:Wl s) (i:Nat):AllW (ws.set i s):=fun t ht=>by
  rcases List.mem_or_eq_of_mem_set ht with z | rfl
  · exact h t z
  · exact hs
theorem runO_1 (N:Nat) (m:MSt) (a:PV):runO N 1 m [a]=(m (Zj N [a])).bind outO:=if_pos rfl
theorem outO_ro (xs:List PV):outO (.ro xs)=some xs:=rfl
local macro_rules | `(tactic| walk_at "ev") => `(tactic| try simp (disch:=first | assumption | omega | (simp only [signs_len,encN_len,List.length_map,List.length_range,List.length_cons,List.length_nil,List.length_append];omega) | decide) only [pLen_sn,runO_1,outO_ro,EVc,List.length_cons,List.length_nil,if_true,List.map_cons,List.map_nil,List.replicate_zero,List.replicate_succ,List.cons_append,List.nil_append,List.getElem?_cons_zero,List.getElem?_cons_succ,Option.bind_some,Option.map_some,List.set_cons_zero,List.set_cons_succ,List.length_map,List.length_range,List.all_nil,List.all_cons,List.length_append])
theorem Qek {ds:List Nat} (hd:ds.length=32):∃ ws:List Str,Zp [.lst (encN ds)]=some (ws.map .str)∧AllW ws∧0 < ws.length∧ws.length≤11:=by
  have d0:=ZT hd (k:=0) (by decide)
  have d1:=ZT hd (k:=1) (by decide)
  have d2:=ZT hd (k:=2) (by decide)
  have d3:=ZT hd (k:=3) (by decide)
  have d11:=ZT hd (k:=11) (by decide)
  have d12:=ZT hd (k:=12) (by decide)
  have d13:=ZT hd (k:=13) (by decide)
  have d14:=ZT hd (k:=14) (by decide)
  have d15:=ZT hd (k:=15) (by decide)
  have d16:=ZT hd (k:=16) (by decide)
  obtain ⟨base,f1,f2,f3⟩:=Qcf (ds.getD 0 0) (size:=1 + ds.getD 1 0 % 12) (by omega)
  obtain ⟨s2,g1,g2,g3⟩:=Qcf (ds.getD 2 0) (size:=1 + ds.getD 3 0 % 12) (by omega)
  have hb:Wl base:=⟨f3,by omega⟩
  obtain ⟨names,s3,en,hn,hW⟩:=e_names hd hb (s2:=s2) ⟨g3,by omega⟩ .un .un .un
  unfold Zp Qas
  generalize ds.getD 0 0=x0 at *
  generalize ds.getD 1 0=x1 at *
  generalize ds.getD 2 0=x2 at *
  generalize ds.getD 3 0=x3 at *
  generalize ds.getD 11 0=x11 at *
  generalize ds.getD 12 0=x12 at *
  generalize ds.getD 13 0=x13 at *
  generalize ds.getD 14 0=x14 at *
  generalize ds.getD 15 0=x15 at *
  generalize ds.getD 16 0=x16 at *
  obtain ⟨n0,m0,w0⟩:=getW hW (k:=0) (by omega)
  by_cases hA:x11 % 3=0
  · obtain ⟨nb,mb,wb⟩:=getW hW (k:=x12 % 2) (by omega)
    refine ⟨["guess",n0,"unless",nb],?_,fun s hs => ?_,by simp,by simp⟩
    · generalize names.map PV.str=NN at *
      walk_at "ev"
      rw [d0];walk_at "ev"
      rw [d1];walk_at "ev"
      rw [f1];walk_at "ev"
      rw [d2];walk_at "ev"
      rw [d3];walk_at "ev"
      rw [g1];walk_at "ev"
      rw [en];walk_at "ev"
      rw [d11];walk_at "ev"
      rw [hA,show (0==0)=true from rfl]
      walk_at "ev"
      rw [m0];walk_at "ev"
      rw [d12];walk_at "ev"
      rw [mb];walk_at "ev"
    · simp only [List.mem_cons,List.not_mem_nil,or_false] at hs
      rcases hs with rfl | rfl | rfl | rfl
      · exact gw
      · exact w0
      · exact uw
      · exact wb
  · have hA':(x11 % 3==0)=false:=by simpa using hA
    obtain ⟨words,s3',et,hw⟩:=e_take (ds:=ds) names hn (H:=n0) (size:=x13 % 10) (by omega) (.fz (.lst (encN ds))) (.fz (.str base)) s3
    have hwl:words.length=x13 % 10 + 2:=by rw [hw];simp;omega
    have hwW:AllW words:=fun s hs=>by
      rw [hw] at hs
      rcases List.mem_cons.mp hs with rfl | hs
      · exact w0
      · rcases List.mem_cons.mp hs with rfl | hs
        · exact iw
        · exact hW s (List.mem_of_mem_take hs)
    have main:∃ ws:List Str,(((sIf (bAnd (truB (bin2 pGt (mVar 5) (mN 1))) (truB (bin2 pEq (bin2 pMod (bin2 pIx (mVar 0) (mN 14)) (mN 3)) (mN 0)))) (YY [4,0,5] 4 (bin2 pIx (mVar 4) (bin2 pAdd (mN 2) (bin2 pMod (bin2 pIx (mVar 0) (mN 16)) (mVar 5)))) (bin2 pAdd (mN 2) (bin2 pMod (bin2 pIx (mVar 0) (mN 15)) (mVar 5)))) sNx [.fz (.lst (encN ds)),.fz (.str base),.ow (names.map .str),s3',.ow (words.map .str),.fz (pN (x13 % 10))]).bind (seqK (sSeq (sIf (bAnd (truB (bin2 pEq (mVar 5) (mN 0))) (truB (bin2 pGt (bin2 pMod (bin2 pIx (mVar 0) (mN 14)) (mN 4)) (mN 0)))) (Qcw (mLim (Qc (bin2 pIx (mVar 2) (mN 0)) aNil))) sNx) (Qaj 4)))).bind outO=some (ws.map .str))∧AllW ws∧0 < ws.length∧ws.length≤11:=by
      generalize hsz:x13 % 10=n at *
      have hn10:n < 10:=by omega
      have snd:∀ (W:List Str),AllW W→W.length=n + 2→∃ ws:List Str,(((sIf (bAnd (truB (bin2 pEq (mVar 5) (mN 0))) (truB (bin2 pGt (bin2 pMod (bin2 pIx (mVar 0) (mN 14)) (mN 4)) (mN 0)))) (Qcw (mLim (Qc (bin2 pIx (mVar 2) (mN 0)) aNil))) sNx [.fz (.lst (encN ds)),.fz (.str base),.ow (names.map .str),s3',.ow (W.map .str),.fz (pN n)]).bind (seqK (Qaj 4))).bind outO=some (ws.map .str))∧AllW ws∧0 < ws.length∧ws.length≤11:=fun W hW1 hW2=>by
        rw [Xx (Xw (a:=n==0) (b:=decide (0 < x14 % 4)) (by walk_at "ev") (by walk_at "ev";rw [d14];walk_at "ev"))]
        cases (n==0&&decide (0 < x14 % 4)) with
        | true =>
          refine ⟨[n0],?_,fun s hs=>by rw [List.mem_singleton.mp hs];exact w0,by simp,by simp⟩
          generalize names.map PV.str=NN at *
          rw [if_pos rfl]
          walk_at "ev"
          rw [m0];walk_at "ev"
        | false =>
          refine ⟨W,?_,hW1,by omega,by omega⟩
          rw [if_neg (by decide)]
          walk_at "ev"
      rw [Xx (Xw (a:=decide (1 < n)) (b:=x14 % 3==0) (by walk_at "ev") (by walk_at "ev";rw [d14];walk_at "ev"))]
      cases hc:(decide (1 < n)&&x14 % 3==0) with
      | false =>
        rw [if_neg (by decide),ev_sNx,Option.bind_some,seqK_nx,ev_sSeq]
        exact snd words hwW hwl
      | true =>
        have h1n:1 < n:=by
          rw [Bool.and_eq_true,decide_eq_true_iff] at hc
          exact hc.1
        have q1:x16 % n < n:=Nat.mod_lt _ (by omega)
        have q2:x15 % n < n:=Nat.mod_lt _ (by omega)
        obtain ⟨wv,m1,w1⟩:=getW hwW (k:=2 + x16 % n) (by omega)
        rw [if_pos rfl]
        have st:YY [4,0,5] 4 (bin2 pIx (mVar 4) (bin2 pAdd (mN 2) (bin2 pMod (bin2 pIx (mVar 0) (mN 16)) (mVar 5)))) (bin2 pAdd (mN 2) (bin2 pMod (bin2 pIx (mVar 0) (mN 15)) (mVar 5))) [.fz (.lst (encN ds)),.fz (.str base),.ow (names.map .str),s3',.ow (words.map .str),.fz (pN n)]=some (.nx [.fz (.lst (encN ds)),.fz (.str base),.ow (names.map .str),s3',.ow ((words.set (2 + x15 % n) wv).map .str),.fz (pN n)]):=by
          rw [← map_set]
          have hl2:2 + x15 % n < (words.map PV.str).length:=by rw [List.length_map];omega
          generalize words.map PV.str=WW at *
          walk_at "ev"
          rw [d16];walk_at "ev"
          rw [m1];walk_at "ev"
          rw [d15];walk_at "ev"
          rw [sixK_n (by omega) rfl]
          rfl
        rw [st,Option.bind_some,seqK_nx,ev_sSeq]
        exact snd _ (set_W hwW w1 _) (by rw [List.length_set];exact hwl)
    obtain ⟨ws,e1,e2⟩:=main
    refine ⟨ws,?_,e2⟩
    rw [← e1]
    generalize hNN:names.map PV.str=NN at *
    walk_at "ev"
    rw [d0];walk_at "ev"
    rw [d1];walk_at "ev"
    rw [f1];walk_at "ev"
    rw [d2];walk_at "ev"
    rw [d3];walk_at "ev"
    rw [g1];walk_at "ev"
    rw [en];walk_at "ev"
    rw [d11];walk_at "ev"
    rw [hA']
    walk_at "ev"
    rw [m0];walk_at "ev"
    rw [d13];walk_at "ev"
    rw [et];walk_at "ev"
end DH

noncomputable section
namespace DH
open PySem PySem.Spec PyProof.Rows L2 L2.PM
theorem ev_sPop0 (mk:MEx) (xs:List PV) (γ:PEnv):sPop 0 mk (.ow xs :: γ)=(mk (.ow xs :: γ)).bind (popK 0 (.ow xs :: γ) xs):=rfl
theorem popK_n {γ:PEnv} {xs:List PV} {j:Nat} (h:j < xs.length) (h2:xs.length≤1000):popK 0 γ xs (pN j)=some (.nx (γ.set 0 (.ow (xs.take j++xs.drop (j + 1))))):=by
  show (if 0≤((j:Nat):Int)∧((j:Nat):Int) < xs.length∧xs.length≤1000 then some (Out.nx (γ.set 0 (.ow (xs.take ((j:Nat):Int).toNat++xs.drop (((j:Nat):Int).toNat + 1))))) else none)=_
  rw [if_pos ⟨by omega,by omega,h2⟩,Int.toNat_natCast]
theorem ev_sIns0 (ms:List Nat) (mk m:MEx) (xs:List PV) (γ:PEnv):sIns ms 0 mk m (.ow xs :: γ)=(mk (.ow xs :: γ)).bind fun j=>(m (.ow xs :: γ)).bind fun r=>insK ms 0 (.ow xs :: γ) xs r j:=rfl
theorem insK_n {ms:List Nat} {γ:PEnv} {xs:List PV} {r:PV} {j:Nat} (h:j≤xs.length) (h2:xs.length≤1000) (h3:flat r=true):insK ms 0 γ xs r (pN j)=some (.nx (γ.set 0 (.ow (xs.take j++r :: xs.drop j)))):=by
  show (if 0≤((j:Nat):Int)∧((j:Nat):Int)≤xs.length∧xs.length≤1000∧(flat r || !ms.contains 0)=true then some (Out.nx ((Zd (flat r) ms γ).set 0 (.ow (xs.take ((j:Nat):Int).toNat++r :: xs.drop ((j:Nat):Int).toNat)))) else none)=_
  rw [if_pos ⟨by omega,by omega,h2,by rw [h3];rfl⟩,Int.toNat_natCast,h3]
  rfl
local macro_rules | `(tactic| walk_at "ev") => `(tactic| try simp (disch:=first | assumption | omega | (simp only [signs_len,encN_len,List.length_map,List.length_range,List.length_cons,List.length_nil,List.length_append];omega) | decide) only [pLen_sn,ev_sPop0,ev_sIns0,EVc,List.length_cons,List.length_nil,if_true,List.map_cons,List.map_nil,List.replicate_zero,List.replicate_succ,List.cons_append,List.nil_append,List.getElem?_cons_zero,List.getElem?_cons_succ,Option.bind_some,Option.map_some,List.set_cons_zero,List.set_cons_succ,List.length_map,List.length_range,List.all_nil,List.all_cons,List.length_append])
theorem QgE {ds:List Nat} (hd:ds.length=32) {ws:List Str} (hW:AllW ws) (hl:ws.length≤100) {j:Nat} (hj:j < 3) (s3 s4 s5:Slot):∃ (ws':List Str) (t3 t4 t5:Slot),ZV [.ow (ws.map .str),.fz (.lst (encN ds)),.fz (pN j),s3,s4,s5]=some (.nx [.ow (ws'.map .str),.fz (.lst (encN ds)),.fz (pN j),t3,t4,t5])∧AllW ws'∧ws'.length≤ws.length + 1:=by
  have d1:=ZT hd (k:=18 + 3 * j) (by omega)
  have d2:=ZT hd (k:=19 + 3 * j) (by omega)
  have d3:=ZT hd (k:=20 + 3 * j) (by omega)
  obtain ⟨odd,eo,wo⟩:=e_odd (ds.getD (19 + 3 * j) 0)
  unfold ZV
  generalize ds.getD (18 + 3 * j) 0=x1 at *
  generalize ds.getD (19 + 3 * j) 0=x2 at *
  generalize ds.getD (20 + 3 * j) 0=x3 at *
  have hat:x1 % (ws.length + 1) < ws.length + 1:=Nat.mod_lt _ (by omega)
  generalize hat0:x1 % (ws.length + 1)=at_ at *
  have key:∃ (ws':List Str),sIf (bAnd (truB (bin2 pEq (mVar 5) (mN 0))) (truB (bin2 pLt (mVar 3) (Qo pLen (Qc (mVar 0) aNil))))) (YY [4] 0 (mVar 4) (mVar 3)) (sIf (bAnd (truB (bin2 pEq (mVar 5) (mN 1))) (truB (bin2 pLt (mVar 3) (Qo pLen (Qc (mVar 0) aNil))))) (sPop 0 (mVar 3)) (sIns [4] 0 (mVar 3) (mVar 4))) [.ow (ws.map .str),.fz (.lst (encN ds)),.fz (pN j),.fz (pN at_),.fz (.str odd),.fz (pN (x3 % 3))]=some (.nx [.ow (ws'.map .str),.fz (.lst (encN ds)),.fz (pN j),.fz (pN at_),.fz (.str odd),.fz (pN (x3 % 3))])∧AllW ws'∧ws'.length≤ws.length + 1:=by
    have t2:truB (bin2 pLt (mVar 3) (Qo pLen (Qc (mVar 0) aNil))) [.ow (ws.map .str),.fz (.lst (encN ds)),.fz (pN j),.fz (pN at_),.fz (.str odd),.fz (pN (x3 % 3))]=some (decide (at_ < ws.length)):=by walk_at "ev"
    have t1:∀ m:Nat,m≤9→truB (bin2 pEq (mVar 5) (mN m)) [.ow (ws.map .str),.fz (.lst (encN ds)),.fz (pN j),.fz (pN at_),.fz (.str odd),.fz (pN (x3 % 3))]=some (x3 % 3==m):=fun m hm=>by walk_at "ev"
    rw [Xx (Xw (t1 0 (by decide)) t2)]
    cases c1:(x3 % 3==0&&decide (at_ < ws.length)) with
    | true =>
      rw [Bool.and_eq_true,decide_eq_true_iff] at c1
      refine ⟨ws.set at_ odd,?_,set_W hW wo _,by rw [List.length_set];omega⟩
      rw [if_pos rfl,← map_set]
      have hl2:at_ < (ws.map PV.str).length:=by rw [List.length_map];exact c1.2
      generalize ws.map PV.str=WW at *
      walk_at "ev"
      rw [sixK_n hl2 rfl]
      rfl
    | false =>
      rw [if_neg (by decide),Xx (Xw (t1 1 (by decide)) t2)]
      cases c2:(x3 % 3==1&&decide (at_ < ws.length)) with
      | true =>
        rw [Bool.and_eq_true,decide_eq_true_iff] at c2
        refine ⟨ws.take at_++ws.drop (at_ + 1),?_,fun s hs => ?_,by rw [List.length_append,List.length_take,List.length_drop];omega⟩
        · rw [if_pos rfl,List.map_append,List.map_take,List.map_drop]
          have hl2:at_ < (ws.map PV.str).length:=by rw [List.length_map];exact c2.2
          have hl3:(ws.map PV.str).length≤1000:=by rw [List.length_map];omega
          generalize ws.map PV.str=WW at *
          walk_at "ev"
          rw [popK_n hl2 hl3]
          rfl
        · rcases List.mem_append.mp hs with z | z
          · exact hW s (List.mem_of_mem_take z)
          · exact hW s (List.mem_of_mem_drop z)
      | false =>
        refine ⟨ws.take at_++odd :: ws.drop at_,?_,fun s hs => ?_,by rw [List.length_append,List.length_cons,List.length_take,List.length_drop];omega⟩
        · rw [if_neg (by decide),List.map_append,List.map_cons,List.map_take,List.map_drop]
          have hl2:at_≤(ws.map PV.str).length:=by rw [List.length_map];omega
          have hl3:(ws.map PV.str).length≤1000:=by rw [List.length_map];omega
          generalize ws.map PV.str=WW at *
          walk_at "ev"
          rw [insK_n hl2 hl3 rfl]
          rfl
        · rcases List.mem_append.mp hs with z | z
          · exact hW s (List.mem_of_mem_take z)
          · rcases List.mem_cons.mp z with rfl | z
            · exact wo
            · exact hW s (List.mem_of_mem_drop z)
  obtain ⟨ws',ek,k1,k2⟩:=key
  refine ⟨ws',.fz (pN at_),.fz (.str odd),.fz (pN (x3 % 3)),?_,k1,k2⟩
  revert ek
  generalize sIf (bAnd (truB (bin2 pEq (mVar 5) (mN 0))) (truB (bin2 pLt (mVar 3) (Qo pLen (Qc (mVar 0) aNil))))) (YY [4] 0 (mVar 4) (mVar 3)) (sIf (bAnd (truB (bin2 pEq (mVar 5) (mN 1))) (truB (bin2 pLt (mVar 3) (Qo pLen (Qc (mVar 0) aNil))))) (sPop 0 (mVar 3)) (sIns [4] 0 (mVar 3) (mVar 4)))=K
  intro ek
  have hlm:(ws.map PV.str).length=ws.length:=by rw [List.length_map]
  generalize hWW:ws.map PV.str=WW at *
  walk_at "ev"
  rw [d1]
  walk_at "ev"
  rw [hlm,hat0]
  walk_at "ev"
  rw [d2]
  walk_at "ev"
  rw [eo]
  walk_at "ev"
  rw [d3]
  walk_at "ev"
  exact ek
theorem e_turned {ds:List Nat} (hd:ds.length=32) {ws:List Str} (hW:AllW ws) (hl:ws.length≤50):∃ ws':List Str,Zi (ws.map .str) [.lst (encN ds)]=some (.lst (ws'.map .str))∧AllW ws'∧ws'.length≤ws.length + 2:=by
  have d17:=ZT hd (k:=17) (by decide)
  generalize ds.getD 17 0=x at *
  have hx:x % 3 < 3:=Nat.mod_lt _ (by decide)
  obtain ⟨γ',e,ws',s2,s3,s4,s5,rfl,h1,h2⟩:=QcQ (g:=gSet 2) (b:=ZV) (fun j γ=>∃ (ws':List Str) (s2 s3 s4 s5:Slot),γ=[.ow (ws'.map .str),.fz (.lst (encN ds)),s2,s3,s4,s5]∧AllW ws'∧ws'.length≤ws.length + j)
    (x % 3) [.ow (ws.map .str),.fz (.lst (encN ds)),.un,.un,.un,.un] ⟨ws,_,_,_,_,rfl,hW,Nat.le_refl _⟩ (by
      rintro j γ hj ⟨ws',s2,s3,s4,s5,rfl,h1,h2⟩
      obtain ⟨ws2,t3,t4,t5,e1,e2,e3⟩:=QgE hd h1 (by omega) (j:=j) (by omega) s3 s4 s5
      exact ⟨_,_,rfl,e1,ws2,_,_,_,_,rfl,e2,by omega⟩)
  refine ⟨ws',?_,h1,by omega⟩
  unfold Zi
  show (YF [.ow (ws.map .str),.fz (.lst (encN ds)),.un,.un,.un,.un]).bind outV=_
  unfold YF
  generalize ws.map PV.str=WW at *
  walk_at "ev"
  rw [d17]
  walk_at "ev"
  rw [e]
  walk_at "ev"
end DH

noncomputable section
namespace DH
open PySem PySem.Spec PyProof.Rows L2 L2.PM
theorem idx_lo (u:Option Int) (n:Nat):Builtin.Str.strSliceIndices none u 1 n=Builtin.Str.strSliceIndices (some ((0:Nat):Int)) u 1 n:=by
  have e0:max (0:Int) (min (((0:Nat):Int)) (n:Int))=0:=by omega
  unfold Builtin.Str.strSliceIndices
  simp only [show ((1:Int) > 0)=True by simp,if_true,show ¬ (((0:Nat):Int) < 0) by omega,if_false,e0]
theorem idx_hi (l:Option Int) (n:Nat):Builtin.Str.strSliceIndices l none 1 n=Builtin.Str.strSliceIndices l (some ((n:Nat):Int)) 1 n:=by
  have e0:max (0:Int) (min ((n:Nat):Int) (n:Int))=n:=by omega
  unfold Builtin.Str.strSliceIndices
  simp only [show ((1:Int) > 0)=True by simp,if_true,show ¬ (((n:Nat):Int) < 0) by omega,if_false,e0]
theorem Qhd {a:Nat} (u:Option Int) (n:Nat) (h:n≤a):Builtin.Str.strSliceIndices (some (a:Int)) u 1 n=Builtin.Str.strSliceIndices (some (n:Int)) u 1 n:=by
  have e0:max (0:Int) (min ((a:Nat):Int) (n:Int))=max (0:Int) (min ((n:Nat):Int) (n:Int)):=by omega
  unfold Builtin.Str.strSliceIndices
  simp only [show ((1:Int) > 0)=True by simp,if_true,show ¬ (((a:Nat):Int) < 0) by omega,show ¬ (((n:Nat):Int) < 0) by omega,if_false,e0]
theorem slice_ab (x:Str) {a b:Nat} (hab:a≤b) (hb:b≤x.length) (l u:Option Int) (e:Builtin.Str.strSliceIndices l u 1 x.length=Builtin.Str.strSliceIndices (some (a:Int)) (some (b:Int)) 1 x.length) :
    (Txt.slice x l u).cps.toList=(x.cps.toList.drop a).take (b - a):=by
  have hx:x.cps.toList.length=x.length:=by simp [Str.length]
  have hp:=StrLaws.sliced_plain x hab hb
  have hi:=StrLaws.strSliceIndices_plain hab hb
  unfold Txt.slice
  rw [e]
  split
  · rename_i h
    rw [hi] at h
    simp at h
    have h1:b - a=x.length:=h
    have h2:a=0:=by omega
    subst h2
    rw [List.drop_zero,List.take_of_length_le (by omega)]
  · exact hp
theorem Qbb {x:Str} (hx:Asc x) {a b:Nat} (hab:a≤b) (hb:b≤x.length) {l u:Option Int} (e:Builtin.Str.strSliceIndices l u 1 x.length=Builtin.Str.strSliceIndices (some (a:Int)) (some (b:Int)) 1 x.length):Asc (Txt.slice x l u)∧(Txt.slice x l u).length=b - a:=by
  have h:=slice_ab x hab hb l u e
  have hx2:x.cps.toList.length=x.length:=by simp [Str.length]
  refine ⟨fun c hc => ?_,?_⟩
  · rw [h] at hc
    exact hx c (List.mem_of_mem_drop (List.mem_of_mem_take hc))
  · have:(Txt.slice x l u).cps.toList.length=(Txt.slice x l u).length:=by simp [Str.length]
    rw [← this,h,List.length_take,List.length_drop]
    omega
theorem cut_lo {x:Str} (hx:Asc x) {a:Nat} (ha:a≤x.length):Asc (Txt.slice x none (some (a:Int)))∧(Txt.slice x none (some (a:Int))).length=a:=by
  have:=Qbb hx (a:=0) (b:=a) (Nat.zero_le _) ha (idx_lo (some (a:Int)) x.length)
  exact ⟨this.1,by rw [this.2];omega⟩
theorem cut_hi {x:Str} (hx:Asc x) (a:Nat):Asc (Txt.slice x (some (a:Int)) none)∧(Txt.slice x (some (a:Int)) none).length=x.length - a:=by
  by_cases ha:a≤x.length
  · exact Qbb hx (a:=a) (b:=x.length) ha (Nat.le_refl _) (idx_hi (some (a:Int)) x.length)
  · have:=Qbb hx (a:=x.length) (b:=x.length) (Nat.le_refl _) (Nat.le_refl _) ((Qhd none x.length (Nat.le_of_lt (Nat.lt_of_not_le ha))).trans (idx_hi (some (x.length:Int)) x.length))
    exact ⟨this.1,by rw [this.2];omega⟩
theorem pIx_str {z:Str} (hl:z.length≤9000) {k:Nat} (hk:k < z.length):∃ c,pIx (.str z) (pN k)=some (.str ⟨#[c]⟩)∧c∈z.cps.toList:=by
  have hx:z.cps.toList.length=z.length:=by simp [Str.length]
  have hk2:k < z.cps.toList.length:=by omega
  refine ⟨z.cps.toList[k],?_,List.getElem_mem hk2⟩
  show (if z.length≤LIM then (atI z.cps.toList (k:Int)).map (fun c=>PV.str ⟨#[c]⟩) else none)=_
  rw [if_pos (YI (by omega)),QgA (List.getElem?_eq_getElem hk2)]
  rfl
noncomputable def sgA:Str := " !\"#$&'()*+,-./0123456789:;<=>?@ABCDEFGHIJKLMNOPQRSTUVWXYZ[\\]^_`"
noncomputable def sgB:Str := "abcdefghijklmnopqrstuvwxyz{|}~\n   "
theorem sg_ok:(sgA.cps.toList.all fun c=>decide (c < 128))=true∧(sgB.cps.toList.all fun c=>decide (c < 128))=true∧sgA.length≤100∧sgB.length≤100∧0 < sgA.length:=by decide +kernel
theorem sg_asc:Asc (sgA++sgB):=by
  obtain ⟨h1,h2,_⟩:=sg_ok
  refine XV (fun c hc => ?_) fun c hc => ?_
  · simpa using List.all_eq_true.mp h1 c hc
  · simpa using List.all_eq_true.mp h2 c hc
local macro_rules | `(tactic| walk_at "ev") => `(tactic| try simp (disch:=first | assumption | omega | (simp only [signs_len,encN_len,List.length_map,List.length_range,List.length_cons,List.length_nil,List.length_append];omega) | decide) only [pLen_sn,EVc,List.length_cons,List.length_nil,if_true,List.map_cons,List.map_nil,List.replicate_zero,List.replicate_succ,List.cons_append,List.nil_append,List.getElem?_cons_zero,List.getElem?_cons_succ,Option.bind_some,Option.map_some,List.set_cons_zero,List.set_cons_succ,List.length_map,List.length_range,List.all_nil,List.all_cons,List.length_append])
theorem Qhn {ds:List Nat} (hd:ds.length=32) {T:Str} (hT:Asc T) (hl:T.length≤800):∃ L:Str,QF [.str T,.lst (encN ds)]=some (.str L)∧Asc L∧L.length≤T.length + 1:=by
  have d24:=ZT hd (k:=24) (by decide)
  have d25:=ZT hd (k:=25) (by decide)
  have d26:=ZT hd (k:=26) (by decide)
  have d27:=ZT hd (k:=27) (by decide)
  have d28:=ZT hd (k:=28) (by decide)
  generalize ds.getD 24 0=x24 at *
  generalize ds.getD 25 0=x25 at *
  generalize ds.getD 26 0=x26 at *
  generalize ds.getD 27 0=x27 at *
  generalize ds.getD 28 0=x28 at *
  obtain ⟨_,_,g1,g2,g3⟩:=sg_ok
  have ga:=sg_asc
  have gl:(sgA++sgB).length≤200:=by rw [XS];omega
  have gp:0 < (sgA++sgB).length:=by rw [XS];omega
  have hadd:pAdd (.str sgA) (.str sgB)=some (.str (sgA++sgB)):=pAdd_s (by omega)
  have hadd:pAdd (.str " !\"#$&'()*+,-./0123456789:;<=>?@ABCDEFGHIJKLMNOPQRSTUVWXYZ[\\]^_`") (.str "abcdefghijklmnopqrstuvwxyz{|}~\n   ")=some (.str (sgA++sgB)):=hadd
  generalize sgA++sgB=S at *
  have hat:x25 % (T.length + 1) < T.length + 1:=Nat.mod_lt _ (by omega)
  obtain ⟨c,ec,hc⟩:=pIx_str (z:=S) (by omega) (k:=x26 % S.length) (Nat.mod_lt _ gp)
  have c128:=ga c hc
  unfold QF YM
  generalize h1:(PV.str " !\"#$&'()*+,-./0123456789:;<=>?@ABCDEFGHIJKLMNOPQRSTUVWXYZ[\\]^_`")=A1 at *
  generalize h2:(PV.str "abcdefghijklmnopqrstuvwxyz{|}~\n   ")=A2 at *
  have fa:flat A1=true:=by rw [← h1];rfl
  by_cases h24:0 < x24 % 3
  · refine ⟨T,?_,hT,by omega⟩
    walk_at "ev"
    rw [fa]
    walk_at "ev"
    rw [hadd]
    walk_at "ev"
    rw [d24]
    walk_at "ev"
    rw [decide_eq_true h24]
    walk_at "ev"
  · generalize hat0:x25 % (T.length + 1)=at_ at *
    obtain ⟨P,eP,aP,lP⟩:∃ P:Str,([.str ⟨#[c]⟩,.str ⟨#[c]⟩,.str ""]:List PV)[x27 % 3]?=some (.str P)∧Asc P∧P.length≤1:=by
      have h3:x27 % 3=0∨x27 % 3=1∨x27 % 3=2:=by omega
      rcases h3 with e | e | e <;> rw [e]
      · exact ⟨_,rfl,asc1 c128,Nat.le_refl _⟩
      · exact ⟨_,rfl,asc1 c128,Nat.le_refl _⟩
      · exact ⟨_,rfl,Qbh,by decide +kernel⟩
    obtain ⟨a1,l1⟩:=cut_lo hT (a:=at_) (by omega)
    obtain ⟨a2,l2⟩:=cut_hi hT (at_ + x28 % 2)
    refine ⟨Txt.slice T none (some (at_:Int))++P++Txt.slice T (some ((at_ + x28 % 2:Nat):Int)) none,?_,XV (XV a1 aP) a2,?_⟩
    · have add1:pAdd (.str (Txt.slice T none (some (at_:Int)))) (.str P)=some (.str (Txt.slice T none (some (at_:Int))++P)):=pAdd_s (by omega)
      have add2:pAdd (.str (Txt.slice T none (some (at_:Int))++P)) (.str (Txt.slice T (some ((at_ + x28 % 2:Nat):Int)) none))=some (.str (Txt.slice T none (some (at_:Int))++P++Txt.slice T (some ((at_ + x28 % 2:Nat):Int)) none)):=pAdd_s (by rw [XS];omega)
      walk_at "ev"
      rw [fa]
      walk_at "ev"
      rw [hadd]
      walk_at "ev"
      rw [d24]
      walk_at "ev"
      rw [decide_eq_false h24]
      walk_at "ev"
      rw [d25]
      walk_at "ev"
      rw [hat0,d26]
      walk_at "ev"
      rw [ec]
      walk_at "ev"
      rw [d27]
      walk_at "ev"
      rw [eP]
      walk_at "ev"
      try rw [add1]
      walk_at "ev"
      rw [d28]
      walk_at "ev"
      try rw [add2]
      walk_at "ev"
    · rw [XS,XS,l1,l2]
      omega
theorem pPow_n {a b:Nat} (ha:a < 1000) (hb:b≤1000):pPow (pN a) (pN b)=some (pN (a ^ b)):=by
  have hc:cPow (a:Int) (b:Int)=true:=QbG (by constructor;omega;constructor;omega;show a < 2 ^ 64;omega)
  show (if cPow (a:Int) (b:Int)=true then some (PV.int ((a:Int) ^ ((b:Nat):Int).toNat)) else none)=_
  rw [if_pos hc,Int.toNat_natCast]
  unfold pN
  rw [Int.natCast_pow]
theorem Qgn {a i:Nat} (h:a < 2 ^ i) (hi:i < 4000):a.log2 < 4000:=by
  rcases Nat.eq_zero_or_pos a with z | z
  · rw [z];simp
  · exact Nat.lt_of_lt_of_le ((Nat.log2_lt (by omega)).mpr h) (by omega)
theorem pMulB_n {a b:Nat} (i j:Nat) (ha:a < 2 ^ i) (hb:b < 2 ^ j) (hi:i < 4000) (hj:j < 4000):Qfx (pN a) (pN b)=some (pN (a * b)):=by
  have hc:cMulB (a:Int) (b:Int)=true:=QbG ⟨Qgn ha hi,Qgn hb hj⟩
  show (if cMulB (a:Int) (b:Int)=true then some (PV.int ((a:Int) * (b:Int))) else none)=_
  rw [if_pos hc]
  unfold pN
  rw [Int.natCast_mul]
theorem e_place {ds:List Nat} (hd:ds.length=32) (c:Int) (s0 s3 s4:Slot):∃ p:Nat,bin2 pIx (mLst (mLim (Qc (bin2 pMod (bin2 pIx (mVar 2) (mN 30)) (mN 48)) (Qc (bin2 pAdd (bin2 Qfx (bin2 pMod (mVar 1) (bin2 pPow (mN 10) (mN 60))) (mN 1000)) (bin2 pMod (bin2 pIx (mVar 2) (mN 30)) (mN 1000))) aNil)))) (bin2 pMod (bin2 pIx (mVar 2) (mN 31)) (mN 2)) [s0,.fz (.int c),.fz (.lst (encN ds)),s3,s4]=some (pN p):=by
  have d30:=ZT hd (k:=30) (by decide)
  have d31:=ZT hd (k:=31) (by decide)
  generalize ds.getD 30 0=x30 at *
  generalize ds.getD 31 0=x31 at *
  have p60:=pPow_n (a:=10) (b:=60) (by decide) (by decide)
  have l60:10 ^ 60 < 2 ^ 200:=by decide
  have g60:0 < 10 ^ 60:=Nat.pow_pos (by decide)
  generalize 10 ^ 60=z at *
  have hz:(c % (z:Int)).toNat < 2 ^ 200:=by
    have:=Int.emod_lt_of_pos c (show (0:Int) < z by omega)
    exact Nat.lt_of_le_of_lt (by omega) l60
  have hm:=pMulB_n (a:=(c % (z:Int)).toNat) (b:=1000) 200 10 hz (by decide) (by decide) (by decide)
  have hx:x31 % 2=0∨x31 % 2=1:=by omega
  generalize hq:(c % (z:Int)).toNat=q at *
  rcases hx with e | e
  · refine ⟨x30 % 48,?_⟩
    walk_at "ev"
    rw [d30]
    walk_at "ev"
    rw [p60]
    walk_at "ev"
    rw [hq,hm]
    walk_at "ev"
    rw [d31]
    walk_at "ev"
    rw [e]
    walk_at "ev"
  · refine ⟨q * 1000 + x30 % 1000,?_⟩
    walk_at "ev"
    rw [d30]
    walk_at "ev"
    rw [p60]
    walk_at "ev"
    rw [hq,hm]
    walk_at "ev"
    rw [d31]
    walk_at "ev"
    rw [e]
    walk_at "ev"
theorem QeJ:∀ {ws:List Str},AllW ws→Asc (Txt.join sp ws)
  | [],_=>by rw [QgH];exact Qbh
  | [w],h=>by rw [QgG];exact (h w (by simp)).1
  | w :: v :: ws,h=>by
    rw [Qfa]
    refine XV (XV (h w (by simp)).1 ?_) (QeJ fun s hs=>h s (by simp only [List.mem_cons] at hs ⊢;exact .inr hs))
    rw [sp_is];exact asc1 (by decide)
theorem join_len {ws:List Str} (h:AllW ws) (hl:ws.length≤13):(Txt.join sp ws).length≤600:=by
  rw [Qdz]
  have h1:=Qgc ws 40 fun s hs=>(h s hs).2
  have h2:sp.length=1:=rfl
  rw [h2]
  omega
theorem pJoin_w {ws:List Str} (h:AllW ws) (hl:ws.length≤13):Qfy (.str " ") [.lst (ws.map .str)]=some (.str (Txt.join sp ws)):=by
  have h1:=Qgc ws 40 fun s hs=>(h s hs).2
  show (match Xh (ws.map PV.str) with
    | some ys=>if (ys.map Str.length).sum + ys.length * (" ":Str).length≤LIM then some (PV.str (Txt.join " " ys)) else none
    | none=>none)=_
  rw [L2.PM.strs?_map]
  show (if (ws.map Str.length).sum + ws.length * (" ":Str).length≤LIM then some (PV.str (Txt.join " " ws)) else none)=_
  rw [if_pos (YI (by rw [show (" ":Str).length=1 from rfl];omega))]
  rfl
end DH
namespace HD
open PySem PySem.W PySem.Calls PyProof.Rows L2
noncomputable abbrev fo (x q:Str) (st:Stmt) (dV doc pm:Value) (c:Addr):Obj:=⟨.type "function",none,.func (fnOf x q (Qq st) (Qm st) (Qf st) dV .none doc pm none (.ref c) .none),#[]⟩
noncomputable abbrev co (x q:Str) (t:Nat) (l n:Int) (a b:Addr) (u v:Value) (c:Addr) (z:Nat):Obj:=⟨.type "code",none,.fields #[.str x t,.str q (t + 1),.str "/claim/cut.py" (t + 2),.int l 0,.int n 0,.int 0 0,.int 0 0,.int 3 0,.ref a,.bool true,.int 181 0,.ref b,.none,u,v,.ref c,.int z 0,.int l 0,.str "/claim/cut.py" (z + 1)],#[]⟩
noncomputable abbrev en (P:Params) (x:Str) (t:Nat) (v:Value):DictEntry:=⟨PyData.keyHash P x,.str x t,v⟩
noncomputable def run (thr ok:Thread→Bool) (st:SharedT→Thread→Option (SharedT×Thread)):Nat→SharedT→Thread→Option SharedT
  | 0,_,_=>none
  | n + 1,s,t=>match thr t with
    | true=>some s
    | false=>match ok t with
      | false=>none
      | true=>match st s t with
        | some x=>run thr ok st n x.1 x.2
        | none=>none
theorem run_top {tb:String→Option Builtin} {p:Program} {w:World} {m:Nat} {an:Option Value}:∀ (n:Nat) (s r:SharedT) (t:Thread),
    run through (stepOk m an) (stepT (denote tb) p w) n s t=some r→topRun tb p w m an n s.abs t=some r.abs:=by
  intro n
  induction n with
  | zero=>intro s r t h;cases h
  | succ n ih =>
    intro s r t h
    simp only [run] at h
    simp only [topRun]
    split at h
    · next e=>cases h;rw [e]
    · next e =>
      rw [e]
      split at h
      · cases h
      · next e2 =>
        rw [e2]
        split at h
        · next x e3=>rw [stepT_spec (s':=x.1) (t':=x.2) e3];exact ih _ _ _ h
        · cases h
noncomputable def tree (l:List Obj):BT:=(l.foldl (fun x o=>(x.1.ins x.2 o,x.2 + 1)) (BT.nil,0)).1
noncomputable def st0 (w:World) (os:OsState):SharedT:=⟨tree (boot_heap w.params).objs.toList,11,(boot_heap w.params).life,Array.mk [],boot_drawn,boot_toks,os⟩
theorem st0_abs (w:World) (os:OsState):(st0 w os).abs=⟨boot_heap w.params,Array.mk [],boot_drawn,boot_toks,os⟩:=by
  have h:∀ P:Params,absHeap (tree (boot_heap P).objs.toList) 11 (boot_heap P).life=boot_heap P:=fun P=>by kernel_rfl
  show Shared.mk (absHeap (tree (boot_heap w.params).objs.toList) 11 (boot_heap w.params).life) _ _ _ _=_
  rw [h]
  rfl
noncomputable def only (p:Program) (st:Stmt):Program:={ p with main:={ p.main with body:=[st] } }
noncomputable def defPos (s:Stmt):Pos:=match s with
  | .FunctionDef _ _ _ _ _ _ _ _ _ c=>c
  | _=>⟨0,0,0,0⟩
noncomputable def QbC (p:Program):List Str:=(p.main.scope.names.map (·.1)).filter fun n => !(n==("law":Str))
noncomputable def sees (p:Program) (P:Params) (h:Heap) (s:Shared):Bool :=
  staticsOk (importedModules p.main.body) (boot_heap P) h&&namesBound p h&&gensDone s&&laidKept (boot_heap P) h
noncomputable def end_ (p q:Program) (as:List Addr) (w:World) (os:OsState) (N:Nat) :=
  (run through (Fast.tw6613529449190102663 11 (some (.ref 6))) (Fast.tw10156331382660048174 (Fast.tw11892475500146522536 Fast.tw14364793385576792824) p w) N (st0 w os) (topStub p)).map fun s =>
    (sees p w.params s.abs.heap s.abs,Fast.tw4187177175401517315 q (QbC p) (importedModules p.main.body) (fun _=>true) true s.abs,as.map s.abs.heap.get?)
theorem left {p q:Program} {K:Params→Frag} {as:List Addr} {N:Nat} (e:opening p=plainProg p.main.scope.names) (f:∀ s,fenceModules? p s=some s) (hN:Nat.ble 600 N=true)
    (one:∀ (w:World) (os:OsState),end_ p q as w os N=some (true,openGood q (QbC p),(K w.params).map fun x=>some x.2)) :
    LeftO p q (QbC p) (fun _=>true) (fun s=>as.map s.heap.get?) (fun w=>(K w.params).map fun x=>some x.2) N:=by
  intro w
  have o:=boot_open (p:=p) (N:=N) e hN f w
  match hf:fencedOpening treeTable p w N with
  | none=>rw [hf] at o;cases o
  | some ⟨h,gs,d,k,os⟩ =>
    rw [hf] at o
    have o2:=Option.some.inj o
    have c1:h=boot_heap w.params:=congrArg Prod.fst o2
    have c2:gs=Array.mk []:=congrArg (fun x=>x.2.1) o2
    have c3:d=boot_drawn:=congrArg (fun x=>x.2.2.1) o2
    have c4:k=boot_toks:=congrArg (fun x=>x.2.2.2) o2
    have r:=one w os
    unfold end_ at r
    rw [← Fast.te6613529449190102663,← Fast.te10156331382660048174,← Fast.te11892475500146522536,← Fast.te14364793385576792824,← Fast.te4187177175401517315] at r
    match hr:run through (stepOk 11 (some (.ref 6))) (stepT (denote treeTable) p w) N (st0 w os) (topStub p) with
    | none=>rw [hr] at r;cases r
    | some s =>
      rw [hr] at r
      have r2:=Option.some.inj r
      have l1:=congrArg Prod.fst r2
      have l2:=congrArg (fun x=>x.2.1) r2
      have l3:=congrArg (fun x=>x.2.2) r2
      have t:=run_top N _ _ _ hr
      rw [st0_abs] at t
      subst c1 c2 c3 c4
      have z:(boot_heap w.params).isNs mainGlobals=true∧(boot_heap w.params).objs.size=11∧(boot_heap w.params).nsMap mainGlobals "__annotations__"=some (.ref 6):=⟨by kernel_rfl,by kernel_rfl,by kernel_rfl⟩
      have u:topFrom treeTable p w N ⟨boot_heap w.params,Array.mk [],boot_drawn,boot_toks,os⟩=some s.abs:=by
        simp only [topFrom,z.1,z.2.1,z.2.2,t]
        have l1':(staticsOk (importedModules p.main.body) (boot_heap w.params) s.abs.heap&&namesBound p s.abs.heap&&gensDone s.abs&&laidKept (boot_heap w.params) s.abs.heap)=true:=l1
        simp only [Option.bind_some,l1']
        rfl
      have v:openEnds treeTable p w N=some s.abs:=by
        unfold openEnds
        rw [hf]
        exact u
      rw [v]
      exact congrArg some (Prod.ext l2 l3)
theorem opens {l:OpenLaw} {K:Params→Frag} {as:List Addr} {st:Stmt} {N:Nat} (ws:Fast.tw9446332074065402090 l=true) (e:opening l.prog=plainProg l.prog.main.scope.names) (f:∀ s,fenceModules? l.prog s=some s) (hN:Nat.ble 600 N=true)
    (one:∀ (w:World) (os:OsState),end_ l.prog (only l.prog st) as w os N=some (true,openGood (only l.prog st) (QbC l.prog),(K w.params).map fun x=>some x.2)) (ha:∀ P,as=(K P).map (·.1))
    (hd:defOf (only l.prog st) l.name=some (⟨l.name,Qq st,Qm st,Qf st,defPos st⟩,[])) (hp:l.prog.theDef l.name=some (Qq st,Qm st,Qf st)) (hk:kwWritten? (Qq st).kwonlyargs (Qq st).kw_defaults=some [])
    (ok:(chainsOk (only l.prog st)&&opensWell l.prog&&(frees l.row.toRowW&&l.row.within.isEmpty))=true) (hb:l.prog.bare) (hw:l.row.toRowW.promised)
    (go:WalkO (only l.prog st) (QbC l.prog) (fun _ _=>True) (InK K) l.row.toRowW ⟨l.name,Qq st,Qm st,Qf st,defPos st⟩ [] fun f vs=>PySem.call f vs):l.Holds:=by
  rw [← Fast.te9446332074065402090] at ws
  exact holds_law ws fun k=>holds_open (r:=l.row) (left e f hN one) (InK.of ha) InK.keeps (fun _ _=>trivial) (fun _ _ _ _ _=>trivial) hd hp hk (fun s _=>recFacts_of (R:=[]) rfl) (Bool.or_true _) k ok hb hw go
end HD
namespace K02
open PySem PySem.Spec PyProof.Rows L2 L2.PM DH
theorem ev_mCallW (g:List PV→List PV→Option PV) (m0 ma:PEnv→Option (List PV)) (γ:PEnv):QfQ g m0 ma γ=(m0 γ).bind fun xs=>(ma γ).bind fun qs=>g xs qs:=rfl
local macro_rules | `(tactic| walk_at "ev") => `(tactic| try simp (disch:=first | assumption | omega | (simp only [signs_len,encN_len,List.length_map,List.length_range,List.length_cons,List.length_nil,List.length_append];omega) | decide) only [pLen_sn,ev_mCallW,EVc,List.length_cons,List.length_nil,if_true,List.map_cons,List.map_nil,List.replicate_zero,List.replicate_succ,List.cons_append,List.nil_append,List.getElem?_cons_zero,List.getElem?_cons_succ,Option.bind_some,Option.map_some,List.set_cons_zero,List.set_cons_succ,List.length_map,List.length_range,List.all_nil,List.all_cons,List.length_append])
theorem turn {C:Nat→Addr} (hC:([C 1,C 2,C 3,C 4,C 5]:List Addr).Nodup) (s0 s2 s3 s4:Slot) (c:Int):∃ t2 t3 t4,Xg C [s0,.fz (.int c),s2,s3,s4]=some (.nx [s0,.fz (.int c),t2,t3,t4]):=by
  obtain ⟨ds,e1,hd⟩:=e_draws c
  obtain ⟨ws,e2,w1,w2,w3⟩:=Qek hd
  obtain ⟨ws',e3,v1,v2⟩:=e_turned hd w1 (by omega)
  have e4:=pJoin_w v1 (by omega)
  have aT:=QeJ v1
  have lT:=join_len v1 (by omega)
  generalize Txt.join sp ws'=T at *
  obtain ⟨L,e5,aL,lL⟩:=Qhn hd aT (by omega)
  have d29:=ZT hd (k:=29) (by decide)
  generalize ds.getD 29 0=x29 at *
  have l900:L.length≤900:=by omega
  obtain ⟨p,e6⟩:=e_place hd c s0 (.fz (.str L)) s4
  have e7:=e_right hC aL l900 (x29 % 3==0) p
  have e8:=e_made hC p
  refine ⟨.fz (.lst (encN ds)),.fz (.str L),.fz (pN p),?_⟩
  unfold Xg
  revert e6
  generalize bin2 pIx (mLst (mLim (Qc (bin2 pMod (bin2 pIx (mVar 2) (mN 30)) (mN 48)) (Qc (bin2 pAdd (bin2 Qfx (bin2 pMod (mVar 1) (bin2 pPow (mN 10) (mN 60))) (mN 1000)) (bin2 pMod (bin2 pIx (mVar 2) (mN 30)) (mN 1000))) aNil)))) (bin2 pMod (bin2 pIx (mVar 2) (mN 31)) (mN 2))=K
  intro e6
  walk_at "ev"
  rw [e1]
  walk_at "ev"
  rw [e2]
  walk_at "ev"
  rw [e3]
  walk_at "ev"
  rw [e4]
  walk_at "ev"
  rw [e5]
  walk_at "ev"
  rw [e6]
  walk_at "ev"
  rw [d29]
  walk_at "ev"
  rw [e7]
  walk_at "ev"
  rw [e8]
  walk_at "ev"
theorem law_true (C:Nat→Addr) (hC:([C 1,C 2,C 3,C 4,C 5]:List Addr).Nodup) (ns:List Int) (hl:ns.length≤63):XG C [.lst (ns.map .int)]=some (.bl true):=by
  have hcl:=cutP_len ns none (some ((150:Nat):Int))
  unfold XG Qdm
  walk_at "ev"
  generalize cutP ns none (some ((150:Nat):Int))=cs at *
  have hcat:cs.map PV.int++[pN ns.length]=(cs++[(ns.length:Int)]).map PV.int:=by
    rw [List.map_append]
    rfl
  obtain ⟨y,_⟩:=YE (g:=gSet 1) (b:=Xg C) PV.int (fun _=>true) (.bl false) (fun γ=>∃ s1 s2 s3 s4,γ=[.fz (.lst (ns.map .int)),s1,s2,s3,s4]) (cs++[(ns.length:Int)]) [.fz (.lst (ns.map .int)),.un,.un,.un,.un] ⟨_,_,_,_,rfl⟩ (by
    rintro c hc γ ⟨s1,s2,s3,s4,rfl⟩
    obtain ⟨t2,t3,t4,e⟩:=turn hC (.fz (.lst (ns.map .int))) s2 s3 s4 c
    exact ⟨_,rfl,fun _=>⟨_,e,_,_,_,_,rfl⟩,fun z=>nomatch z⟩)
  obtain ⟨γ',e,s1,s2,s3,s4,rfl⟩:=y (by simp)
  rw [hcat,e]
  walk_at "ev"
end K02

namespace K02
open PySem PySem.Spec PyProof.Rows L2 L2.PM DH
noncomputable def top (i:Nat):Stmt:=PySem.Challenge.pw_doubthall_k02_rows_refused.main.body.getD i (.Pass ⟨0,0,0,0⟩)
structure Txt (K:PySem.W.Frag) (mg:Str→Option Value):Prop where
  b_ValueError:mg "ValueError"=none
  b_all:mg "all"=none
  b_bool:mg "bool"=none
  b_int:mg "int"=none
  b_isinstance:mg "isinstance"=none
  b_len:mg "len"=none
  b_range:mg "range"=none
  b_set:mg "set"=none
  b_str:mg "str"=none
  b_tuple:mg "tuple"=none
  g_MOST_IN_BODY:∃ t,mg "MOST_IN_BODY"=some (.int 6 t)
  g_MOST_LETTERS:∃ t,mg "MOST_LETTERS"=some (.int 12 t)
  g_NO_WORDS:∃ a,mg "NO_WORDS"=some (.ref a)∧GT K a ["guess","unless","if"]
structure WExc (K:PySem.W.Frag) (mg:Str→Option Value) (C:Nat→Addr):Prop where
  mg_HallError:mg "HallError"=some (.ref (C 0))
  mg_RowError:mg "RowError"=some (.ref (C 1))
  mg_NoRow:mg "NoRow"=some (.ref (C 2))
  mg_TooMany:mg "TooMany"=some (.ref (C 3))
  mg_Twice:mg "Twice"=some (.ref (C 4))
  mg_Headed:mg "Headed"=some (.ref (C 5))
  mg_NotTurn:mg "NotTurn"=some (.ref (C 6))
  mg_NoDoubt:mg "NoDoubt"=some (.ref (C 7))
  mg_NoReply:mg "NoReply"=some (.ref (C 8))
  mg_NoAsk:mg "NoAsk"=some (.ref (C 9))
  mg_NoWord:mg "NoWord"=some (.ref (C 10))
  mg_NotGuess:mg "NotGuess"=some (.ref (C 11))
  mg_NotTold:mg "NotTold"=some (.ref (C 12))
  be_RowError:PySem.W.mroIn K (C 1) (.type "BaseException")=some true
  be_NoRow:PySem.W.mroIn K (C 2) (.type "BaseException")=some true
  be_TooMany:PySem.W.mroIn K (C 3) (.type "BaseException")=some true
  be_Twice:PySem.W.mroIn K (C 4) (.type "BaseException")=some true
  be_Headed:PySem.W.mroIn K (C 5) (.type "BaseException")=some true
  ty_NoRow:PySem.W.typeIn K (.ref (C 2))=some (.type "type")
  ty_TooMany:PySem.W.typeIn K (.ref (C 3))=some (.type "type")
  ty_Twice:PySem.W.typeIn K (.ref (C 4))=some (.type "type")
  cat_RowError:XCat K (C 1)
  cau_RowError:∀ D,([C 1,C 2,C 3,C 4,C 5]:List Addr).contains D=true→PySem.W.mroIn K D (.ref (C 1))=some true∧PySem.W.mroIn K D (.type "BaseException")=some true
  fld:∀ D,([C 1,C 2,C 3,C 4,C 5]:List Addr).contains D=true→XFld K D "row"
  is_Headed:∀ D b,([(C 1,false),(C 2,false),(C 3,false),(C 4,false),(C 5,true)]:List (Addr×Bool)).lookup D=some b→XIs K D (.ref (C 5)) b
  is_Twice:∀ D b,([(C 1,false),(C 2,false),(C 3,false),(C 4,true),(C 5,false)]:List (Addr×Bool)).lookup D=some b→XIs K D (.ref (C 4)) b
  is_TooMany:∀ D b,([(C 1,false),(C 2,false),(C 3,true),(C 4,false),(C 5,false)]:List (Addr×Bool)).lookup D=some b→XIs K D (.ref (C 3)) b
  is_NoRow:∀ D b,([(C 1,false),(C 2,true),(C 3,false),(C 4,false),(C 5,false)]:List (Addr×Bool)).lookup D=some b→XIs K D (.ref (C 2)) b
  is_HallError:∀ D b,([(C 1,true),(C 2,true),(C 3,true),(C 4,true),(C 5,true)]:List (Addr×Bool)).lookup D=some b→XIs K D (.ref (C 0)) b
  is_RowError:∀ D b,([(C 1,true),(C 2,true),(C 3,true),(C 4,true),(C 5,true)]:List (Addr×Bool)).lookup D=some b→XIs K D (.ref (C 1)) b
  is_NoAsk:∀ D b,([(C 1,false),(C 2,false),(C 3,false),(C 4,false),(C 5,false)]:List (Addr×Bool)).lookup D=some b→XIs K D (.ref (C 9)) b
  is_NoReply:∀ D b,([(C 1,false),(C 2,false),(C 3,false),(C 4,false),(C 5,false)]:List (Addr×Bool)).lookup D=some b→XIs K D (.ref (C 8)) b
  is_NoDoubt:∀ D b,([(C 1,false),(C 2,false),(C 3,false),(C 4,false),(C 5,false)]:List (Addr×Bool)).lookup D=some b→XIs K D (.ref (C 7)) b
  is_NotTurn:∀ D b,([(C 1,false),(C 2,false),(C 3,false),(C 4,false),(C 5,false)]:List (Addr×Bool)).lookup D=some b→XIs K D (.ref (C 6)) b
  is_NotTold:∀ D b,([(C 1,false),(C 2,false),(C 3,false),(C 4,false),(C 5,false)]:List (Addr×Bool)).lookup D=some b→XIs K D (.ref (C 12)) b
  is_NotGuess:∀ D b,([(C 1,false),(C 2,false),(C 3,false),(C 4,false),(C 5,false)]:List (Addr×Bool)).lookup D=some b→XIs K D (.ref (C 11)) b
  is_NoWord:∀ D b,([(C 1,false),(C 2,false),(C 3,false),(C 4,false),(C 5,false)]:List (Addr×Bool)).lookup D=some b→XIs K D (.ref (C 10)) b
  is_ValueError:∀ D b,([(C 1,true),(C 2,true),(C 3,true),(C 4,true),(C 5,true)]:List (Addr×Bool)).lookup D=some b→XIs K D (.type "ValueError") b
noncomputable abbrev ZG:Stmt:=top 23
noncomputable def QaC:List Str:=["cell","count","number","drawn","k"]
theorem QcF {P:Program} {w:World} {K:PySem.W.Frag} {mg:Str→Option Value} {base:Heap} {f:Addr} {fd:FuncData} (T:Txt K mg)  (F:Fun K "_law_draws" "_law_draws" ZG f fd):FnOk P w K mg base CX0 1 f fd ["cell","count"] (spM K 2 Zr):=by
  have sc:FnScope QaC ["cell","count"] (Qf ZG):=⟨rfl,rfl,rfl,by decide +kernel,rfl,by decide +kernel,by decide +kernel⟩
  have nd:=sc.nd
  refine fnM (N:=QaC) (k:=0) F sc rfl fun cdv A outer s H E hr => ?_
  exact (Qi (QV (i:=2) nd rfl (Or.inl rfl) (Qv QG (Qv QbD (Qv Zu (Qv QG (Qa 0 (pv 0)) Qe) Qe) Qe) Qe))
      (Qi (Zs (i:=3) nd rfl (Or.inl rfl) (Ze Qh))
      (Qi (YO PassesOwn.never rfl (ZM (by rfl) T.b_range (Qb (Qa 1 (pv 1)) Qh)) (ZA (Zn (i:=4) nd rfl (Or.inl rfl))) (Qi (QV (i:=2) nd rfl (Or.inl rfl) (Qv QG (Qv QbD (Qa 2 (pv 2)) Qe) Qe))
      (Ql (QfK (i:=3) (pv 3) (Qv QfP (Qa 2 (pv 2)) Qe) (QaW (Qdt PySem.F.plainAttrs_list PySem.F.slot_list_append PySem.F.type_list_append XH (pv 3) (QaQ (Qv QfP (Qa 2 (pv 2)) Qe))))))))
      (Ql (QaV 3 (pv 3))))))
noncomputable abbrev Zm:Stmt:=top 28
noncomputable def Xs:List Str:=["line","drawn","some","at","sign"]
theorem Qbt {P:Program} {w:World} {K:PySem.W.Frag} {mg:Str→Option Value} {base:Heap} {f:Addr} {fd:FuncData} (T:Txt K mg)  (F:Fun K "_law_spoiled" "_law_spoiled" Zm f fd):FnOk P w K mg base CX0 1 f fd ["line","drawn"] (spM K 2 QF):=by
  have sc:FnScope Xs ["line","drawn"] (Qf Zm):=⟨rfl,rfl,rfl,by decide +kernel,rfl,by decide +kernel,by decide +kernel⟩
  have nd:=sc.nd
  refine fnM (N:=Xs) (k:=0) F sc rfl fun cdv A outer s H E hr => ?_
  exact (Qi (QV (i:=2) nd rfl (Or.inl rfl) QQ)
      (Qi (QV (i:=2) nd rfl (Or.inl rfl) (Qv Zu (Qa 2 (pv 2)) QQ))
      (Qi (Zo (Qx QfB (Qv QG (Qs Qr (Qa 1 (pv 1)) Qe (fun _ _=>rfl)) Qe) Qe (Qu _)) (Ql (QaV 0 (pv 0))) QE)
      (Qi (QV (i:=3) nd rfl (Or.inl rfl) (Qv QG (Qs Qr (Qa 1 (pv 1)) Qe (fun _ _=>rfl)) (Qv Zu (Qw QY (by rfl) T.b_len PySem.boot_len (Qb (Qa 0 (pv 0)) Qh)) Qe)))
      (Qi (QV (i:=4) nd rfl (Or.inl rfl) (Qs Qr (Qa 2 (pv 2)) (Qv QG (Qs Qr (Qa 1 (pv 1)) Qe (fun _ _=>rfl)) (Qw QY (by rfl) T.b_len PySem.boot_len (Qb (Qa 2 (pv 2)) Qh))) (fun _ _=>rfl)))
      (Ql (Qy (Qv Zu (Qv Zu (Qgw (Qa 0 (pv 0)) YS (YR (Qa 3 (pv 3)))) (Qs Qr (EO.em (Ze (Qb (Qa 4 (pv 4)) (Qb (Qa 4 (pv 4)) (Qaa Qh))))) (Qv QG (Qs Qr (Qa 1 (pv 1)) Qe (fun _ _=>rfl)) Qe) (fun _ _=>rfl))) (Qgw (Qa 0 (pv 0)) (YR (Qv Zu (Qa 3 (pv 3)) (Qv QG (Qs Qr (Qa 1 (pv 1)) Qe (fun _ _=>rfl)) Qe))) YS)))))))))
noncomputable abbrev ZF:Stmt:=top 24
noncomputable def QaB:List Str:=["number","size","letters","name","k"]
theorem QcE {P:Program} {w:World} {K:PySem.W.Frag} {mg:Str→Option Value} {base:Heap} {f:Addr} {fd:FuncData} (T:Txt K mg)  (F:Fun K "_law_fresh" "_law_fresh" ZF f fd):FnOk P w K mg base CX0 1 f fd ["number","size"] (spM K 2 QD):=by
  have sc:FnScope QaB ["number","size"] (Qf ZF):=⟨rfl,rfl,rfl,by decide +kernel,rfl,by decide +kernel,by decide +kernel⟩
  have nd:=sc.nd
  refine fnM (N:=QaB) (k:=0) F sc rfl fun cdv A outer s H E hr => ?_
  exact (Qi (QV (i:=2) nd rfl (Or.inl rfl) QQ)
      (Qi (QV (i:=3) nd rfl (Or.inl rfl) QQ)
      (Qi (YO PassesOwn.never rfl (ZM (by rfl) T.b_range (Qb (Qa 1 (pv 1)) Qh)) (ZA (Zn (i:=4) nd rfl (Or.inl rfl))) (Qi (QV (i:=0) nd rfl (Or.inl rfl) (Qv QG (Qv Zu (Qv QbD (Qa 0 (pv 0)) Qe) Qe) Qe))
      (Ql (QV (i:=3) nd rfl (Or.inl rfl) (Qv Zu (Qa 3 (pv 3)) (Qs Qr (Qa 2 (pv 2)) (Qv QG (Qv QfP (Qa 0 (pv 0)) Qe) Qe) (fun _ _=>rfl)))))))
      (Ql (QaV 3 (pv 3))))))
noncomputable abbrev Zb:Stmt:=top 25
noncomputable def Xc:List Str:=["number","some"]
theorem QaU {P:Program} {w:World} {K:PySem.W.Frag} {mg:Str→Option Value} {base:Heap} {f:Addr} {fd:FuncData} (T:Txt K mg) (c__law_fresh:Cal P w K mg base 1 "_law_fresh" 2 QD) (F:Fun K "_law_odd_word" "_law_odd_word" Zb f fd):FnOk P w K mg base CX0 2 f fd ["number"] (spM K 1 QK):=by
  have sc:FnScope Xc ["number"] (Qf Zb):=⟨rfl,rfl,rfl,by decide +kernel,rfl,by decide +kernel,by decide +kernel⟩
  have nd:=sc.nd
  refine fnM (N:=Xc) (k:=1) F sc rfl fun cdv A outer s H E hr => ?_
  refine Qi ?_ ?_
  · refine Zs (i:=1) ?_ ?_ ?_ ?_ (hs := ?_) (hf := ?_)
    · exact nd
    · rfl
    · exact Or.inl rfl
    · refine Ze ?_
      iterate 13 refine Qaa ?_
      exact Qh
    · rfl
    · first | exact .inl rfl | exact .inr rfl | assumption
  refine Qi ?_ ?_
  · exact (Zo (Qx QhA (Qv QG (Qa 0 (pv 0)) Qe) Qe (Qu _)) (Ql (Qy (Qs Qr (Qa 1 (pv 1)) (Qv QG (Qa 0 (pv 0)) Qe) (fun _ _=>rfl)))) QE)
  exact Ql (Qy (QW c__law_fresh Zk (hr.mono (by decide)) (by rfl) (Qb (Qa 0 (pv 0)) (Qb (Qs Qr (EO.em (Ze (YB (YB (YB Qh))))) (Qv om_sub (Qv QG (Qa 0 (pv 0)) Qe) Qe) (fun _ _=>rfl)) Qh))))
noncomputable abbrev Zt:Stmt:=top 27
noncomputable def XL:List Str:=["words","drawn","k","at","odd","deed"]
theorem QbK {P:Program} {w:World} {K:PySem.W.Frag} {mg:Str→Option Value} {base:Heap} {f:Addr} {fd:FuncData} (T:Txt K mg) (c__law_odd_word:Cal P w K mg base 2 "_law_odd_word" 1 QK) (F:Fun K "_law_turned" "_law_turned" Zt f fd):FnOk P w K mg base CX0 3 f fd ["words","drawn"] (spW K 2 Zi):=by
  have sc:FnScope XL ["words","drawn"] (Qf Zt):=⟨rfl,rfl,rfl,by decide +kernel,rfl,by decide +kernel,by decide +kernel⟩
  have nd:=sc.nd
  refine fnW (N:=XL) (k:=2) F sc rfl fun cdv A outer s H E hr => ?_
  exact (Qi (YO PassesOwn.never rfl (ZM (by rfl) T.b_range (Qb (Qv QG (Qs Qr (Qa 1 (pv 1)) Qe (fun _ _=>rfl)) Qe) Qh)) (ZA (Zn (i:=2) nd rfl (Or.inl rfl))) (Qi (QV (i:=3) nd rfl (Or.inl rfl) (Qv QG (Qs Qr (Qa 1 (pv 1)) (Qv Zu Qe (Qv QbD Qe (Qa 2 (pv 2)))) (fun _ _=>rfl)) (Qv Zu (Qw QY (by rfl) T.b_len PySem.boot_len (Qb (Qa 0 (pv 0)) Qh)) Qe)))
      (Qi (QV (i:=4) nd rfl (Or.inl rfl) (QW c__law_odd_word XD (hr.mono (by decide)) (by rfl) (Qb (Qs Qr (Qa 1 (pv 1)) (Qv Zu Qe (Qv QbD Qe (Qa 2 (pv 2)))) (fun _ _=>rfl)) Qh)))
      (Qi (QV (i:=5) nd rfl (Or.inl rfl) (Qv QG (Qs Qr (Qa 1 (pv 1)) (Qv Zu Qe (Qv QbD Qe (Qa 2 (pv 2)))) (fun _ _=>rfl)) Qe))
      (Ql (Zo (WM.tm (Xt (Qx (ZJ hr.units) (Qa 5 (pv 5)) Qe (Qu _)) (Xk (Qx QhA (Qa 3 (pv 3)) (Qw QY (by rfl) T.b_len PySem.boot_len (Qb (Qa 0 (pv 0)) Qh)) (Qu _))))) (Ql (Qex (i:=0) (pv 0) (Qa 4 (pv 4)) (Qa 3 (pv 3)))) (Ql (Zo (WM.tm (Xt (Qx (ZJ hr.units) (Qa 5 (pv 5)) Qe (Qu _)) (Xk (Qx QhA (Qa 3 (pv 3)) (Qw QY (by rfl) T.b_len PySem.boot_len (Qb (Qa 0 (pv 0)) Qh)) (Qu _))))) (Ql (sm_pop (i:=0) (pv 0) (QaW (Qdt PySem.F.plainAttrs_list PySem.F.slot_list_pop PySem.F.type_list_pop mt_popAt (pv 0) (QaQ (Qa 3 (pv 3))))))) (Ql (sm_ins2 (i:=0) (pv 0) (QaW (Qdt PySem.F.plainAttrs_list PySem.F.slot_list_insert PySem.F.type_list_insert QgV (pv 0) (ins_args (Qa 3 (pv 3)) (Qa 4 (pv 4)))))))))))))))
      (Ql (QaV 0 (pv 0))))
noncomputable abbrev ZN:Stmt:=top 29
noncomputable def Qbm:List Str:=["text","sign"]
theorem QdB {P:Program} {w:World} {K:PySem.W.Frag} {mg:Str→Option Value} {base:Heap} {f:Addr} {fd:FuncData} (T:Txt K mg)  (F:Fun K "_law_word" "_law_word" ZN f fd):FnOk P w K mg base CX0 1 f fd ["text"] (spM K 1 Zw):=by
  have sc:FnScope Qbm ["text"] (Qf ZN):=⟨rfl,rfl,rfl,by decide +kernel,rfl,by decide +kernel,by decide +kernel⟩
  have nd:=sc.nd
  refine fnM (N:=Qbm) (k:=0) F sc rfl fun cdv A outer s H E hr => ?_
  exact (Qi (Zo (Qx (om_in hr.units) (Qa 0 (pv 0)) (Yt (Qaa (Qaa (Qaa Qh)))) (by with_unfolding_all rfl)) (Ql (Qy Yx)) QE)
      (Qi (QfJ PassesOwn.never rfl (im_str (Qa 0 (pv 0))) (ZA (Zn (i:=1) nd rfl (Or.inl rfl))) (Ql (Zo (Qx QgT (Qa 1 (pv 1)) QQ (by with_unfolding_all rfl)) (Ql (Qy Yx)) QE)))
      (Ql (Qy (QeP QhB QhB Qe (Qw QY (by rfl) T.b_len PySem.boot_len (Qb (Qa 0 (pv 0)) Qh)) Qe)))))
noncomputable abbrev Yh:Stmt:=top 30
noncomputable def QbZ:List Str:=["line","words","k","inner"]
theorem Qeg {P:Program} {w:World} {K:PySem.W.Frag} {mg:Str→Option Value} {base:Heap} {f:Addr} {fd:FuncData} (T:Txt K mg) (c__law_word:Cal P w K mg base 1 "_law_word" 1 Zw) (F:Fun K "_law_due" "_law_due" Yh f fd):FnOk P w K mg base CX0 2 f fd ["line"] (spM K 1 Zq):=by
  have sc:FnScope QbZ ["line"] (Qf Yh):=⟨rfl,rfl,rfl,by decide +kernel,rfl,by decide +kernel,by decide +kernel⟩
  have nd:=sc.nd
  refine fnM (N:=QbZ) (k:=1) F sc rfl fun cdv A outer s H E hr => ?_
  exact (Qi (Zs (i:=1) nd rfl (Or.inl rfl) (QeO (Qa 0 (pv 0)) (Qaa Qh)))
      (Qi (YO PassesOwn.never rfl (ZM (by rfl) T.b_range (Qb (Qw QY (by rfl) T.b_len PySem.boot_len (Qb (Qa 1 (pv 1)) Qh)) Qh)) (ZA (Zn (i:=2) nd rfl (Or.inl rfl))) (Qi (QV (i:=3) nd rfl (Or.inl rfl) (QcR (Xa (ZJ hr.units) (Qs Qr (Qa 1 (pv 1)) Qe (fun _ _=>rfl)) QQ (Qu _)) (QbF (em_or (Xa (ZJ hr.units) (Qa 2 (pv 2)) Qe (Qu _)) (QbF (Xa (ZJ hr.units) (Qa 2 (pv 2)) Qe (Qu _)))))))
      (Ql (Zo (WM.tm (Xt (Yi (Zc (Qa 3 (pv 3)))) (Xt (Yi (Zc (QW c__law_word Qbp (hr.mono (by decide)) (by rfl) (Qb (Qs Qr (Qa 1 (pv 1)) (Qa 2 (pv 2)) (fun _ _=>rfl)) Qh)))) (Xk (Yi (WM.tm (Xt (Qx (ZJ hr.units) (Qa 2 (pv 2)) Qe (Qu _)) (Xk (Qx (ZJ hr.units) (Qs Qr (Qa 1 (pv 1)) (Qa 2 (pv 2)) (fun _ _=>rfl)) QQ (Qu _)))))))))) (Ql (Qy (Yt (YB Qh)))) QE))))
      (Qi (Zo (Qx (ZJ hr.units) (Qs Qr (Qa 1 (pv 1)) Qe (fun _ _=>rfl)) QQ (Qu _)) (Qi (Zo (WM.tm (Xt (Qx (ZJ hr.units) (Qw QY (by rfl) T.b_len PySem.boot_len (Qb (Qa 1 (pv 1)) Qh)) Qe (Qu _)) (Xt (Qx (ZJ hr.units) (Qs Qr (Qa 1 (pv 1)) Qe (fun _ _=>rfl)) QQ (Qu _)) (Xk (Qx (Qal hr.units) (Qs Qr (Qa 1 (pv 1)) Qe (fun _ _=>rfl)) QQ (Qu _)))))) (Ql (Qy (Yt (Qb QQ (Qb (Qs Qr (Qa 1 (pv 1)) Qe (fun _ _=>rfl)) (Qb (Qs Qr (Qa 1 (pv 1)) Qe (fun _ _=>rfl)) Qh)))))) QE)
      (Ql (Qy (Yt (YB Qh))))) QE)
      (Qi (Zo (Qx (ZJ hr.units) (Qw QY (by rfl) T.b_len PySem.boot_len (Qb (Qa 1 (pv 1)) Qh)) Qe (Qu _)) (Ql (Qy (Yt (Qb QQ (Qb (Qs Qr (Qa 1 (pv 1)) Qe (fun _ _=>rfl)) (Qb (Yt Qh) Qh)))))) QE)
      (Qi (Zo (WM.tm (XM (Qx (Qal hr.units) (Qs Qr (Qa 1 (pv 1)) Qe (fun _ _=>rfl)) QQ (Qu _)) (YW (Qx (ZJ hr.units) (Qw QY (by rfl) T.b_len PySem.boot_len (Qb (Qa 1 (pv 1)) Qh)) Qe (Qu _))))) (Ql (Qy (Yt (YB Qh)))) QE)
      (Qi (Zo (Qx QfB (Qw QY (by rfl) T.b_len PySem.boot_len (Qb (Qa 1 (pv 1)) Qh)) Qe (Qu _)) (Ql (Qy (Yt (YB Qh)))) QE)
      (Qi (YO PassesOwn.never rfl (Qfn (by rfl) T.b_range (Qb Qe (Qb (Qw QY (by rfl) T.b_len PySem.boot_len (Qb (Qa 1 (pv 1)) Qh)) Qh))) (ZA (Zn (i:=2) nd rfl (Or.inl rfl))) (Ql (Zo (Qx (om_in hr.units) (Qs Qr (Qa 1 (pv 1)) (Qa 2 (pv 2)) (fun _ _=>rfl)) (EO.em (QbE (Qa 1 (pv 1)) (YR (Qv Zu (Qa 2 (pv 2)) Qe)) YS)) (by with_unfolding_all rfl)) (Ql (Qy (Yt (YB Qh)))) QE)))
      (Ql (Qy (Yt (Qb QQ (Qb (Qs Qr (Qa 1 (pv 1)) Qe (fun _ _=>rfl)) (Qb (Qdj QeR (by rfl) T.b_tuple (by kernel_rfl) (Qb (EO.em (QbE (Qa 1 (pv 1)) (YR Qe) YS)) Qh)) Qh)))))))))))))
noncomputable abbrev ZR:Stmt:=top 18
noncomputable def XJ:List Str:=["part"]
theorem Qfe {P:Program} {w:World} {K:PySem.W.Frag} {mg:Str→Option Value} {base:Heap} {f:Addr} {fd:FuncData} (T:Txt K mg)  (F:Fun K "is_word" "is_word" ZR f fd):FnOk P w K mg base CX0 1 f fd ["part"] (spM K 1 Zh):=by
  have sc:FnScope XJ ["part"] (Qf ZR):=⟨rfl,rfl,rfl,by decide +kernel,rfl,by decide +kernel,by decide +kernel⟩
  have nd:=sc.nd
  refine fnM (N:=XJ) (k:=0) F sc rfl fun cdv A outer s H E hr => ?_
  exact (Qi (Zo (WM.tm (XM (Qx (om_in hr.units) (Qa 0 (pv 0)) (em_gT (by rfl) T.g_NO_WORDS) (by with_unfolding_all rfl)) (YW (Yi (tm_chain QhB QhB Qe (Qw QY (by rfl) T.b_len PySem.boot_len (Qb (Qa 0 (pv 0)) Qh)) (em_gI (by rfl) T.g_MOST_LETTERS)))))) (Ql (Qy Yx)) QE)
      (Ql (Qy (Qw (cm_all rfl) (by rfl) T.b_all (by kernel_rfl) (Qb (EO.em (QdP (X:=(cxOf CX0 P w K mg base XJ "is_word" (Qf ZR) f cdv A outer s H E).nox) (N':=["sign"]) (nt:=1) (caps:=[]) (ts:=[0]) (ns:=[]) (ls:=[0]) rfl (ck_of (N:=XJ) (osc:=(Qf ZR)) rfl rfl (by decide +kernel)) (by decide) (Qbe _) (im_str (Qa 0 (pv 0))) (fun _ _ _ _ _ _=>(ZA (Zn (i:=0) (show (["sign"]:List Str).Nodup by decide +kernel) rfl (Or.inl rfl)))) (fun _ _ _ _ _ _=>QfS) (fun _ _ _ _ _ _=>(QeP om_leS om_leS QQ (Qa 0 (pv 0)) QQ)))) Qh)))))
noncomputable abbrev Zl:Stmt:=top 19
noncomputable def Xr:List Str:=["parts"]
theorem Qbs {P:Program} {w:World} {K:PySem.W.Frag} {mg:Str→Option Value} {base:Heap} {f:Addr} {fd:FuncData} (T:Txt K mg) (c_is_word:Cal P w K mg base 1 "is_word" 1 Zh) (F:Fun K "is_guess_row" "is_guess_row" Zl f fd):FnOk P w K mg base CX0 2 f fd ["parts"] (spM K 1 QJ):=by
  have sc:FnScope Xr ["parts"] (Qf Zl):=⟨rfl,rfl,rfl,by decide +kernel,rfl,by decide +kernel,by decide +kernel⟩
  have nd:=sc.nd
  refine fnM (N:=Xr) (k:=1) F sc rfl fun cdv A outer s H E hr => ?_
  exact (Qi (Zo (WM.tm (XM (Qx (Qal hr.units) (Qw QY (by rfl) T.b_len PySem.boot_len (Qb (Qa 0 (pv 0)) Qh)) Qe (Qu _)) (XM (Qx (Qal hr.units) (Qs Qr (Qa 0 (pv 0)) Qe (fun _ _=>rfl)) QQ (Qu _)) (YW (Qx (Qal hr.units) (Qs Qr (Qa 0 (pv 0)) Qe (fun _ _=>rfl)) QQ (Qu _)))))) (Ql (Qy Yx)) QE)
      (Ql (Qy (QcR (QW c_is_word Ya (hr.mono (by decide)) (by rfl) (Qb (Qs Qr (Qa 0 (pv 0)) Qe (fun _ _=>rfl)) Qh)) (QbF (QW c_is_word Ya (hr.mono (by decide)) (by rfl) (Qb (Qs Qr (Qa 0 (pv 0)) Qe (fun _ _=>rfl)) Qh)))))))
noncomputable abbrev QN:Stmt:=top 20
noncomputable def Yf:List Str:=["parts"]
theorem QbJ {P:Program} {w:World} {K:PySem.W.Frag} {mg:Str→Option Value} {base:Heap} {f:Addr} {fd:FuncData} (T:Txt K mg) (c_is_word:Cal P w K mg base 1 "is_word" 1 Zh) (F:Fun K "is_rule_row" "is_rule_row" QN f fd):FnOk P w K mg base CX0 2 f fd ["parts"] (spM K 1 QI):=by
  have sc:FnScope Yf ["parts"] (Qf QN):=⟨rfl,rfl,rfl,by decide +kernel,rfl,by decide +kernel,by decide +kernel⟩
  have nd:=sc.nd
  refine fnM (N:=Yf) (k:=1) F sc rfl fun cdv A outer s H E hr => ?_
  exact (Qi (Zo (Qx (ZJ hr.units) (Qw QY (by rfl) T.b_len PySem.boot_len (Qb (Qa 0 (pv 0)) Qh)) Qe (Qu _)) (Ql (Qy (QW c_is_word Ya (hr.mono (by decide)) (by rfl) (Qb (Qs Qr (Qa 0 (pv 0)) Qe (fun _ _=>rfl)) Qh)))) QE)
      (Qi (Zo (WM.tm (XM (Qx (ZJ hr.units) (Qw QY (by rfl) T.b_len PySem.boot_len (Qb (Qa 0 (pv 0)) Qh)) Qe (Qu _)) (YW (Qx (Qal hr.units) (Qs Qr (Qa 0 (pv 0)) Qe (fun _ _=>rfl)) QQ (Qu _))))) (Ql (Qy Yx)) QE)
      (Ql (Qy (Qw (cm_all rfl) (by rfl) T.b_all (by kernel_rfl) (Qb (EO.em (QdP (X:=(cxOf CX0 P w K mg base Yf "is_rule_row" (Qf QN) f cdv A outer s H E).nox) (N':=["part"]) (nt:=1) (caps:=[]) (ts:=[0]) (ns:=[]) (ls:=[0]) rfl (ck_of (N:=Yf) (osc:=(Qf QN)) rfl rfl (by decide +kernel)) (by decide) (Qbe _) (QfR (EO.em (Qam YZ (EO.em (QbE (Qa 0 (pv 0)) YS (YR Qe))) (EO.em (QbE (Qa 0 (pv 0)) (YR Qe) YS))))) (fun _ _ _ _ _ _=>(ZA (Zn (i:=0) (show (["part"]:List Str).Nodup by decide +kernel) rfl (Or.inl rfl)))) (fun _ _ _ _ _ _=>QfS) (fun _ _ _ _ _ _=>(QW c_is_word Ya (hr.mono (by decide)) (by rfl) (Qb (Qa 0 (pv 0)) Qh))))) Qh))))))
noncomputable abbrev QB:Stmt:=Qgs (top 2) 0
noncomputable def Yn:List Str:=["self","row"]
theorem QH {P:Program} {w:World} {K:PySem.W.Frag} {mg:Str→Option Value} {base:Heap} {f:Addr} {fd:FuncData} {D:Addr} (xs:XSet K D "row") (F:Fun K "__init__" "RowError.__init__" QB f fd):FnOk P w K mg base CX0 1 f fd ["self","row"] (spI D "row"):=by
  have sc:FnScope Yn ["self","row"] (Qf QB):=⟨rfl,rfl,rfl,by decide +kernel,rfl,by decide +kernel,by decide +kernel⟩
  exact fnI (N:=Yn) (k:=0) F sc rfl xs fun cdv A outer s H E hr=>QdG (ps_xset (pv 0) (pv 1))
noncomputable abbrev Yg:Stmt:=top 21
noncomputable def QbY:List Str:=["line","row","parts","body"]
theorem Qef {P:Program} {w:World} {K:PySem.W.Frag} {mg:Str→Option Value} {base:Heap} {f:Addr} {fd:FuncData} (T:Txt K mg) {C:Nat→Addr} (V:WExc K mg C) (ci_NoRow:CalI P w K mg base 1 (C 2) "row") (ci_TooMany:CalI P w K mg base 1 (C 3) "row") (ci_Twice:CalI P w K mg base 1 (C 4) "row") (c_is_guess_row:Cal P w K mg base 2 "is_guess_row" 1 QJ) (c_is_rule_row:Cal P w K mg base 2 "is_rule_row" 1 QI) (F:FunD K "read_row" "read_row" Yg f fd 0):FnOk P w K mg base (CX2 P w) 3 f fd ["line","row"] (spR K 2 (Zf C)):=by
  have sc:FnScope QbY ["line","row"] (Qf Yg):=⟨rfl,rfl,rfl,by decide +kernel,rfl,by decide +kernel,by decide +kernel⟩
  have nd:=sc.nd
  refine fnRD (N:=QbY) (k:=2) F sc rfl fun cdv A outer s H E hr => ?_
  exact (XO (QdF (Zs (i:=2) nd rfl (Or.inl rfl) (QeO (Qa 0 (pv 0)) (Qaa Qh))))
      (XO (QdF (Zo (Zc (QW c_is_guess_row XW (hr.mono (by decide)) (by rfl) (Qb (Qa 2 (pv 2)) Qh))) (Ql (Qy (Yt (Qb QQ (Qb (Qs Qr (Qa 2 (pv 2)) Qe (fun _ _=>rfl)) (Qb (Qs Qr (Qa 2 (pv 2)) Qe (fun _ _=>rfl)) Qh)))))) QE))
      (XO (rm_if (Yi (Zc (QW c_is_rule_row Qaf (hr.mono (by decide)) (by rfl) (Qb (Qa 2 (pv 2)) Qh)))) (QfL (Qcm Qad rfl ci_NoRow.mk (hr.mono (by decide)) (by rfl) V.mg_NoRow V.be_NoRow V.ty_NoRow (Qb (Qa 1 (pv 1)) Qh))) (Qcb QE))
      (XO (QdF (QV (i:=3) nd rfl (Or.inl rfl) (Qdj QeR (by rfl) T.b_tuple (by kernel_rfl) (Qb (EO.em (QbE (Qa 2 (pv 2)) (YR Qe) YS)) Qh))))
      (XO (rm_if (Qx QfB (Qw QY (by rfl) T.b_len PySem.boot_len (Qb (Qa 3 (pv 3)) Qh)) (em_gI (by rfl) T.g_MOST_IN_BODY) (Qu _)) (QfL (Qcm Qad rfl ci_TooMany.mk (hr.mono (by decide)) (by rfl) V.mg_TooMany V.be_TooMany V.ty_TooMany (Qb (Qa 1 (pv 1)) Qh))) (Qcb QE))
      (XO (rm_if (Qx QhA (Qfq rfl (by rfl) T.b_set (by rfl) T.b_len (Qb (Qa 3 (pv 3)) Qh)) (Qw QY (by rfl) T.b_len PySem.boot_len (Qb (Qa 3 (pv 3)) Qh)) (Qu _)) (QfL (Qcm Qad rfl ci_Twice.mk (hr.mono (by decide)) (by rfl) V.mg_Twice V.be_Twice V.ty_Twice (Qb (Qa 1 (pv 1)) Qh))) (Qcb QE))
      (Qcb (Ql (Qy (Yt (Qb QQ (Qb (Qs Qr (Qa 2 (pv 2)) Qe (fun _ _=>rfl)) (Qb (Qa 3 (pv 3)) Qh)))))))))))))
noncomputable abbrev ZH:Stmt:=top 33
noncomputable def QaD:List Str:=["line","bare","place","kinds","others","at","found","e"]
theorem QcG {P:Program} {w:World} {K:PySem.W.Frag} {mg:Str→Option Value} {base:Heap} {f:Addr} {fd:FuncData} (T:Txt K mg) {C:Nat→Addr} (V:WExc K mg C) (c_read_row:QhJ P w K mg base 3 "read_row" "row" 0 (Zf C)) (F:Fun K "_law_asked" "_law_asked" ZH f fd):FnOk P w K mg base CX0 4 f fd ["line","bare","place"] (spM K 3 (QU C)):=by
  have sc:FnScope QaD ["line","bare","place"] (Qf ZH):=⟨rfl,rfl,rfl,by decide +kernel,rfl,by decide +kernel,by decide +kernel⟩
  have nd:=sc.nd
  refine fnM (N:=QaD) (k:=3) F sc rfl fun cdv A outer s H E hr => ?_
  exact (Qi (Zs (i:=3) nd rfl (Or.inl rfl) (Ze Qh))
      (Qi (Zs (i:=4) nd rfl (Or.inl rfl) (Ze Qh))
      (Qi (QV (i:=5) nd rfl (Or.inl rfl) Qe)
      (Qi (QV (i:=6) nd rfl (Or.inl rfl) em_non)
      (Qi (sm_tryX (i:=7) (Cs:=[C 1,C 2,C 3,C 4,C 5]) rfl rfl rfl (fun xe=>(QfN (qm_if (Zc (Qa 1 (pv 1))) (QfN (qm_setD (i:=6) nd rfl (Or.inl rfl) c_read_row (YK C) (hr.mono (by decide)) (by rfl) (Qb (Qa 0 (pv 0)) Qh))) (QfN (qm_setK (i:=6) nd rfl (Or.inl rfl) c_read_row (YK C) (hr.mono (by decide)) (by rfl) (Qb (Qa 0 (pv 0)) Qh) (Qa 2 (pv 2)))))))
      (fun a=>(Qi (Zs (i:=3) nd rfl (Or.inl rfl) (Ze (Qb (QR (x := "NoRow") V.is_NoRow (Qa 7 (pv 7)) (by rfl) T.b_isinstance (by rfl) V.mg_NoRow) (Qb (QR (x := "TooMany") V.is_TooMany (Qa 7 (pv 7)) (by rfl) T.b_isinstance (by rfl) V.mg_TooMany) (Qb (QR (x := "Twice") V.is_Twice (Qa 7 (pv 7)) (by rfl) T.b_isinstance (by rfl) V.mg_Twice) (Qb (QR (x := "Headed") V.is_Headed (Qa 7 (pv 7)) (by rfl) T.b_isinstance (by rfl) V.mg_Headed) Qh))))))
      (Qi (Zs (i:=3) nd rfl (Or.inl rfl) (Qam YZ (Qa 3 (pv 3)) (EO.em (Ze (Qb (QR (x := "RowError") V.is_RowError (Qa 7 (pv 7)) (by rfl) T.b_isinstance (by rfl) V.mg_RowError) (Qb (QR (x := "HallError") V.is_HallError (Qa 7 (pv 7)) (by rfl) T.b_isinstance (by rfl) V.mg_HallError) (Qb (Qgv (x := "ValueError") V.is_ValueError (Qa 7 (pv 7)) (by rfl) T.b_isinstance (by rfl) T.b_ValueError (by kernel_rfl)) Qh)))))))
      (Qi (Zs (i:=4) nd rfl (Or.inl rfl) (Ze (Qb (QR (x := "NotTurn") V.is_NotTurn (Qa 7 (pv 7)) (by rfl) T.b_isinstance (by rfl) V.mg_NotTurn) (Qb (QR (x := "NoDoubt") V.is_NoDoubt (Qa 7 (pv 7)) (by rfl) T.b_isinstance (by rfl) V.mg_NoDoubt) (Qb (QR (x := "NoReply") V.is_NoReply (Qa 7 (pv 7)) (by rfl) T.b_isinstance (by rfl) V.mg_NoReply) (Qb (QR (x := "NoAsk") V.is_NoAsk (Qa 7 (pv 7)) (by rfl) T.b_isinstance (by rfl) V.mg_NoAsk) Qh))))))
      (Qi (Zs (i:=4) nd rfl (Or.inl rfl) (Qam YZ (Qa 4 (pv 4)) (EO.em (Ze (Qb (QR (x := "NoWord") V.is_NoWord (Qa 7 (pv 7)) (by rfl) T.b_isinstance (by rfl) V.mg_NoWord) (Qb (QR (x := "NotGuess") V.is_NotGuess (Qa 7 (pv 7)) (by rfl) T.b_isinstance (by rfl) V.mg_NotGuess) (Qb (QR (x := "NotTold") V.is_NotTold (Qa 7 (pv 7)) (by rfl) T.b_isinstance (by rfl) V.mg_NotTold) Qh)))))))
      (Ql (QV (i:=5) nd rfl (Or.inl rfl) (QdQ (Qa 7 (pv 7)) V.fld))))))))
      V.cau_RowError (by rfl) V.mg_RowError V.cat_RowError nd rfl rfl)
      (Ql (Qy (Yt (Qb (EO.em (Qam YZ (Qa 3 (pv 3)) (Qa 4 (pv 4)))) (Qb (Qa 5 (pv 5)) (Qb (Qa 6 (pv 6)) Qh)))))))))))
noncomputable abbrev ZO:Stmt:=top 35
noncomputable def Qbn:List Str:=["found","due","word"]
theorem QdC {P:Program} {w:World} {K:PySem.W.Frag} {mg:Str→Option Value} {base:Heap} {f:Addr} {fd:FuncData} (T:Txt K mg)  (F:Fun K "_law_same" "_law_same" ZO f fd):FnOk P w K mg base CX0 1 f fd ["found","due"] (spM K 2 QO):=by
  have sc:FnScope Qbn ["found","due"] (Qf ZO):=⟨rfl,rfl,rfl,by decide +kernel,rfl,by decide +kernel,by decide +kernel⟩
  have nd:=sc.nd
  refine fnM (N:=Qbn) (k:=0) F sc rfl fun cdv A outer s H E hr => ?_
  exact (Qi (Zo (WM.tm (XM (Yi (Zc (ZS (x := "tuple") Qgq (Qa 0 (pv 0)) (by rfl) T.b_isinstance (by rfl) T.b_tuple (by kernel_rfl)))) (YW (Qx (Qal hr.units) (Qw QY (by rfl) T.b_len PySem.boot_len (Qb (Qa 0 (pv 0)) Qh)) Qe (Qu _))))) (Ql (Qy Yx)) QE)
      (Qi (Zo (WM.tm (XM (Yi (Zc (ZS (x := "str") Qcd (Qs Qr (Qa 0 (pv 0)) Qe (fun _ _=>rfl)) (by rfl) T.b_isinstance (by rfl) T.b_str (by kernel_rfl)))) (YW (Yi (Zc (ZS (x := "str") Qcd (Qs Qr (Qa 0 (pv 0)) Qe (fun _ _=>rfl)) (by rfl) T.b_isinstance (by rfl) T.b_str (by kernel_rfl))))))) (Ql (Qy Yx)) QE)
      (Qi (Zo (Qx (ZJ hr.units) (Qs Qr (Qa 1 (pv 1)) Qe (fun _ _=>rfl)) QQ (Qu _)) (Ql (Qy (QcR (ZS (x := "str") Qcd (Qs Qr (Qa 0 (pv 0)) Qe (fun _ _=>rfl)) (by rfl) T.b_isinstance (by rfl) T.b_str (by kernel_rfl)) (QbF (Xa (ZJ hr.units) (Qa 0 (pv 0)) (Qa 1 (pv 1)) (Qu _)))))) QE)
      (Qi (Zo (WM.tm (XM (Yi (Zc (ZS (x := "tuple") Qgq (Qs Qr (Qa 0 (pv 0)) Qe (fun _ _=>rfl)) (by rfl) T.b_isinstance (by rfl) T.b_tuple (by kernel_rfl)))) (YW (Qx (Qal hr.units) (Qw QY (by rfl) T.b_len PySem.boot_len (Qb (Qs Qr (Qa 0 (pv 0)) Qe (fun _ _=>rfl)) Qh)) (Qw QY (by rfl) T.b_len PySem.boot_len (Qb (Qs Qr (Qa 1 (pv 1)) Qe (fun _ _=>rfl)) Qh)) (Qu _))))) (Ql (Qy Yx)) QE)
      (Qi (QfJ PassesOwn.never rfl (im_seq (Qs Qr (Qa 0 (pv 0)) Qe (fun _ _=>rfl))) (ZA (Zn (i:=2) nd rfl (Or.inl rfl))) (Ql (Zo (Yi (Zc (ZS (x := "str") Qcd (Qa 2 (pv 2)) (by rfl) T.b_isinstance (by rfl) T.b_str (by kernel_rfl)))) (Ql (Qy Yx)) QE)))
      (Ql (Qy (Xa (ZJ hr.units) (Qa 0 (pv 0)) (Qa 1 (pv 1)) (Qu _)))))))))
noncomputable abbrev QA:Stmt:=top 32
noncomputable def Zy:List Str:=["kind"]
theorem Qah {P:Program} {w:World} {K:PySem.W.Frag} {mg:Str→Option Value} {base:Heap} {f:Addr} {fd:FuncData} (T:Txt K mg)  (F:Fun K "_law_due_kinds" "_law_due_kinds" QA f fd):FnOk P w K mg base CX0 1 f fd ["kind"] (spM K 1 Qt):=by
  have sc:FnScope Zy ["kind"] (Qf QA):=⟨rfl,rfl,rfl,by decide +kernel,rfl,by decide +kernel,by decide +kernel⟩
  have nd:=sc.nd
  refine fnM (N:=Zy) (k:=0) F sc rfl fun cdv A outer s H E hr => ?_
  exact (Ql (Qca (Qam YZ (EO.em (Qam YZ (EO.em (QdP (X:=(cxOf CX0 P w K mg base Zy "_law_due_kinds" (Qf QA) f cdv A outer s H E).nox) (N':=["k","kind"]) (nt:=1) (caps:=[0]) (ts:=[0]) (ns:=[]) (ls:=[0,1]) rfl (ck_of (N:=Zy) (osc:=(Qf QA)) rfl rfl (by decide +kernel)) (by decide) (Qbe _) (Qhc (by rfl) T.b_range (YB Qh)) (fun _ _ _ _ _ _=>(ZA (Zn (i:=0) (show (["k","kind"]:List Str).Nodup by decide +kernel) rfl (Or.inl rfl)))) (fun _ _ _ _ _ _=>QfS) (fun _ _ _ _ _ _=>(Xa (ZJ (by exact hr.units)) (Qa 0 (pv 0)) (Qa 1 (pv 1)) (Qu _))))) (EO.em (Ze (Qb Yx (Qb Yx (Qb Yx Qh))))))) (EO.em (Qam oo_rep (EO.em (Ze (Qb Yx Qh))) Qe)))))
noncomputable abbrev ZC:Stmt:=top 34
noncomputable def Qay:List Str:=["found"]
theorem QcB {P:Program} {w:World} {K:PySem.W.Frag} {mg:Str→Option Value} {base:Heap} {f:Addr} {fd:FuncData} (T:Txt K mg)  (F:Fun K "_law_whole" "_law_whole" ZC f fd):FnOk P w K mg base CX0 1 f fd ["found"] (spM K 1 QL):=by
  have sc:FnScope Qay ["found"] (Qf ZC):=⟨rfl,rfl,rfl,by decide +kernel,rfl,by decide +kernel,by decide +kernel⟩
  have nd:=sc.nd
  refine fnM (N:=Qay) (k:=0) F sc rfl fun cdv A outer s H E hr => ?_
  exact (Ql (Qy (QcR (ZS (x := "int") isi_int (Qa 0 (pv 0)) (by rfl) T.b_isinstance (by rfl) T.b_int (by kernel_rfl)) (QbF (em_not (ZS (x := "bool") isi_bl (Qa 0 (pv 0)) (by rfl) T.b_isinstance (by rfl) T.b_bool (by kernel_rfl)))))))
noncomputable abbrev ZD:Stmt:=top 37
noncomputable def Qaz:List Str:=["line","bare","place","due","kinds","at","found"]
theorem QcC {P:Program} {w:World} {K:PySem.W.Frag} {mg:Str→Option Value} {base:Heap} {f:Addr} {fd:FuncData} (T:Txt K mg) {C:Nat→Addr} (V:WExc K mg C) (c__law_due:Cal P w K mg base 2 "_law_due" 1 Zq) (c__law_asked:Cal P w K mg base 4 "_law_asked" 3 (QU C)) (c__law_same:Cal P w K mg base 1 "_law_same" 2 QO) (c__law_due_kinds:Cal P w K mg base 1 "_law_due_kinds" 1 Qt) (c__law_whole:Cal P w K mg base 1 "_law_whole" 1 QL) (F:Fun K "_law_right" "_law_right" ZD f fd):FnOk P w K mg base CX0 5 f fd ["line","bare","place"] (spM K 3 (QS C)):=by
  have sc:FnScope Qaz ["line","bare","place"] (Qf ZD):=⟨rfl,rfl,rfl,by decide +kernel,rfl,by decide +kernel,by decide +kernel⟩
  have nd:=sc.nd
  refine fnM (N:=Qaz) (k:=4) F sc rfl fun cdv A outer s H E hr => ?_
  exact (Qi (QV (i:=3) nd rfl (Or.inl rfl) (QW c__law_due QaS (hr.mono (by decide)) (by rfl) (Qb (Qa 0 (pv 0)) Qh)))
      (Qi (sm_asg (QW c__law_asked (XZ C) (hr.mono (by decide)) (by rfl) (Qb (Qa 0 (pv 0)) (Qb (Qa 1 (pv 1)) (Qb (Qa 2 (pv 2)) Qh)))) (gm_tup3 (pg_tup rfl (Qco (Zn (i:=4) nd rfl (Or.inl rfl)) (Qco (Zn (i:=5) nd rfl (Or.inl rfl)) (Qco (Zn (i:=6) nd rfl (Or.inl rfl)) pgs_nil))))))
      (Qi (Zo (Qx (ZJ hr.units) (Qw QY (by rfl) T.b_len PySem.boot_len (Qb (Qa 3 (pv 3)) Qh)) Qe (Qu _)) (Ql (Qy (QcR (Xa (ZJ hr.units) (Qa 4 (pv 4)) (EO.em (Ze Qh)) (Qu _)) (QbF (QW c__law_same Qbq (hr.mono (by decide)) (by rfl) (Qb (Qa 6 (pv 6)) (Qb (Qa 3 (pv 3)) Qh))))))) QE)
      (Qi (Zo (WM.tm (XM (Qx (Qal hr.units) (Qa 4 (pv 4)) (QW c__law_due_kinds ZZ (hr.mono (by decide)) (by rfl) (Qb (Qs Qr (Qa 3 (pv 3)) Qe (fun _ _=>rfl)) Qh)) (Qu _)) (YW (Yi (Zc (QW c__law_whole YL (hr.mono (by decide)) (by rfl) (Qb (Qa 5 (pv 5)) Qh))))))) (Ql (Qy Yx)) QE)
      (Qi (Zo (Zc (Qa 1 (pv 1))) (Ql (Qy (Xa (ZJ hr.units) (Qa 5 (pv 5)) Qe (Qu _)))) QE)
      (Ql (Qy (Xa (ZJ hr.units) (Qa 5 (pv 5)) (Qa 2 (pv 2)) (Qu _)))))))))
noncomputable abbrev ZE:Stmt:=top 31
noncomputable def QaA:List Str:=["e","kinds"]
theorem QcD {P:Program} {w:World} {K:PySem.W.Frag} {mg:Str→Option Value} {base:Heap} {f:Addr} {fd:FuncData} (T:Txt K mg) {C:Nat→Addr} (V:WExc K mg C)  (F:Fun K "_law_kinds" "_law_kinds" ZE f fd):FnOk P w K mg base CX0 1 f fd ["e"] (spM K 1 (QT C)):=by
  have sc:FnScope QaA ["e"] (Qf ZE):=⟨rfl,rfl,rfl,by decide +kernel,rfl,by decide +kernel,by decide +kernel⟩
  have nd:=sc.nd
  refine fnM (N:=QaA) (k:=0) F sc rfl fun cdv A outer s H E hr => ?_
  exact (Qi (Zs (i:=1) nd rfl (Or.inl rfl) (Ze (Qb (QR (x := "NoRow") V.is_NoRow (Qa 0 (pv 0)) (by rfl) T.b_isinstance (by rfl) V.mg_NoRow) (Qb (QR (x := "TooMany") V.is_TooMany (Qa 0 (pv 0)) (by rfl) T.b_isinstance (by rfl) V.mg_TooMany) (Qb (QR (x := "Twice") V.is_Twice (Qa 0 (pv 0)) (by rfl) T.b_isinstance (by rfl) V.mg_Twice) (Qb (QR (x := "Headed") V.is_Headed (Qa 0 (pv 0)) (by rfl) T.b_isinstance (by rfl) V.mg_Headed) Qh))))))
      (Qi (Zs (i:=1) nd rfl (Or.inl rfl) (Qam YZ (Qa 1 (pv 1)) (EO.em (Ze (Qb (QR (x := "RowError") V.is_RowError (Qa 0 (pv 0)) (by rfl) T.b_isinstance (by rfl) V.mg_RowError) (Qb (QR (x := "HallError") V.is_HallError (Qa 0 (pv 0)) (by rfl) T.b_isinstance (by rfl) V.mg_HallError) (Qb (Qgv (x := "ValueError") V.is_ValueError (Qa 0 (pv 0)) (by rfl) T.b_isinstance (by rfl) T.b_ValueError (by kernel_rfl)) Qh)))))))
      (Qi (Zs (i:=1) nd rfl (Or.inl rfl) (Qam YZ (Qa 1 (pv 1)) (EO.em (Ze (Qb (QR (x := "NotTurn") V.is_NotTurn (Qa 0 (pv 0)) (by rfl) T.b_isinstance (by rfl) V.mg_NotTurn) (Qb (QR (x := "NoDoubt") V.is_NoDoubt (Qa 0 (pv 0)) (by rfl) T.b_isinstance (by rfl) V.mg_NoDoubt) (Qb (QR (x := "NoReply") V.is_NoReply (Qa 0 (pv 0)) (by rfl) T.b_isinstance (by rfl) V.mg_NoReply) (Qb (QR (x := "NoAsk") V.is_NoAsk (Qa 0 (pv 0)) (by rfl) T.b_isinstance (by rfl) V.mg_NoAsk) Qh))))))))
      (Ql (Qca (Qam YZ (Qa 1 (pv 1)) (EO.em (Ze (Qb (QR (x := "NoWord") V.is_NoWord (Qa 0 (pv 0)) (by rfl) T.b_isinstance (by rfl) V.mg_NoWord) (Qb (QR (x := "NotGuess") V.is_NotGuess (Qa 0 (pv 0)) (by rfl) T.b_isinstance (by rfl) V.mg_NotGuess) (Qb (QR (x := "NotTold") V.is_NotTold (Qa 0 (pv 0)) (by rfl) T.b_isinstance (by rfl) V.mg_NotTold) Qh)))))))))))
noncomputable abbrev ZP:Stmt:=top 36
noncomputable def Qbo:List Str:=["place","made","k","e"]
theorem QdD {P:Program} {w:World} {K:PySem.W.Frag} {mg:Str→Option Value} {base:Heap} {f:Addr} {fd:FuncData} (T:Txt K mg) {C:Nat→Addr} (V:WExc K mg C) (ci_Headed:CalI P w K mg base 1 (C 5) "row") (ci_NoRow:CalI P w K mg base 1 (C 2) "row") (ci_RowError:CalI P w K mg base 1 (C 1) "row") (ci_TooMany:CalI P w K mg base 1 (C 3) "row") (ci_Twice:CalI P w K mg base 1 (C 4) "row") (c__law_due_kinds:Cal P w K mg base 1 "_law_due_kinds" 1 Qt) (c__law_whole:Cal P w K mg base 1 "_law_whole" 1 QL) (c__law_kinds:Cal P w K mg base 1 "_law_kinds" 1 (QT C)) (F:Fun K "_law_made" "_law_made" ZP f fd):FnOk P w K mg base CX0 3 f fd ["place"] (spM K 1 (Zx C)):=by
  have sc:FnScope Qbo ["place"] (Qf ZP):=⟨rfl,rfl,rfl,by decide +kernel,rfl,by decide +kernel,by decide +kernel⟩
  have nd:=sc.nd
  refine fnM (N:=Qbo) (k:=2) F sc rfl fun cdv A outer s H E hr => ?_
  exact (Qi (Zs (i:=1) nd rfl (Or.inl rfl) (Ze (Qb (QaX ci_RowError.mk V.be_RowError (hr.mono (by decide)) (by rfl) V.mg_RowError (Qb (Qa 0 (pv 0)) Qh)) (Qb (QaX ci_NoRow.mk V.be_NoRow (hr.mono (by decide)) (by rfl) V.mg_NoRow (Qb (Qa 0 (pv 0)) Qh)) (Qb (QaX ci_TooMany.mk V.be_TooMany (hr.mono (by decide)) (by rfl) V.mg_TooMany (Qb (Qa 0 (pv 0)) Qh)) (Qb (QaX ci_Twice.mk V.be_Twice (hr.mono (by decide)) (by rfl) V.mg_Twice (Qb (Qa 0 (pv 0)) Qh)) (Qb (QaX ci_Headed.mk V.be_Headed (hr.mono (by decide)) (by rfl) V.mg_Headed (Qb (Qa 0 (pv 0)) Qh)) Qh)))))))
      (Qi (YO PassesOwn.never rfl (ZM (by rfl) T.b_range (YB Qh)) (ZA (Zn (i:=2) nd rfl (Or.inl rfl))) (Qi (QV (i:=3) nd rfl (Or.inl rfl) (Qs Qr (Qa 1 (pv 1)) (Qa 2 (pv 2)) (fun _ _=>rfl)))
      (Ql (Zo (WM.tm (XM (Qx (Qal hr.units) (QW c__law_kinds (XY C) (hr.mono (by decide)) (by rfl) (Qb (Qa 3 (pv 3)) Qh)) (QW c__law_due_kinds ZZ (hr.mono (by decide)) (by rfl) (Qb (Qv om_sub (Qa 2 (pv 2)) Qe) Qh)) (Qu _)) (XM (Yi (Zc (QW c__law_whole YL (hr.mono (by decide)) (by rfl) (Qb (QdQ (Qa 3 (pv 3)) V.fld) Qh)))) (YW (Qx (Qal hr.units) (QdQ (Qa 3 (pv 3)) V.fld) (Qa 0 (pv 0)) (Qu _)))))) (Ql (Qy Yx)) QE))))
      (Ql (Qy Yx))))
noncomputable abbrev ZB:Stmt:=top 26
noncomputable def Qax:List Str:=["drawn","base","names","k","words","size"]
theorem QcA {P:Program} {w:World} {K:PySem.W.Frag} {mg:Str→Option Value} {base:Heap} {f:Addr} {fd:FuncData} (T:Txt K mg) (c__law_fresh:Cal P w K mg base 1 "_law_fresh" 2 QD) (F:Fun K "_law_words" "_law_words" ZB f fd):FnOk P w K mg base CX0 2 f fd ["drawn"] (spO K 1 Zp):=by
  have sc:FnScope Qax ["drawn"] (Qf ZB):=⟨rfl,rfl,rfl,by decide +kernel,rfl,by decide +kernel,by decide +kernel⟩
  have nd:=sc.nd
  refine fnO (N:=Qax) (k:=1) F sc rfl fun cdv A outer s H E hr => ?_
  exact (Qi (QV (i:=1) nd rfl (Or.inl rfl) (QW c__law_fresh Zk (hr.mono (by decide)) (by rfl) (Qb (Qs Qr (Qa 0 (pv 0)) Qe (fun _ _=>rfl)) (Qb (Qv Zu Qe (Qv QG (Qs Qr (Qa 0 (pv 0)) Qe (fun _ _=>rfl)) Qe)) Qh))))
      (Qi (Zs (i:=2) nd rfl (Or.inl rfl) (Ze (Qb (Qa 1 (pv 1)) (Qb (QW c__law_fresh Zk (hr.mono (by decide)) (by rfl) (Qb (Qs Qr (Qa 0 (pv 0)) Qe (fun _ _=>rfl)) (Qb (Qv Zu Qe (Qv QG (Qs Qr (Qa 0 (pv 0)) Qe (fun _ _=>rfl)) Qe)) Qh))) Qh))))
      (Qi (YO PassesOwn.never rfl (ZM (by rfl) T.b_range (YB Qh)) (ZA (Zn (i:=3) nd rfl (Or.inl rfl))) (Ql (QfK (i:=2) (pv 2) (QW c__law_fresh Zk (hr.mono (by decide)) (by rfl) (Qb (Qs Qr (Qa 0 (pv 0)) (Qv Zu Qe (Qa 3 (pv 3))) (fun _ _=>rfl)) (Qb (Qw QY (by rfl) T.b_len PySem.boot_len (Qb (Qa 1 (pv 1)) Qh)) Qh))) (QaW (Qdt PySem.F.plainAttrs_list PySem.F.slot_list_append PySem.F.type_list_append XH (pv 2) (QaQ (QW c__law_fresh Zk (hr.mono (by decide)) (by rfl) (Qb (Qs Qr (Qa 0 (pv 0)) (Qv Zu Qe (Qa 3 (pv 3))) (fun _ _=>rfl)) (Qb (Qw QY (by rfl) T.b_len PySem.boot_len (Qb (Qa 1 (pv 1)) Qh)) Qh)))))))))
      (Qi (Zo (Qx (ZJ hr.units) (Qv QG (Qs Qr (Qa 0 (pv 0)) Qe (fun _ _=>rfl)) Qe) Qe (Qu _)) (Ql (Qca (Ze (Qb QQ (Qb (Qs Qr (Qa 2 (pv 2)) Qe (fun _ _=>rfl)) (Qb QQ (Qb (Qs Qr (Qa 2 (pv 2)) (Qv QG (Qs Qr (Qa 0 (pv 0)) Qe (fun _ _=>rfl)) Qe) (fun _ _=>rfl)) Qh))))))) QE)
      (Qi (Zs (i:=4) nd rfl (Or.inl rfl) (Ze (Qb (Qs Qr (Qa 2 (pv 2)) Qe (fun _ _=>rfl)) (Qaa Qh))))
      (Qi (QV (i:=5) nd rfl (Or.inl rfl) (Qv QG (Qs Qr (Qa 0 (pv 0)) Qe (fun _ _=>rfl)) Qe))
      (Qi (YO PassesOwn.never rfl (ZM (by rfl) T.b_range (Qb (Qa 5 (pv 5)) Qh)) (ZA (Zn (i:=3) nd rfl (Or.inl rfl))) (Ql (QfK (i:=4) (pv 4) (Qs Qr (Qa 2 (pv 2)) (Qa 3 (pv 3)) (fun _ _=>rfl)) (QaW (Qdt PySem.F.plainAttrs_list PySem.F.slot_list_append PySem.F.type_list_append XH (pv 4) (QaQ (Qs Qr (Qa 2 (pv 2)) (Qa 3 (pv 3)) (fun _ _=>rfl))))))))
      (Qi (Zo (WM.tm (Xt (Qx QfB (Qa 5 (pv 5)) Qe (Qu _)) (Xk (Qx (ZJ hr.units) (Qv QG (Qs Qr (Qa 0 (pv 0)) Qe (fun _ _=>rfl)) Qe) Qe (Qu _))))) (Ql (Qex (i:=4) (pv 4) (Qs Qr (Qa 4 (pv 4)) (Qv Zu Qe (Qv QG (Qs Qr (Qa 0 (pv 0)) Qe (fun _ _=>rfl)) (Qa 5 (pv 5)))) (fun _ _=>rfl)) (Qv Zu Qe (Qv QG (Qs Qr (Qa 0 (pv 0)) Qe (fun _ _=>rfl)) (Qa 5 (pv 5)))))) QE)
      (Qi (Zo (WM.tm (Xt (Qx (ZJ hr.units) (Qa 5 (pv 5)) Qe (Qu _)) (Xk (Qx QfB (Qv QG (Qs Qr (Qa 0 (pv 0)) Qe (fun _ _=>rfl)) Qe) Qe (Qu _))))) (Ql (Qca (Ze (Qb (Qs Qr (Qa 2 (pv 2)) Qe (fun _ _=>rfl)) Qh)))) QE)
      (Ql (QaV 4 (pv 4))))))))))))
noncomputable abbrev Qbx:Stmt:=top 38
noncomputable def N_law:List Str:=["script","cell","drawn","line","place"]
theorem ok_law {P:Program} {w:World} {K:PySem.W.Frag} {mg:Str→Option Value} {base:Heap} {f:Addr} {fd:FuncData} (T:Txt K mg) {C:Nat→Addr} (V:WExc K mg C) (c__law_draws:Cal P w K mg base 1 "_law_draws" 2 Zr) (c__law_spoiled:Cal P w K mg base 1 "_law_spoiled" 2 QF) (c__law_turned:CalW P w K mg base 3 "_law_turned" 2 Zi) (c__law_right:Cal P w K mg base 5 "_law_right" 3 (QS C)) (c__law_made:Cal P w K mg base 3 "_law_made" 1 (Zx C)) (c__law_words:CalO P w K mg base 2 "_law_words" 1 Zp) (F:Fun K "law" "law" Qbx f fd):FnOk P w K mg base CX0 6 f fd ["script"] (spM K 1 (XG C)):=by
  have sc:FnScope N_law ["script"] (Qf Qbx):=⟨rfl,rfl,rfl,by decide +kernel,rfl,by decide +kernel,by decide +kernel⟩
  have nd:=sc.nd
  refine fnM (N:=N_law) (k:=5) F sc rfl fun cdv A outer s H E hr => ?_
  exact (Qi (QfJ PassesOwn.never rfl (QfR (EO.em (Qam YZ (EO.em (QbE (Qa 0 (pv 0)) YS (YR Qe))) (EO.em (Ze (Qb (Qw QY (by rfl) T.b_len PySem.boot_len (Qb (Qa 0 (pv 0)) Qh)) Qh)))))) (ZA (Zn (i:=1) nd rfl (Or.inl rfl))) (Qi (QV (i:=2) nd rfl (Or.inl rfl) (QW c__law_draws QaT (hr.mono (by decide)) (by rfl) (Qb (Qa 1 (pv 1)) (YB Qh))))
      (Qi (QV (i:=3) nd rfl (Or.inl rfl) (QW c__law_spoiled Xn (hr.mono (by decide)) (by rfl) (Qb (em_join QQ (Qb (em_calW c__law_turned Qag (hr.mono (by decide)) (by rfl) (eo_cal c__law_words QaR (hr.mono (by decide)) (by rfl) (Qb (Qa 2 (pv 2)) Qh)) (Qb (Qa 2 (pv 2)) Qh)) Qh)) (Qb (Qa 2 (pv 2)) Qh))))
      (Qi (QV (i:=4) nd rfl (Or.inl rfl) (Qs Qr (EO.em (Ze (Qb (Qv QG (Qs Qr (Qa 2 (pv 2)) Qe (fun _ _=>rfl)) Qe) (Qb (Qv Zu (Qv om_mulB (Qv QG (Qa 1 (pv 1)) (Qv om_pow Qe Qe)) Qe) (Qv QG (Qs Qr (Qa 2 (pv 2)) Qe (fun _ _=>rfl)) Qe)) Qh)))) (Qv QG (Qs Qr (Qa 2 (pv 2)) Qe (fun _ _=>rfl)) Qe) (fun _ _=>rfl)))
      (Ql (Zo (WM.tm (XM (Yi (Zc (QW c__law_right (XX C) (hr.mono (by decide)) (by rfl) (Qb (Qa 3 (pv 3)) (Qb (Xa (ZJ hr.units) (Qv QG (Qs Qr (Qa 2 (pv 2)) Qe (fun _ _=>rfl)) Qe) Qe (Qu _)) (Qb (Qa 4 (pv 4)) Qh)))))) (YW (Yi (Zc (QW c__law_made (Qbr C) (hr.mono (by decide)) (by rfl) (Qb (Qa 4 (pv 4)) Qh))))))) (Ql (Qy Yx)) QE))))))
      (Ql (Qy Yx)))
theorem all_mk {l:PySem.W.OpenLaw} {w:World} {K:PySem.W.Frag} {h:Heap} {mg:Str→Option Value} {fa:Addr} (hlaw:∀ (C:Nat→Addr),([C 1,C 2,C 3,C 4,C 5]:List Addr).Nodup→∀ (ns:List Int),ns.length≤63→XG C [.lst (ns.map .int)]=some (.bl true)) (X:K.In h) (G:h.Ns mainGlobals mg) (hfa:mg "law"=some (.ref fa))
    {f0:Addr} {od0 an0:Option Addr} {sl0:Array (Option Value)} {oc0 kV0 dc0 pm0 cd0 ct0:Value}
    {f1:Addr} {od1 an1:Option Addr} {sl1:Array (Option Value)} {oc1 kV1 dc1 pm1 cd1 ct1:Value}
    {f2:Addr} {od2 an2:Option Addr} {sl2:Array (Option Value)} {oc2 kV2 dc2 pm2 cd2 ct2:Value}
    {f3:Addr} {od3 an3:Option Addr} {sl3:Array (Option Value)} {oc3 kV3 dc3 pm3 cd3 ct3:Value}
    {f4:Addr} {od4 an4:Option Addr} {sl4:Array (Option Value)} {oc4 kV4 dc4 pm4 cd4 ct4:Value}
    {f5:Addr} {od5 an5:Option Addr} {sl5:Array (Option Value)} {oc5 kV5 dc5 pm5 cd5 ct5:Value}
    {f6:Addr} {od6 an6:Option Addr} {sl6:Array (Option Value)} {oc6 kV6 dc6 pm6 cd6 ct6:Value}
    {f7:Addr} {od7 an7:Option Addr} {sl7:Array (Option Value)} {oc7 kV7 dc7 pm7 cd7 ct7:Value}
    {f8:Addr} {od8 an8:Option Addr} {sl8:Array (Option Value)} {oc8 kV8 dc8 pm8 cd8 ct8:Value}
    {f9:Addr} {od9 an9:Option Addr} {sl9:Array (Option Value)} {oc9 kV9 dc9 pm9 cd9 ct9:Value}
    {f10:Addr} {od10 an10:Option Addr} {sl10:Array (Option Value)} {oc10 kV10 dc10 pm10 cd10 ct10:Value}
    {f11:Addr} {od11 an11:Option Addr} {sl11:Array (Option Value)} {oc11 kV11 dc11 pm11 cd11 ct11:Value} {T11:Addr} {tc11:Value} {td11:Option Addr} {ts11:Array (Option Value)} {tk11:Tok} {tn11:Nat}
    {f12:Addr} {od12 an12:Option Addr} {sl12:Array (Option Value)} {oc12 kV12 dc12 pm12 cd12 ct12:Value}
    {f13:Addr} {od13 an13:Option Addr} {sl13:Array (Option Value)} {oc13 kV13 dc13 pm13 cd13 ct13:Value}
    {f14:Addr} {od14 an14:Option Addr} {sl14:Array (Option Value)} {oc14 kV14 dc14 pm14 cd14 ct14:Value}
    {f15:Addr} {od15 an15:Option Addr} {sl15:Array (Option Value)} {oc15 kV15 dc15 pm15 cd15 ct15:Value}
    {f16:Addr} {od16 an16:Option Addr} {sl16:Array (Option Value)} {oc16 kV16 dc16 pm16 cd16 ct16:Value}
    {f17:Addr} {od17 an17:Option Addr} {sl17:Array (Option Value)} {oc17 kV17 dc17 pm17 cd17 ct17:Value}
    {f18:Addr} {od18 an18:Option Addr} {sl18:Array (Option Value)} {oc18 kV18 dc18 pm18 cd18 ct18:Value}
    {f19:Addr} {od19 an19:Option Addr} {sl19:Array (Option Value)} {oc19 kV19 dc19 pm19 cd19 ct19:Value}
    {f20:Addr} {od20 an20:Option Addr} {sl20:Array (Option Value)} {oc20 kV20 dc20 pm20 cd20 ct20:Value}
    {x_HallError x_RowError x_NoRow x_TooMany x_Twice x_Headed x_NotTurn x_NoDoubt x_NoReply x_NoAsk x_NoWord x_NotGuess x_NotTold:Addr}
    {gt_MOST_IN_BODY:Tok}
    {gt_MOST_LETTERS:Tok}
    {ga_NO_WORDS:Addr} {gs_NO_WORDS:Array (Option Value)} {gn_NO_WORDS:Nat} {gk0_NO_WORDS:Tok} {gk1_NO_WORDS:Tok} {gk2_NO_WORDS:Tok}
    (isn:PySem.W.specialIn K (.builtin "object.__class__") "__get__"=some (some (.builtin "getset_descriptor.__get__")))
    (ist:PySem.W.takesIn K (.builtin "object.__class__")=some true)
    (xa_HallError:PySem.W.nsIn K mainGlobals "HallError"=some (some (.ref x_HallError)))
    (xa_RowError:PySem.W.nsIn K mainGlobals "RowError"=some (some (.ref x_RowError)))
    (xa_NoRow:PySem.W.nsIn K mainGlobals "NoRow"=some (some (.ref x_NoRow)))
    (xa_TooMany:PySem.W.nsIn K mainGlobals "TooMany"=some (some (.ref x_TooMany)))
    (xa_Twice:PySem.W.nsIn K mainGlobals "Twice"=some (some (.ref x_Twice)))
    (xa_Headed:PySem.W.nsIn K mainGlobals "Headed"=some (some (.ref x_Headed)))
    (xa_NotTurn:PySem.W.nsIn K mainGlobals "NotTurn"=some (some (.ref x_NotTurn)))
    (xa_NoDoubt:PySem.W.nsIn K mainGlobals "NoDoubt"=some (some (.ref x_NoDoubt)))
    (xa_NoReply:PySem.W.nsIn K mainGlobals "NoReply"=some (some (.ref x_NoReply)))
    (xa_NoAsk:PySem.W.nsIn K mainGlobals "NoAsk"=some (some (.ref x_NoAsk)))
    (xa_NoWord:PySem.W.nsIn K mainGlobals "NoWord"=some (some (.ref x_NoWord)))
    (xa_NotGuess:PySem.W.nsIn K mainGlobals "NotGuess"=some (some (.ref x_NotGuess)))
    (xa_NotTold:PySem.W.nsIn K mainGlobals "NotTold"=some (some (.ref x_NotTold)))
    (xy_HallError:PySem.W.typeIn K (.ref x_HallError)=some (.type "type"))
    (xk_HallError:PySem.W.isClsIn K x_HallError=true)
    (xg_RowError:PySem.W.findIn K (.ref x_RowError) "__getattribute__"=some (some (.builtin "BaseException.__getattribute__")))
    (xh_RowError:PySem.W.findIn K (.ref x_RowError) "__getattr__"=some none)
    (xb_RowError:PySem.W.mroIn K x_RowError (.type "BaseException")=some true)
    (xo_RowError:PySem.W.mroIn K x_RowError (.type "object")=some true)
    (xc_RowError:PySem.W.findIn K (.ref x_RowError) "__class__"=some (some (.builtin "object.__class__")))
    (xno_RowError:PySem.W.findIn K (.ref x_RowError) "row"=some none)
    (xhd_RowError:PySem.W.hasDictIn K x_RowError=true)
    (xnw_RowError:Yr K x_RowError=true)
    (xsa_RowError:PySem.W.findIn K (.ref x_RowError) "__setattr__"=some (some (.builtin "object.__setattr__")))
    (xi_RowError:PySem.W.findIn K (.ref x_RowError) "__init__"=some (some (.ref f10)))
    (xkp_RowError:PySem.W.keepIn K (.ref x_RowError)=true)
    (xy_RowError:PySem.W.typeIn K (.ref x_RowError)=some (.type "type"))
    (xk_RowError:PySem.W.isClsIn K x_RowError=true)
    (xg_NoRow:PySem.W.findIn K (.ref x_NoRow) "__getattribute__"=some (some (.builtin "BaseException.__getattribute__")))
    (xh_NoRow:PySem.W.findIn K (.ref x_NoRow) "__getattr__"=some none)
    (xb_NoRow:PySem.W.mroIn K x_NoRow (.type "BaseException")=some true)
    (xo_NoRow:PySem.W.mroIn K x_NoRow (.type "object")=some true)
    (xc_NoRow:PySem.W.findIn K (.ref x_NoRow) "__class__"=some (some (.builtin "object.__class__")))
    (xno_NoRow:PySem.W.findIn K (.ref x_NoRow) "row"=some none)
    (xhd_NoRow:PySem.W.hasDictIn K x_NoRow=true)
    (xnw_NoRow:Yr K x_NoRow=true)
    (xsa_NoRow:PySem.W.findIn K (.ref x_NoRow) "__setattr__"=some (some (.builtin "object.__setattr__")))
    (xi_NoRow:PySem.W.findIn K (.ref x_NoRow) "__init__"=some (some (.ref f10)))
    (xkp_NoRow:PySem.W.keepIn K (.ref x_NoRow)=true)
    (xy_NoRow:PySem.W.typeIn K (.ref x_NoRow)=some (.type "type"))
    (xk_NoRow:PySem.W.isClsIn K x_NoRow=true)
    (xg_TooMany:PySem.W.findIn K (.ref x_TooMany) "__getattribute__"=some (some (.builtin "BaseException.__getattribute__")))
    (xh_TooMany:PySem.W.findIn K (.ref x_TooMany) "__getattr__"=some none)
    (xb_TooMany:PySem.W.mroIn K x_TooMany (.type "BaseException")=some true)
    (xo_TooMany:PySem.W.mroIn K x_TooMany (.type "object")=some true)
    (xc_TooMany:PySem.W.findIn K (.ref x_TooMany) "__class__"=some (some (.builtin "object.__class__")))
    (xno_TooMany:PySem.W.findIn K (.ref x_TooMany) "row"=some none)
    (xhd_TooMany:PySem.W.hasDictIn K x_TooMany=true)
    (xnw_TooMany:Yr K x_TooMany=true)
    (xsa_TooMany:PySem.W.findIn K (.ref x_TooMany) "__setattr__"=some (some (.builtin "object.__setattr__")))
    (xi_TooMany:PySem.W.findIn K (.ref x_TooMany) "__init__"=some (some (.ref f10)))
    (xkp_TooMany:PySem.W.keepIn K (.ref x_TooMany)=true)
    (xy_TooMany:PySem.W.typeIn K (.ref x_TooMany)=some (.type "type"))
    (xk_TooMany:PySem.W.isClsIn K x_TooMany=true)
    (xg_Twice:PySem.W.findIn K (.ref x_Twice) "__getattribute__"=some (some (.builtin "BaseException.__getattribute__")))
    (xh_Twice:PySem.W.findIn K (.ref x_Twice) "__getattr__"=some none)
    (xb_Twice:PySem.W.mroIn K x_Twice (.type "BaseException")=some true)
    (xo_Twice:PySem.W.mroIn K x_Twice (.type "object")=some true)
    (xc_Twice:PySem.W.findIn K (.ref x_Twice) "__class__"=some (some (.builtin "object.__class__")))
    (xno_Twice:PySem.W.findIn K (.ref x_Twice) "row"=some none)
    (xhd_Twice:PySem.W.hasDictIn K x_Twice=true)
    (xnw_Twice:Yr K x_Twice=true)
    (xsa_Twice:PySem.W.findIn K (.ref x_Twice) "__setattr__"=some (some (.builtin "object.__setattr__")))
    (xi_Twice:PySem.W.findIn K (.ref x_Twice) "__init__"=some (some (.ref f10)))
    (xkp_Twice:PySem.W.keepIn K (.ref x_Twice)=true)
    (xy_Twice:PySem.W.typeIn K (.ref x_Twice)=some (.type "type"))
    (xk_Twice:PySem.W.isClsIn K x_Twice=true)
    (xg_Headed:PySem.W.findIn K (.ref x_Headed) "__getattribute__"=some (some (.builtin "BaseException.__getattribute__")))
    (xh_Headed:PySem.W.findIn K (.ref x_Headed) "__getattr__"=some none)
    (xb_Headed:PySem.W.mroIn K x_Headed (.type "BaseException")=some true)
    (xo_Headed:PySem.W.mroIn K x_Headed (.type "object")=some true)
    (xc_Headed:PySem.W.findIn K (.ref x_Headed) "__class__"=some (some (.builtin "object.__class__")))
    (xno_Headed:PySem.W.findIn K (.ref x_Headed) "row"=some none)
    (xhd_Headed:PySem.W.hasDictIn K x_Headed=true)
    (xnw_Headed:Yr K x_Headed=true)
    (xsa_Headed:PySem.W.findIn K (.ref x_Headed) "__setattr__"=some (some (.builtin "object.__setattr__")))
    (xi_Headed:PySem.W.findIn K (.ref x_Headed) "__init__"=some (some (.ref f10)))
    (xkp_Headed:PySem.W.keepIn K (.ref x_Headed)=true)
    (xy_Headed:PySem.W.typeIn K (.ref x_Headed)=some (.type "type"))
    (xk_Headed:PySem.W.isClsIn K x_Headed=true)
    (xy_NotTurn:PySem.W.typeIn K (.ref x_NotTurn)=some (.type "type"))
    (xk_NotTurn:PySem.W.isClsIn K x_NotTurn=true)
    (xy_NoDoubt:PySem.W.typeIn K (.ref x_NoDoubt)=some (.type "type"))
    (xk_NoDoubt:PySem.W.isClsIn K x_NoDoubt=true)
    (xy_NoReply:PySem.W.typeIn K (.ref x_NoReply)=some (.type "type"))
    (xk_NoReply:PySem.W.isClsIn K x_NoReply=true)
    (xy_NoAsk:PySem.W.typeIn K (.ref x_NoAsk)=some (.type "type"))
    (xk_NoAsk:PySem.W.isClsIn K x_NoAsk=true)
    (xy_NoWord:PySem.W.typeIn K (.ref x_NoWord)=some (.type "type"))
    (xk_NoWord:PySem.W.isClsIn K x_NoWord=true)
    (xy_NotGuess:PySem.W.typeIn K (.ref x_NotGuess)=some (.type "type"))
    (xk_NotGuess:PySem.W.isClsIn K x_NotGuess=true)
    (xy_NotTold:PySem.W.typeIn K (.ref x_NotTold)=some (.type "type"))
    (xk_NotTold:PySem.W.isClsIn K x_NotTold=true)
    (xv_RowError:PySem.W.mroIn K x_RowError (.type "ValueError")=some true)
    (xs_RowError_HallError:PySem.W.mroIn K x_RowError (.ref x_HallError)=some true)
    (xs_RowError_RowError:PySem.W.mroIn K x_RowError (.ref x_RowError)=some true)
    (xs_RowError_NoRow:PySem.W.mroIn K x_RowError (.ref x_NoRow)=some false)
    (ne_RowError_NoRow:(x_RowError==x_NoRow)=false)
    (xs_RowError_TooMany:PySem.W.mroIn K x_RowError (.ref x_TooMany)=some false)
    (ne_RowError_TooMany:(x_RowError==x_TooMany)=false)
    (xs_RowError_Twice:PySem.W.mroIn K x_RowError (.ref x_Twice)=some false)
    (ne_RowError_Twice:(x_RowError==x_Twice)=false)
    (xs_RowError_Headed:PySem.W.mroIn K x_RowError (.ref x_Headed)=some false)
    (ne_RowError_Headed:(x_RowError==x_Headed)=false)
    (xs_RowError_NotTurn:PySem.W.mroIn K x_RowError (.ref x_NotTurn)=some false)
    (ne_RowError_NotTurn:(x_RowError==x_NotTurn)=false)
    (xs_RowError_NoDoubt:PySem.W.mroIn K x_RowError (.ref x_NoDoubt)=some false)
    (ne_RowError_NoDoubt:(x_RowError==x_NoDoubt)=false)
    (xs_RowError_NoReply:PySem.W.mroIn K x_RowError (.ref x_NoReply)=some false)
    (ne_RowError_NoReply:(x_RowError==x_NoReply)=false)
    (xs_RowError_NoAsk:PySem.W.mroIn K x_RowError (.ref x_NoAsk)=some false)
    (ne_RowError_NoAsk:(x_RowError==x_NoAsk)=false)
    (xs_RowError_NoWord:PySem.W.mroIn K x_RowError (.ref x_NoWord)=some false)
    (ne_RowError_NoWord:(x_RowError==x_NoWord)=false)
    (xs_RowError_NotGuess:PySem.W.mroIn K x_RowError (.ref x_NotGuess)=some false)
    (ne_RowError_NotGuess:(x_RowError==x_NotGuess)=false)
    (xs_RowError_NotTold:PySem.W.mroIn K x_RowError (.ref x_NotTold)=some false)
    (ne_RowError_NotTold:(x_RowError==x_NotTold)=false)
    (xv_NoRow:PySem.W.mroIn K x_NoRow (.type "ValueError")=some true)
    (xs_NoRow_HallError:PySem.W.mroIn K x_NoRow (.ref x_HallError)=some true)
    (xs_NoRow_RowError:PySem.W.mroIn K x_NoRow (.ref x_RowError)=some true)
    (xs_NoRow_NoRow:PySem.W.mroIn K x_NoRow (.ref x_NoRow)=some true)
    (xs_NoRow_TooMany:PySem.W.mroIn K x_NoRow (.ref x_TooMany)=some false)
    (ne_NoRow_TooMany:(x_NoRow==x_TooMany)=false)
    (xs_NoRow_Twice:PySem.W.mroIn K x_NoRow (.ref x_Twice)=some false)
    (ne_NoRow_Twice:(x_NoRow==x_Twice)=false)
    (xs_NoRow_Headed:PySem.W.mroIn K x_NoRow (.ref x_Headed)=some false)
    (ne_NoRow_Headed:(x_NoRow==x_Headed)=false)
    (xs_NoRow_NotTurn:PySem.W.mroIn K x_NoRow (.ref x_NotTurn)=some false)
    (ne_NoRow_NotTurn:(x_NoRow==x_NotTurn)=false)
    (xs_NoRow_NoDoubt:PySem.W.mroIn K x_NoRow (.ref x_NoDoubt)=some false)
    (ne_NoRow_NoDoubt:(x_NoRow==x_NoDoubt)=false)
    (xs_NoRow_NoReply:PySem.W.mroIn K x_NoRow (.ref x_NoReply)=some false)
    (ne_NoRow_NoReply:(x_NoRow==x_NoReply)=false)
    (xs_NoRow_NoAsk:PySem.W.mroIn K x_NoRow (.ref x_NoAsk)=some false)
    (ne_NoRow_NoAsk:(x_NoRow==x_NoAsk)=false)
    (xs_NoRow_NoWord:PySem.W.mroIn K x_NoRow (.ref x_NoWord)=some false)
    (ne_NoRow_NoWord:(x_NoRow==x_NoWord)=false)
    (xs_NoRow_NotGuess:PySem.W.mroIn K x_NoRow (.ref x_NotGuess)=some false)
    (ne_NoRow_NotGuess:(x_NoRow==x_NotGuess)=false)
    (xs_NoRow_NotTold:PySem.W.mroIn K x_NoRow (.ref x_NotTold)=some false)
    (ne_NoRow_NotTold:(x_NoRow==x_NotTold)=false)
    (xv_TooMany:PySem.W.mroIn K x_TooMany (.type "ValueError")=some true)
    (xs_TooMany_HallError:PySem.W.mroIn K x_TooMany (.ref x_HallError)=some true)
    (xs_TooMany_RowError:PySem.W.mroIn K x_TooMany (.ref x_RowError)=some true)
    (xs_TooMany_NoRow:PySem.W.mroIn K x_TooMany (.ref x_NoRow)=some false)
    (ne_TooMany_NoRow:(x_TooMany==x_NoRow)=false)
    (xs_TooMany_TooMany:PySem.W.mroIn K x_TooMany (.ref x_TooMany)=some true)
    (xs_TooMany_Twice:PySem.W.mroIn K x_TooMany (.ref x_Twice)=some false)
    (ne_TooMany_Twice:(x_TooMany==x_Twice)=false)
    (xs_TooMany_Headed:PySem.W.mroIn K x_TooMany (.ref x_Headed)=some false)
    (ne_TooMany_Headed:(x_TooMany==x_Headed)=false)
    (xs_TooMany_NotTurn:PySem.W.mroIn K x_TooMany (.ref x_NotTurn)=some false)
    (ne_TooMany_NotTurn:(x_TooMany==x_NotTurn)=false)
    (xs_TooMany_NoDoubt:PySem.W.mroIn K x_TooMany (.ref x_NoDoubt)=some false)
    (ne_TooMany_NoDoubt:(x_TooMany==x_NoDoubt)=false)
    (xs_TooMany_NoReply:PySem.W.mroIn K x_TooMany (.ref x_NoReply)=some false)
    (ne_TooMany_NoReply:(x_TooMany==x_NoReply)=false)
    (xs_TooMany_NoAsk:PySem.W.mroIn K x_TooMany (.ref x_NoAsk)=some false)
    (ne_TooMany_NoAsk:(x_TooMany==x_NoAsk)=false)
    (xs_TooMany_NoWord:PySem.W.mroIn K x_TooMany (.ref x_NoWord)=some false)
    (ne_TooMany_NoWord:(x_TooMany==x_NoWord)=false)
    (xs_TooMany_NotGuess:PySem.W.mroIn K x_TooMany (.ref x_NotGuess)=some false)
    (ne_TooMany_NotGuess:(x_TooMany==x_NotGuess)=false)
    (xs_TooMany_NotTold:PySem.W.mroIn K x_TooMany (.ref x_NotTold)=some false)
    (ne_TooMany_NotTold:(x_TooMany==x_NotTold)=false)
    (xv_Twice:PySem.W.mroIn K x_Twice (.type "ValueError")=some true)
    (xs_Twice_HallError:PySem.W.mroIn K x_Twice (.ref x_HallError)=some true)
    (xs_Twice_RowError:PySem.W.mroIn K x_Twice (.ref x_RowError)=some true)
    (xs_Twice_NoRow:PySem.W.mroIn K x_Twice (.ref x_NoRow)=some false)
    (ne_Twice_NoRow:(x_Twice==x_NoRow)=false)
    (xs_Twice_TooMany:PySem.W.mroIn K x_Twice (.ref x_TooMany)=some false)
    (ne_Twice_TooMany:(x_Twice==x_TooMany)=false)
    (xs_Twice_Twice:PySem.W.mroIn K x_Twice (.ref x_Twice)=some true)
    (xs_Twice_Headed:PySem.W.mroIn K x_Twice (.ref x_Headed)=some false)
    (ne_Twice_Headed:(x_Twice==x_Headed)=false)
    (xs_Twice_NotTurn:PySem.W.mroIn K x_Twice (.ref x_NotTurn)=some false)
    (ne_Twice_NotTurn:(x_Twice==x_NotTurn)=false)
    (xs_Twice_NoDoubt:PySem.W.mroIn K x_Twice (.ref x_NoDoubt)=some false)
    (ne_Twice_NoDoubt:(x_Twice==x_NoDoubt)=false)
    (xs_Twice_NoReply:PySem.W.mroIn K x_Twice (.ref x_NoReply)=some false)
    (ne_Twice_NoReply:(x_Twice==x_NoReply)=false)
    (xs_Twice_NoAsk:PySem.W.mroIn K x_Twice (.ref x_NoAsk)=some false)
    (ne_Twice_NoAsk:(x_Twice==x_NoAsk)=false)
    (xs_Twice_NoWord:PySem.W.mroIn K x_Twice (.ref x_NoWord)=some false)
    (ne_Twice_NoWord:(x_Twice==x_NoWord)=false)
    (xs_Twice_NotGuess:PySem.W.mroIn K x_Twice (.ref x_NotGuess)=some false)
    (ne_Twice_NotGuess:(x_Twice==x_NotGuess)=false)
    (xs_Twice_NotTold:PySem.W.mroIn K x_Twice (.ref x_NotTold)=some false)
    (ne_Twice_NotTold:(x_Twice==x_NotTold)=false)
    (xv_Headed:PySem.W.mroIn K x_Headed (.type "ValueError")=some true)
    (xs_Headed_HallError:PySem.W.mroIn K x_Headed (.ref x_HallError)=some true)
    (xs_Headed_RowError:PySem.W.mroIn K x_Headed (.ref x_RowError)=some true)
    (xs_Headed_NoRow:PySem.W.mroIn K x_Headed (.ref x_NoRow)=some false)
    (ne_Headed_NoRow:(x_Headed==x_NoRow)=false)
    (xs_Headed_TooMany:PySem.W.mroIn K x_Headed (.ref x_TooMany)=some false)
    (ne_Headed_TooMany:(x_Headed==x_TooMany)=false)
    (xs_Headed_Twice:PySem.W.mroIn K x_Headed (.ref x_Twice)=some false)
    (ne_Headed_Twice:(x_Headed==x_Twice)=false)
    (xs_Headed_Headed:PySem.W.mroIn K x_Headed (.ref x_Headed)=some true)
    (xs_Headed_NotTurn:PySem.W.mroIn K x_Headed (.ref x_NotTurn)=some false)
    (ne_Headed_NotTurn:(x_Headed==x_NotTurn)=false)
    (xs_Headed_NoDoubt:PySem.W.mroIn K x_Headed (.ref x_NoDoubt)=some false)
    (ne_Headed_NoDoubt:(x_Headed==x_NoDoubt)=false)
    (xs_Headed_NoReply:PySem.W.mroIn K x_Headed (.ref x_NoReply)=some false)
    (ne_Headed_NoReply:(x_Headed==x_NoReply)=false)
    (xs_Headed_NoAsk:PySem.W.mroIn K x_Headed (.ref x_NoAsk)=some false)
    (ne_Headed_NoAsk:(x_Headed==x_NoAsk)=false)
    (xs_Headed_NoWord:PySem.W.mroIn K x_Headed (.ref x_NoWord)=some false)
    (ne_Headed_NoWord:(x_Headed==x_NoWord)=false)
    (xs_Headed_NotGuess:PySem.W.mroIn K x_Headed (.ref x_NotGuess)=some false)
    (ne_Headed_NotGuess:(x_Headed==x_NotGuess)=false)
    (xs_Headed_NotTold:PySem.W.mroIn K x_Headed (.ref x_NotTold)=some false)
    (ne_Headed_NotTold:(x_Headed==x_NotTold)=false)
    (a0:PySem.W.nsIn K mainGlobals "_law_draws"=some (some (.ref f0)))
    (l0:K.lookup f0=some ⟨oc0,od0,.func (PySem.W.fnOf "_law_draws" "_law_draws" (Qq ZG) (Qm ZG) (Qf ZG) .none kV0 dc0 pm0 an0 cd0 ct0),sl0⟩)
    (c0:PySem.W.codeIn K cd0 "_law_draws"=true)
    (k0:PySem.W.keepIn K (.ref f0)=true)
    (a1:PySem.W.nsIn K mainGlobals "_law_spoiled"=some (some (.ref f1)))
    (l1:K.lookup f1=some ⟨oc1,od1,.func (PySem.W.fnOf "_law_spoiled" "_law_spoiled" (Qq Zm) (Qm Zm) (Qf Zm) .none kV1 dc1 pm1 an1 cd1 ct1),sl1⟩)
    (c1:PySem.W.codeIn K cd1 "_law_spoiled"=true)
    (k1:PySem.W.keepIn K (.ref f1)=true)
    (a2:PySem.W.nsIn K mainGlobals "_law_fresh"=some (some (.ref f2)))
    (l2:K.lookup f2=some ⟨oc2,od2,.func (PySem.W.fnOf "_law_fresh" "_law_fresh" (Qq ZF) (Qm ZF) (Qf ZF) .none kV2 dc2 pm2 an2 cd2 ct2),sl2⟩)
    (c2:PySem.W.codeIn K cd2 "_law_fresh"=true)
    (k2:PySem.W.keepIn K (.ref f2)=true)
    (a3:PySem.W.nsIn K mainGlobals "_law_odd_word"=some (some (.ref f3)))
    (l3:K.lookup f3=some ⟨oc3,od3,.func (PySem.W.fnOf "_law_odd_word" "_law_odd_word" (Qq Zb) (Qm Zb) (Qf Zb) .none kV3 dc3 pm3 an3 cd3 ct3),sl3⟩)
    (c3:PySem.W.codeIn K cd3 "_law_odd_word"=true)
    (k3:PySem.W.keepIn K (.ref f3)=true)
    (a4:PySem.W.nsIn K mainGlobals "_law_turned"=some (some (.ref f4)))
    (l4:K.lookup f4=some ⟨oc4,od4,.func (PySem.W.fnOf "_law_turned" "_law_turned" (Qq Zt) (Qm Zt) (Qf Zt) .none kV4 dc4 pm4 an4 cd4 ct4),sl4⟩)
    (c4:PySem.W.codeIn K cd4 "_law_turned"=true)
    (k4:PySem.W.keepIn K (.ref f4)=true)
    (a5:PySem.W.nsIn K mainGlobals "_law_word"=some (some (.ref f5)))
    (l5:K.lookup f5=some ⟨oc5,od5,.func (PySem.W.fnOf "_law_word" "_law_word" (Qq ZN) (Qm ZN) (Qf ZN) .none kV5 dc5 pm5 an5 cd5 ct5),sl5⟩)
    (c5:PySem.W.codeIn K cd5 "_law_word"=true)
    (k5:PySem.W.keepIn K (.ref f5)=true)
    (a6:PySem.W.nsIn K mainGlobals "_law_due"=some (some (.ref f6)))
    (l6:K.lookup f6=some ⟨oc6,od6,.func (PySem.W.fnOf "_law_due" "_law_due" (Qq Yh) (Qm Yh) (Qf Yh) .none kV6 dc6 pm6 an6 cd6 ct6),sl6⟩)
    (c6:PySem.W.codeIn K cd6 "_law_due"=true)
    (k6:PySem.W.keepIn K (.ref f6)=true)
    (a7:PySem.W.nsIn K mainGlobals "is_word"=some (some (.ref f7)))
    (l7:K.lookup f7=some ⟨oc7,od7,.func (PySem.W.fnOf "is_word" "is_word" (Qq ZR) (Qm ZR) (Qf ZR) .none kV7 dc7 pm7 an7 cd7 ct7),sl7⟩)
    (c7:PySem.W.codeIn K cd7 "is_word"=true)
    (k7:PySem.W.keepIn K (.ref f7)=true)
    (a8:PySem.W.nsIn K mainGlobals "is_guess_row"=some (some (.ref f8)))
    (l8:K.lookup f8=some ⟨oc8,od8,.func (PySem.W.fnOf "is_guess_row" "is_guess_row" (Qq Zl) (Qm Zl) (Qf Zl) .none kV8 dc8 pm8 an8 cd8 ct8),sl8⟩)
    (c8:PySem.W.codeIn K cd8 "is_guess_row"=true)
    (k8:PySem.W.keepIn K (.ref f8)=true)
    (a9:PySem.W.nsIn K mainGlobals "is_rule_row"=some (some (.ref f9)))
    (l9:K.lookup f9=some ⟨oc9,od9,.func (PySem.W.fnOf "is_rule_row" "is_rule_row" (Qq QN) (Qm QN) (Qf QN) .none kV9 dc9 pm9 an9 cd9 ct9),sl9⟩)
    (c9:PySem.W.codeIn K cd9 "is_rule_row"=true)
    (k9:PySem.W.keepIn K (.ref f9)=true)
    (i10:PySem.W.isFn K (.ref f10)=true)
    (l10:K.lookup f10=some ⟨oc10,od10,.func (PySem.W.fnOf "__init__" "RowError.__init__" (Qq QB) (Qm QB) (Qf QB) .none kV10 dc10 pm10 an10 cd10 ct10),sl10⟩)
    (c10:PySem.W.codeIn K cd10 "RowError.__init__"=true)
    (k10:PySem.W.keepIn K (.ref f10)=true)
    (a11:PySem.W.nsIn K mainGlobals "read_row"=some (some (.ref f11)))
    (l11:K.lookup f11=some ⟨oc11,od11,.func (PySem.W.fnOf "read_row" "read_row" (Qq Yg) (Qm Yg) (Qf Yg) (.ref T11) kV11 dc11 pm11 an11 cd11 ct11),sl11⟩)
    (c11:PySem.W.codeIn K cd11 "read_row"=true)
    (k11:PySem.W.keepIn K (.ref f11)=true)
    (t11:K.lookup T11=some ⟨tc11,td11,.seq #[.int 0 tk11] tn11,ts11⟩)
    (a12:PySem.W.nsIn K mainGlobals "_law_asked"=some (some (.ref f12)))
    (l12:K.lookup f12=some ⟨oc12,od12,.func (PySem.W.fnOf "_law_asked" "_law_asked" (Qq ZH) (Qm ZH) (Qf ZH) .none kV12 dc12 pm12 an12 cd12 ct12),sl12⟩)
    (c12:PySem.W.codeIn K cd12 "_law_asked"=true)
    (k12:PySem.W.keepIn K (.ref f12)=true)
    (a13:PySem.W.nsIn K mainGlobals "_law_same"=some (some (.ref f13)))
    (l13:K.lookup f13=some ⟨oc13,od13,.func (PySem.W.fnOf "_law_same" "_law_same" (Qq ZO) (Qm ZO) (Qf ZO) .none kV13 dc13 pm13 an13 cd13 ct13),sl13⟩)
    (c13:PySem.W.codeIn K cd13 "_law_same"=true)
    (k13:PySem.W.keepIn K (.ref f13)=true)
    (a14:PySem.W.nsIn K mainGlobals "_law_due_kinds"=some (some (.ref f14)))
    (l14:K.lookup f14=some ⟨oc14,od14,.func (PySem.W.fnOf "_law_due_kinds" "_law_due_kinds" (Qq QA) (Qm QA) (Qf QA) .none kV14 dc14 pm14 an14 cd14 ct14),sl14⟩)
    (c14:PySem.W.codeIn K cd14 "_law_due_kinds"=true)
    (k14:PySem.W.keepIn K (.ref f14)=true)
    (a15:PySem.W.nsIn K mainGlobals "_law_whole"=some (some (.ref f15)))
    (l15:K.lookup f15=some ⟨oc15,od15,.func (PySem.W.fnOf "_law_whole" "_law_whole" (Qq ZC) (Qm ZC) (Qf ZC) .none kV15 dc15 pm15 an15 cd15 ct15),sl15⟩)
    (c15:PySem.W.codeIn K cd15 "_law_whole"=true)
    (k15:PySem.W.keepIn K (.ref f15)=true)
    (a16:PySem.W.nsIn K mainGlobals "_law_right"=some (some (.ref f16)))
    (l16:K.lookup f16=some ⟨oc16,od16,.func (PySem.W.fnOf "_law_right" "_law_right" (Qq ZD) (Qm ZD) (Qf ZD) .none kV16 dc16 pm16 an16 cd16 ct16),sl16⟩)
    (c16:PySem.W.codeIn K cd16 "_law_right"=true)
    (k16:PySem.W.keepIn K (.ref f16)=true)
    (a17:PySem.W.nsIn K mainGlobals "_law_kinds"=some (some (.ref f17)))
    (l17:K.lookup f17=some ⟨oc17,od17,.func (PySem.W.fnOf "_law_kinds" "_law_kinds" (Qq ZE) (Qm ZE) (Qf ZE) .none kV17 dc17 pm17 an17 cd17 ct17),sl17⟩)
    (c17:PySem.W.codeIn K cd17 "_law_kinds"=true)
    (k17:PySem.W.keepIn K (.ref f17)=true)
    (a18:PySem.W.nsIn K mainGlobals "_law_made"=some (some (.ref f18)))
    (l18:K.lookup f18=some ⟨oc18,od18,.func (PySem.W.fnOf "_law_made" "_law_made" (Qq ZP) (Qm ZP) (Qf ZP) .none kV18 dc18 pm18 an18 cd18 ct18),sl18⟩)
    (c18:PySem.W.codeIn K cd18 "_law_made"=true)
    (k18:PySem.W.keepIn K (.ref f18)=true)
    (a19:PySem.W.nsIn K mainGlobals "_law_words"=some (some (.ref f19)))
    (l19:K.lookup f19=some ⟨oc19,od19,.func (PySem.W.fnOf "_law_words" "_law_words" (Qq ZB) (Qm ZB) (Qf ZB) .none kV19 dc19 pm19 an19 cd19 ct19),sl19⟩)
    (c19:PySem.W.codeIn K cd19 "_law_words"=true)
    (k19:PySem.W.keepIn K (.ref f19)=true)
    (a20:PySem.W.nsIn K mainGlobals "law"=some (some (.ref f20)))
    (l20:K.lookup f20=some ⟨oc20,od20,.func (PySem.W.fnOf "law" "law" (Qq Qbx) (Qm Qbx) (Qf Qbx) .none kV20 dc20 pm20 an20 cd20 ct20),sl20⟩)
    (c20:PySem.W.codeIn K cd20 "law"=true)
    (k20:PySem.W.keepIn K (.ref f20)=true)
    (z_ValueError:PySem.W.nsIn K mainGlobals "ValueError"=some none)
    (z_all:PySem.W.nsIn K mainGlobals "all"=some none)
    (z_bool:PySem.W.nsIn K mainGlobals "bool"=some none)
    (z_int:PySem.W.nsIn K mainGlobals "int"=some none)
    (z_isinstance:PySem.W.nsIn K mainGlobals "isinstance"=some none)
    (z_len:PySem.W.nsIn K mainGlobals "len"=some none)
    (z_range:PySem.W.nsIn K mainGlobals "range"=some none)
    (z_set:PySem.W.nsIn K mainGlobals "set"=some none)
    (z_str:PySem.W.nsIn K mainGlobals "str"=some none)
    (z_tuple:PySem.W.nsIn K mainGlobals "tuple"=some none)
    (g_MOST_IN_BODY:PySem.W.nsIn K mainGlobals "MOST_IN_BODY"=some (some (.int 6 gt_MOST_IN_BODY)))
    (g_MOST_LETTERS:PySem.W.nsIn K mainGlobals "MOST_LETTERS"=some (some (.int 12 gt_MOST_LETTERS)))
    (g_NO_WORDS:PySem.W.nsIn K mainGlobals "NO_WORDS"=some (some (.ref ga_NO_WORDS)))
    (gl_NO_WORDS:K.lookup ga_NO_WORDS=some ⟨.type "tuple",none,.seq #[.str "guess" gk0_NO_WORDS,.str "unless" gk1_NO_WORDS,.str "if" gk2_NO_WORDS] gn_NO_WORDS,gs_NO_WORDS⟩)
    (dC:([x_RowError,x_NoRow,x_TooMany,x_Twice,x_Headed]:List Addr).Nodup)
    : ∃ fd:FuncData,(∀ (s:Shared) (v:Value),BindsTo s fd ⟨[v],[]⟩ [("script",v)])∧∀ base:Heap,K.In base→base.Ns mainGlobals mg→FnOk l.prog w K mg base CX0 6 fa fd ["script"] (spM K 1 QaE):=by
  have e:=hfa.symm.trans (PySem.W.mg_of X G a20)
  cases e
  have T:Txt K mg:=⟨PySem.W.mg_none_of X G z_ValueError,PySem.W.mg_none_of X G z_all,PySem.W.mg_none_of X G z_bool,PySem.W.mg_none_of X G z_int,PySem.W.mg_none_of X G z_isinstance,PySem.W.mg_none_of X G z_len,PySem.W.mg_none_of X G z_range,PySem.W.mg_none_of X G z_set,PySem.W.mg_none_of X G z_str,PySem.W.mg_none_of X G z_tuple,⟨_,PySem.W.mg_of X G g_MOST_IN_BODY⟩,⟨_,PySem.W.mg_of X G g_MOST_LETTERS⟩,⟨_,PySem.W.mg_of X G g_NO_WORDS,_,_,_,gl_NO_WORDS,rfl,rfl,rfl,(show 3≤sizeLine by decide),(.cons ⟨_,rfl⟩ (.cons ⟨_,rfl⟩ (.cons ⟨_,rfl⟩ .nil)))⟩⟩
  let CA:=exC [x_HallError,x_RowError,x_NoRow,x_TooMany,x_Twice,x_Headed,x_NotTurn,x_NoDoubt,x_NoReply,x_NoAsk,x_NoWord,x_NotGuess,x_NotTold]
  have X_RowError:XCl K x_RowError:=⟨xg_RowError,xh_RowError,xb_RowError,xo_RowError,xc_RowError,isn,ist⟩
  have X_NoRow:XCl K x_NoRow:=⟨xg_NoRow,xh_NoRow,xb_NoRow,xo_NoRow,xc_NoRow,isn,ist⟩
  have X_TooMany:XCl K x_TooMany:=⟨xg_TooMany,xh_TooMany,xb_TooMany,xo_TooMany,xc_TooMany,isn,ist⟩
  have X_Twice:XCl K x_Twice:=⟨xg_Twice,xh_Twice,xb_Twice,xo_Twice,xc_Twice,isn,ist⟩
  have X_Headed:XCl K x_Headed:=⟨xg_Headed,xh_Headed,xb_Headed,xo_Headed,xc_Headed,isn,ist⟩
  have V:WExc K mg CA:=⟨PySem.W.mg_of X G xa_HallError,PySem.W.mg_of X G xa_RowError,PySem.W.mg_of X G xa_NoRow,PySem.W.mg_of X G xa_TooMany,PySem.W.mg_of X G xa_Twice,PySem.W.mg_of X G xa_Headed,PySem.W.mg_of X G xa_NotTurn,PySem.W.mg_of X G xa_NoDoubt,PySem.W.mg_of X G xa_NoReply,PySem.W.mg_of X G xa_NoAsk,PySem.W.mg_of X G xa_NoWord,PySem.W.mg_of X G xa_NotGuess,PySem.W.mg_of X G xa_NotTold,xb_RowError,xb_NoRow,xb_TooMany,xb_Twice,xb_Headed,xy_NoRow,xy_TooMany,xy_Twice,⟨X_RowError,xy_RowError⟩,(Yp ⟨xs_RowError_RowError,xb_RowError⟩ (Yp ⟨xs_NoRow_RowError,xb_NoRow⟩ (Yp ⟨xs_TooMany_RowError,xb_TooMany⟩ (Yp ⟨xs_Twice_RowError,xb_Twice⟩ (Yp ⟨xs_Headed_RowError,xb_Headed⟩ cs_nil))))),(Yp ⟨X_RowError,xno_RowError,xhd_RowError⟩ (Yp ⟨X_NoRow,xno_NoRow,xhd_NoRow⟩ (Yp ⟨X_TooMany,xno_TooMany,xhd_TooMany⟩ (Yp ⟨X_Twice,xno_Twice,xhd_Twice⟩ (Yp ⟨X_Headed,xno_Headed,xhd_Headed⟩ cs_nil))))),(Qj ⟨X_RowError,Qz xk_Headed xy_Headed xs_RowError_Headed ne_RowError_Headed⟩ (Qj ⟨X_NoRow,Qz xk_Headed xy_Headed xs_NoRow_Headed ne_NoRow_Headed⟩ (Qj ⟨X_TooMany,Qz xk_Headed xy_Headed xs_TooMany_Headed ne_TooMany_Headed⟩ (Qj ⟨X_Twice,Qz xk_Headed xy_Headed xs_Twice_Headed ne_Twice_Headed⟩ (Qj ⟨X_Headed,Xi xk_Headed xy_Headed xs_Headed_Headed⟩ Yj))))),(Qj ⟨X_RowError,Qz xk_Twice xy_Twice xs_RowError_Twice ne_RowError_Twice⟩ (Qj ⟨X_NoRow,Qz xk_Twice xy_Twice xs_NoRow_Twice ne_NoRow_Twice⟩ (Qj ⟨X_TooMany,Qz xk_Twice xy_Twice xs_TooMany_Twice ne_TooMany_Twice⟩ (Qj ⟨X_Twice,Xi xk_Twice xy_Twice xs_Twice_Twice⟩ (Qj ⟨X_Headed,Qz xk_Twice xy_Twice xs_Headed_Twice ne_Headed_Twice⟩ Yj))))),(Qj ⟨X_RowError,Qz xk_TooMany xy_TooMany xs_RowError_TooMany ne_RowError_TooMany⟩ (Qj ⟨X_NoRow,Qz xk_TooMany xy_TooMany xs_NoRow_TooMany ne_NoRow_TooMany⟩ (Qj ⟨X_TooMany,Xi xk_TooMany xy_TooMany xs_TooMany_TooMany⟩ (Qj ⟨X_Twice,Qz xk_TooMany xy_TooMany xs_Twice_TooMany ne_Twice_TooMany⟩ (Qj ⟨X_Headed,Qz xk_TooMany xy_TooMany xs_Headed_TooMany ne_Headed_TooMany⟩ Yj))))),(Qj ⟨X_RowError,Qz xk_NoRow xy_NoRow xs_RowError_NoRow ne_RowError_NoRow⟩ (Qj ⟨X_NoRow,Xi xk_NoRow xy_NoRow xs_NoRow_NoRow⟩ (Qj ⟨X_TooMany,Qz xk_NoRow xy_NoRow xs_TooMany_NoRow ne_TooMany_NoRow⟩ (Qj ⟨X_Twice,Qz xk_NoRow xy_NoRow xs_Twice_NoRow ne_Twice_NoRow⟩ (Qj ⟨X_Headed,Qz xk_NoRow xy_NoRow xs_Headed_NoRow ne_Headed_NoRow⟩ Yj))))),(Qj ⟨X_RowError,Xi xk_HallError xy_HallError xs_RowError_HallError⟩ (Qj ⟨X_NoRow,Xi xk_HallError xy_HallError xs_NoRow_HallError⟩ (Qj ⟨X_TooMany,Xi xk_HallError xy_HallError xs_TooMany_HallError⟩ (Qj ⟨X_Twice,Xi xk_HallError xy_HallError xs_Twice_HallError⟩ (Qj ⟨X_Headed,Xi xk_HallError xy_HallError xs_Headed_HallError⟩ Yj))))),(Qj ⟨X_RowError,Xi xk_RowError xy_RowError xs_RowError_RowError⟩ (Qj ⟨X_NoRow,Xi xk_RowError xy_RowError xs_NoRow_RowError⟩ (Qj ⟨X_TooMany,Xi xk_RowError xy_RowError xs_TooMany_RowError⟩ (Qj ⟨X_Twice,Xi xk_RowError xy_RowError xs_Twice_RowError⟩ (Qj ⟨X_Headed,Xi xk_RowError xy_RowError xs_Headed_RowError⟩ Yj))))),(Qj ⟨X_RowError,Qz xk_NoAsk xy_NoAsk xs_RowError_NoAsk ne_RowError_NoAsk⟩ (Qj ⟨X_NoRow,Qz xk_NoAsk xy_NoAsk xs_NoRow_NoAsk ne_NoRow_NoAsk⟩ (Qj ⟨X_TooMany,Qz xk_NoAsk xy_NoAsk xs_TooMany_NoAsk ne_TooMany_NoAsk⟩ (Qj ⟨X_Twice,Qz xk_NoAsk xy_NoAsk xs_Twice_NoAsk ne_Twice_NoAsk⟩ (Qj ⟨X_Headed,Qz xk_NoAsk xy_NoAsk xs_Headed_NoAsk ne_Headed_NoAsk⟩ Yj))))),(Qj ⟨X_RowError,Qz xk_NoReply xy_NoReply xs_RowError_NoReply ne_RowError_NoReply⟩ (Qj ⟨X_NoRow,Qz xk_NoReply xy_NoReply xs_NoRow_NoReply ne_NoRow_NoReply⟩ (Qj ⟨X_TooMany,Qz xk_NoReply xy_NoReply xs_TooMany_NoReply ne_TooMany_NoReply⟩ (Qj ⟨X_Twice,Qz xk_NoReply xy_NoReply xs_Twice_NoReply ne_Twice_NoReply⟩ (Qj ⟨X_Headed,Qz xk_NoReply xy_NoReply xs_Headed_NoReply ne_Headed_NoReply⟩ Yj))))),(Qj ⟨X_RowError,Qz xk_NoDoubt xy_NoDoubt xs_RowError_NoDoubt ne_RowError_NoDoubt⟩ (Qj ⟨X_NoRow,Qz xk_NoDoubt xy_NoDoubt xs_NoRow_NoDoubt ne_NoRow_NoDoubt⟩ (Qj ⟨X_TooMany,Qz xk_NoDoubt xy_NoDoubt xs_TooMany_NoDoubt ne_TooMany_NoDoubt⟩ (Qj ⟨X_Twice,Qz xk_NoDoubt xy_NoDoubt xs_Twice_NoDoubt ne_Twice_NoDoubt⟩ (Qj ⟨X_Headed,Qz xk_NoDoubt xy_NoDoubt xs_Headed_NoDoubt ne_Headed_NoDoubt⟩ Yj))))),(Qj ⟨X_RowError,Qz xk_NotTurn xy_NotTurn xs_RowError_NotTurn ne_RowError_NotTurn⟩ (Qj ⟨X_NoRow,Qz xk_NotTurn xy_NotTurn xs_NoRow_NotTurn ne_NoRow_NotTurn⟩ (Qj ⟨X_TooMany,Qz xk_NotTurn xy_NotTurn xs_TooMany_NotTurn ne_TooMany_NotTurn⟩ (Qj ⟨X_Twice,Qz xk_NotTurn xy_NotTurn xs_Twice_NotTurn ne_Twice_NotTurn⟩ (Qj ⟨X_Headed,Qz xk_NotTurn xy_NotTurn xs_Headed_NotTurn ne_Headed_NotTurn⟩ Yj))))),(Qj ⟨X_RowError,Qz xk_NotTold xy_NotTold xs_RowError_NotTold ne_RowError_NotTold⟩ (Qj ⟨X_NoRow,Qz xk_NotTold xy_NotTold xs_NoRow_NotTold ne_NoRow_NotTold⟩ (Qj ⟨X_TooMany,Qz xk_NotTold xy_NotTold xs_TooMany_NotTold ne_TooMany_NotTold⟩ (Qj ⟨X_Twice,Qz xk_NotTold xy_NotTold xs_Twice_NotTold ne_Twice_NotTold⟩ (Qj ⟨X_Headed,Qz xk_NotTold xy_NotTold xs_Headed_NotTold ne_Headed_NotTold⟩ Yj))))),(Qj ⟨X_RowError,Qz xk_NotGuess xy_NotGuess xs_RowError_NotGuess ne_RowError_NotGuess⟩ (Qj ⟨X_NoRow,Qz xk_NotGuess xy_NotGuess xs_NoRow_NotGuess ne_NoRow_NotGuess⟩ (Qj ⟨X_TooMany,Qz xk_NotGuess xy_NotGuess xs_TooMany_NotGuess ne_TooMany_NotGuess⟩ (Qj ⟨X_Twice,Qz xk_NotGuess xy_NotGuess xs_Twice_NotGuess ne_Twice_NotGuess⟩ (Qj ⟨X_Headed,Qz xk_NotGuess xy_NotGuess xs_Headed_NotGuess ne_Headed_NotGuess⟩ Yj))))),(Qj ⟨X_RowError,Qz xk_NoWord xy_NoWord xs_RowError_NoWord ne_RowError_NoWord⟩ (Qj ⟨X_NoRow,Qz xk_NoWord xy_NoWord xs_NoRow_NoWord ne_NoRow_NoWord⟩ (Qj ⟨X_TooMany,Qz xk_NoWord xy_NoWord xs_TooMany_NoWord ne_TooMany_NoWord⟩ (Qj ⟨X_Twice,Qz xk_NoWord xy_NoWord xs_Twice_NoWord ne_Twice_NoWord⟩ (Qj ⟨X_Headed,Qz xk_NoWord xy_NoWord xs_Headed_NoWord ne_Headed_NoWord⟩ Yj))))),(Qj ⟨X_RowError,QfE (by kernel_rfl) xv_RowError⟩ (Qj ⟨X_NoRow,QfE (by kernel_rfl) xv_NoRow⟩ (Qj ⟨X_TooMany,QfE (by kernel_rfl) xv_TooMany⟩ (Qj ⟨X_Twice,QfE (by kernel_rfl) xv_Twice⟩ (Qj ⟨X_Headed,QfE (by kernel_rfl) xv_Headed⟩ Yj)))))⟩
  have F0:=Zv (st:=ZG) l0 c0 k0
  have b0:=F0.binds (ps:=["cell","count"]) fun _ _ _ _ _ _ us hl=>match us,hl with | [_,_],_=>rfl
  have F1:=Zv (st:=Zm) l1 c1 k1
  have b1:=F1.binds (ps:=["line","drawn"]) fun _ _ _ _ _ _ us hl=>match us,hl with | [_,_],_=>rfl
  have F2:=Zv (st:=ZF) l2 c2 k2
  have b2:=F2.binds (ps:=["number","size"]) fun _ _ _ _ _ _ us hl=>match us,hl with | [_,_],_=>rfl
  have F3:=Zv (st:=Zb) l3 c3 k3
  have b3:=F3.binds (ps:=["number"]) fun _ _ _ _ _ _ us hl=>match us,hl with | [_],_=>rfl
  have F4:=Zv (st:=Zt) l4 c4 k4
  have b4:=F4.binds (ps:=["words","drawn"]) fun _ _ _ _ _ _ us hl=>match us,hl with | [_,_],_=>rfl
  have F5:=Zv (st:=ZN) l5 c5 k5
  have b5:=F5.binds (ps:=["text"]) fun _ _ _ _ _ _ us hl=>match us,hl with | [_],_=>rfl
  have F6:=Zv (st:=Yh) l6 c6 k6
  have b6:=F6.binds (ps:=["line"]) fun _ _ _ _ _ _ us hl=>match us,hl with | [_],_=>rfl
  have F7:=Zv (st:=ZR) l7 c7 k7
  have b7:=F7.binds (ps:=["part"]) fun _ _ _ _ _ _ us hl=>match us,hl with | [_],_=>rfl
  have F8:=Zv (st:=Zl) l8 c8 k8
  have b8:=F8.binds (ps:=["parts"]) fun _ _ _ _ _ _ us hl=>match us,hl with | [_],_=>rfl
  have F9:=Zv (st:=QN) l9 c9 k9
  have b9:=F9.binds (ps:=["parts"]) fun _ _ _ _ _ _ us hl=>match us,hl with | [_],_=>rfl
  have F10:=Zv (st:=QB) l10 c10 k10
  have b10:=F10.binds (ps:=["self","row"]) fun _ _ _ _ _ _ us hl=>match us,hl with | [_,_],_=>rfl
  have F11:=funD_mk (st:=Yg) l11 c11 k11 t11
  have b11:=F11.binds (ps:=["line","row"]) fun _ _ _ _ _ _ _ d us hl=>match us,hl with | [_,_],_=>⟨_,rfl,rfl⟩
  have kw11:=Qha (y := "row") (ps:=["line","row"]) F11 rfl fun _ _ _ _ _ _ _ d u w=>⟨_,rfl,rfl⟩
  have bd11:=F11.bindsD (ps:=["line","row"]) fun _ _ _ _ _ _ _ d us hl=>match us,hl with | [_],_=>⟨_,rfl,rfl⟩
  have F12:=Zv (st:=ZH) l12 c12 k12
  have b12:=F12.binds (ps:=["line","bare","place"]) fun _ _ _ _ _ _ us hl=>match us,hl with | [_,_,_],_=>rfl
  have F13:=Zv (st:=ZO) l13 c13 k13
  have b13:=F13.binds (ps:=["found","due"]) fun _ _ _ _ _ _ us hl=>match us,hl with | [_,_],_=>rfl
  have F14:=Zv (st:=QA) l14 c14 k14
  have b14:=F14.binds (ps:=["kind"]) fun _ _ _ _ _ _ us hl=>match us,hl with | [_],_=>rfl
  have F15:=Zv (st:=ZC) l15 c15 k15
  have b15:=F15.binds (ps:=["found"]) fun _ _ _ _ _ _ us hl=>match us,hl with | [_],_=>rfl
  have F16:=Zv (st:=ZD) l16 c16 k16
  have b16:=F16.binds (ps:=["line","bare","place"]) fun _ _ _ _ _ _ us hl=>match us,hl with | [_,_,_],_=>rfl
  have F17:=Zv (st:=ZE) l17 c17 k17
  have b17:=F17.binds (ps:=["e"]) fun _ _ _ _ _ _ us hl=>match us,hl with | [_],_=>rfl
  have F18:=Zv (st:=ZP) l18 c18 k18
  have b18:=F18.binds (ps:=["place"]) fun _ _ _ _ _ _ us hl=>match us,hl with | [_],_=>rfl
  have F19:=Zv (st:=ZB) l19 c19 k19
  have b19:=F19.binds (ps:=["drawn"]) fun _ _ _ _ _ _ us hl=>match us,hl with | [_],_=>rfl
  have F20:=Zv (st:=Qbx) l20 c20 k20
  refine ⟨PySem.W.fnOf "law" "law" (Qq Qbx) (Qm Qbx) (Qf Qbx) .none kV20 dc20 pm20 an20 cd20 ct20,fun s v => .of_eq rfl,fun base _ _ => ?_⟩
  have q0:Cal l.prog w K mg base 1 "_law_draws" 2 Zr:=⟨_,_,_,QcF T  F0,PySem.W.mg_of X G a0,k0,b0⟩
  have q1:Cal l.prog w K mg base 1 "_law_spoiled" 2 QF:=⟨_,_,_,Qbt T  F1,PySem.W.mg_of X G a1,k1,b1⟩
  have q2:Cal l.prog w K mg base 1 "_law_fresh" 2 QD:=⟨_,_,_,QcE T  F2,PySem.W.mg_of X G a2,k2,b2⟩
  have q3:Cal l.prog w K mg base 2 "_law_odd_word" 1 QK:=⟨_,_,_,QaU T q2 F3,PySem.W.mg_of X G a3,k3,b3⟩
  have q4:CalW l.prog w K mg base 3 "_law_turned" 2 Zi:=⟨_,_,_,QbK T q3 F4,PySem.W.mg_of X G a4,k4,b4⟩
  have q5:Cal l.prog w K mg base 1 "_law_word" 1 Zw:=⟨_,_,_,QdB T  F5,PySem.W.mg_of X G a5,k5,b5⟩
  have q6:Cal l.prog w K mg base 2 "_law_due" 1 Zq:=⟨_,_,_,Qeg T q5 F6,PySem.W.mg_of X G a6,k6,b6⟩
  have q7:Cal l.prog w K mg base 1 "is_word" 1 Zh:=⟨_,_,_,Qfe T  F7,PySem.W.mg_of X G a7,k7,b7⟩
  have q8:Cal l.prog w K mg base 2 "is_guess_row" 1 QJ:=⟨_,_,_,Qbs T q7 F8,PySem.W.mg_of X G a8,k8,b8⟩
  have q9:Cal l.prog w K mg base 2 "is_rule_row" 1 QI:=⟨_,_,_,QbJ T q7 F9,PySem.W.mg_of X G a9,k9,b9⟩
  have qi_RowError:CalI l.prog w K mg base 1 x_RowError "row":=⟨_,_,_,QH ⟨xnw_RowError,xsa_RowError,xno_RowError⟩ F10,xi_RowError,i10,b10,xnw_RowError,xkp_RowError⟩
  have qi_NoRow:CalI l.prog w K mg base 1 x_NoRow "row":=⟨_,_,_,QH ⟨xnw_NoRow,xsa_NoRow,xno_NoRow⟩ F10,xi_NoRow,i10,b10,xnw_NoRow,xkp_NoRow⟩
  have qi_TooMany:CalI l.prog w K mg base 1 x_TooMany "row":=⟨_,_,_,QH ⟨xnw_TooMany,xsa_TooMany,xno_TooMany⟩ F10,xi_TooMany,i10,b10,xnw_TooMany,xkp_TooMany⟩
  have qi_Twice:CalI l.prog w K mg base 1 x_Twice "row":=⟨_,_,_,QH ⟨xnw_Twice,xsa_Twice,xno_Twice⟩ F10,xi_Twice,i10,b10,xnw_Twice,xkp_Twice⟩
  have qi_Headed:CalI l.prog w K mg base 1 x_Headed "row":=⟨_,_,_,QH ⟨xnw_Headed,xsa_Headed,xno_Headed⟩ F10,xi_Headed,i10,b10,xnw_Headed,xkp_Headed⟩
  have q11:QhJ l.prog w K mg base 3 "read_row" "row" 0 (Zf CA):=⟨_,_,_,Qef T V qi_NoRow qi_TooMany qi_Twice q8 q9 F11,PySem.W.mg_of X G a11,k11,b11,bd11,kw11⟩
  have q12:Cal l.prog w K mg base 4 "_law_asked" 3 (QU CA):=⟨_,_,_,QcG T V q11 F12,PySem.W.mg_of X G a12,k12,b12⟩
  have q13:Cal l.prog w K mg base 1 "_law_same" 2 QO:=⟨_,_,_,QdC T  F13,PySem.W.mg_of X G a13,k13,b13⟩
  have q14:Cal l.prog w K mg base 1 "_law_due_kinds" 1 Qt:=⟨_,_,_,Qah T  F14,PySem.W.mg_of X G a14,k14,b14⟩
  have q15:Cal l.prog w K mg base 1 "_law_whole" 1 QL:=⟨_,_,_,QcB T  F15,PySem.W.mg_of X G a15,k15,b15⟩
  have q16:Cal l.prog w K mg base 5 "_law_right" 3 (QS CA):=⟨_,_,_,QcC T V q6 q12 q13 q14 q15 F16,PySem.W.mg_of X G a16,k16,b16⟩
  have q17:Cal l.prog w K mg base 1 "_law_kinds" 1 (QT CA):=⟨_,_,_,QcD T V  F17,PySem.W.mg_of X G a17,k17,b17⟩
  have q18:Cal l.prog w K mg base 3 "_law_made" 1 (Zx CA):=⟨_,_,_,QdD T V qi_Headed qi_NoRow qi_RowError qi_TooMany qi_Twice q14 q15 q17 F18,PySem.W.mg_of X G a18,k18,b18⟩
  have q19:CalO l.prog w K mg base 2 "_law_words" 1 Zp:=⟨_,_,_,QcA T q2 F19,PySem.W.mg_of X G a19,k19,b19⟩
  exact (ok_law T V q0 q1 q4 q16 q18 q19 F20).sw fun qs r h=>QeZ (hlaw CA dC) h
theorem walk {l:PySem.W.OpenLaw} {q:Program} {loose:List Str} {XP:(Str→Option Value)→Heap→Prop} {YP:World→Heap→Prop} {d:DefRec} {K:Params→PySem.W.Frag} (hn:l.most=some 63) (hdf:d.params.defaults=[])
    (hY:∀ (w:World) (h:Heap),YP w h→(K w.params).In h) (hlaw:∀ ns:List Int,ns.length≤63→QaE [.lst (ns.map .int)]=some (.bl true))
    (F:∀ (w:World) (mg:Str→Option Value) (fa:Addr) (h:Heap),(K w.params).In h→h.Ns mainGlobals mg→mg d.name=some (.ref fa) →
      ∃ fd:FuncData,(∀ (s:Shared) (u:Value),BindsTo s fd ⟨[u],[]⟩ [("script",u)])∧∀ base:Heap,(K w.params).In base→base.Ns mainGlobals mg→FnOk l.prog w (K w.params) mg base CX0 6 fa fd ["script"] (spM (K w.params) 1 QaE)) :
    PySem.W.WalkO q loose XP YP l.row.toRowW d [] (fun f vs=>PySem.call f vs) :=
  L2.walk_of (n:=63) (k:=6) (x := "script") (CX:=fun _=>CX0) (sp:=fun w=>spM (K w.params) 1 QaE) hn (by decide) hdf ⟨rfl,by decide,by decide⟩ hY F (fun w H a ns hl _ hS=>law_sp hlaw hl hS) fun _ _ _ _ _ z=>z
end K02
namespace K02
open PySem PySem.W L2 L2.PM DH HD
noncomputable def kk (P:Params):PySem.W.Frag :=
(nat_lit 2,⟨.none,none,(.dict #[] 0),#[]⟩) ::
(nat_lit 3,⟨(.type "dict"),none,(.dict #[en P "__name__" 165 (.str "law_doubthall_k02_rows_refused" 448),en P "__doc__" 166 .none,en P "__package__" 167 .none,en P "__loader__" 168 (.builtin "__main__.__loader__#opaque"),en P "__spec__" 169 .none,en P "__annotations__" 170 (.ref 6),en P "__builtins__" 171 (.ref 4),en P "__file__" 173 (.str "/claim/cut.py" 172),en P "__cached__" 174 .none,en P "HallError" 206 (.ref 24),en P "RowError" 231 (.ref 44),en P "NoRow" 247 (.ref 56),en P "TooMany" 263 (.ref 68),en P "Twice" 279 (.ref 80),en P "Headed" 295 (.ref 92),en P "NotTurn" 311 (.ref 104),en P "NoDoubt" 327 (.ref 116),en P "NoReply" 343 (.ref 128),en P "NoAsk" 359 (.ref 140),en P "NoWord" 375 (.ref 152),en P "NotGuess" 391 (.ref 164),en P "NotTold" 407 (.ref 176),en P "NO_WORDS" 413 (.ref 179),en P "MOST_LETTERS" 415 (.int 12 414),en P "MOST_IN_BODY" 417 (.int 6 416),en P "is_word" 423 (.ref 184),en P "is_guess_row" 430 (.ref 191),en P "is_rule_row" 436 (.ref 196),en P "read_row" 447 (.ref 204),en P "_law_draws" 460 (.ref 211),en P "_law_fresh" 471 (.ref 218),en P "_law_odd_word" 479 (.ref 225),en P "_law_words" 491 (.ref 232),en P "_law_turned" 503 (.ref 239),en P "_law_spoiled" 514 (.ref 246),en P "_law_word" 522 (.ref 253),en P "_law_due" 532 (.ref 260),en P "_law_kinds" 540 (.ref 267),en P "_law_due_kinds" 546 (.ref 272),en P "_law_asked" 560 (.ref 279),en P "_law_whole" 567 (.ref 286),en P "_law_same" 576 (.ref 293),en P "_law_made" 586 (.ref 300),en P "_law_right" 599 (.ref 307),en P "law" 610 (.ref 314)] 45),#[]⟩) ::
(nat_lit 23,⟨(.type "dict"),none,(.dict #[en P "__module__" 196 (.str "doubthall.errors" 187),en P "__firstlineno__" 200 (.int 2 199),en P "__static_attributes__" 201 (.ref 22),en P "__weakref__" 203 (.ref 25),en P "__doc__" 204 .none] 3),#[]⟩) ::
(nat_lit 24,⟨(.type "type"),none,(.cls { name := "HallError",bases:=[(.type "ValueError")],mro:=[(.ref 24),(.type "ValueError"),(.type "Exception"),(.type "BaseException"),(.type "object")],ns:=23,qualname := "HallError",hasDict:=true,subclasses:=[(.ref 44),(.ref 104),(.ref 116),(.ref 128),(.ref 140),(.ref 152),(.ref 164),(.ref 176)],abstract:=false,hasDel:=false }),#[some (.ref 15),none,some (.str "HallError" 189),some (.str "HallError" 197),some (.builtin "ValueError.__new__"),some (.bool true)]⟩) ::
(nat_lit 40,co "__init__" "RowError.__init__" 219 6 2 35 36 (.ref 37) (.ref 38) 39 224) ::
(nat_lit 41,fo "__init__" "RowError.__init__" (Qgs (top 2) 0) .none .none (.str "doubthall.errors" 187) 40) ::
(nat_lit 43,⟨(.type "dict"),none,(.dict #[en P "__module__" 214 (.str "doubthall.errors" 187),en P "__firstlineno__" 218 (.int 4 217),en P "__init__" 226 (.ref 41),en P "__static_attributes__" 228 (.ref 42),en P "__doc__" 229 .none] 2),#[]⟩) ::
(nat_lit 44,⟨(.type "type"),none,(.cls { name := "RowError",bases:=[(.ref 24)],mro:=[(.ref 44),(.ref 24),(.type "ValueError"),(.type "Exception"),(.type "BaseException"),(.type "object")],ns:=43,qualname := "RowError",hasDict:=true,subclasses:=[(.ref 56),(.ref 68),(.ref 80),(.ref 92)],abstract:=false,hasDel:=false }),#[some (.ref 28),none,some (.str "RowError" 207),some (.str "RowError" 215),some (.builtin "ValueError.__new__"),some (.bool true)]⟩) ::
(nat_lit 55,⟨(.type "dict"),none,(.dict #[en P "__module__" 239 (.str "doubthall.errors" 187),en P "__firstlineno__" 243 (.int 8 242),en P "__static_attributes__" 244 (.ref 54),en P "__doc__" 245 .none] 2),#[]⟩) ::
(nat_lit 56,⟨(.type "type"),none,(.cls { name := "NoRow",bases:=[(.ref 44)],mro:=[(.ref 56),(.ref 44),(.ref 24),(.type "ValueError"),(.type "Exception"),(.type "BaseException"),(.type "object")],ns:=55,qualname := "NoRow",hasDict:=true,subclasses:=[],abstract:=false,hasDel:=false }),#[some (.ref 47),none,some (.str "NoRow" 232),some (.str "NoRow" 240),some (.builtin "ValueError.__new__"),some (.bool true)]⟩) ::
(nat_lit 67,⟨(.type "dict"),none,(.dict #[en P "__module__" 255 (.str "doubthall.errors" 187),en P "__firstlineno__" 259 (.int 10 258),en P "__static_attributes__" 260 (.ref 66),en P "__doc__" 261 .none] 2),#[]⟩) ::
(nat_lit 68,⟨(.type "type"),none,(.cls { name := "TooMany",bases:=[(.ref 44)],mro:=[(.ref 68),(.ref 44),(.ref 24),(.type "ValueError"),(.type "Exception"),(.type "BaseException"),(.type "object")],ns:=67,qualname := "TooMany",hasDict:=true,subclasses:=[],abstract:=false,hasDel:=false }),#[some (.ref 59),none,some (.str "TooMany" 248),some (.str "TooMany" 256),some (.builtin "ValueError.__new__"),some (.bool true)]⟩) ::
(nat_lit 79,⟨(.type "dict"),none,(.dict #[en P "__module__" 271 (.str "doubthall.errors" 187),en P "__firstlineno__" 275 (.int 12 274),en P "__static_attributes__" 276 (.ref 78),en P "__doc__" 277 .none] 2),#[]⟩) ::
(nat_lit 80,⟨(.type "type"),none,(.cls { name := "Twice",bases:=[(.ref 44)],mro:=[(.ref 80),(.ref 44),(.ref 24),(.type "ValueError"),(.type "Exception"),(.type "BaseException"),(.type "object")],ns:=79,qualname := "Twice",hasDict:=true,subclasses:=[],abstract:=false,hasDel:=false }),#[some (.ref 71),none,some (.str "Twice" 264),some (.str "Twice" 272),some (.builtin "ValueError.__new__"),some (.bool true)]⟩) ::
(nat_lit 91,⟨(.type "dict"),none,(.dict #[en P "__module__" 287 (.str "doubthall.errors" 187),en P "__firstlineno__" 291 (.int 14 290),en P "__static_attributes__" 292 (.ref 90),en P "__doc__" 293 .none] 2),#[]⟩) ::
(nat_lit 92,⟨(.type "type"),none,(.cls { name := "Headed",bases:=[(.ref 44)],mro:=[(.ref 92),(.ref 44),(.ref 24),(.type "ValueError"),(.type "Exception"),(.type "BaseException"),(.type "object")],ns:=91,qualname := "Headed",hasDict:=true,subclasses:=[],abstract:=false,hasDel:=false }),#[some (.ref 83),none,some (.str "Headed" 280),some (.str "Headed" 288),some (.builtin "ValueError.__new__"),some (.bool true)]⟩) ::
(nat_lit 103,⟨(.type "dict"),none,(.dict #[en P "__module__" 303 (.str "doubthall.errors" 187),en P "__firstlineno__" 307 (.int 16 306),en P "__static_attributes__" 308 (.ref 102),en P "__doc__" 309 .none] 2),#[]⟩) ::
(nat_lit 104,⟨(.type "type"),none,(.cls { name := "NotTurn",bases:=[(.ref 24)],mro:=[(.ref 104),(.ref 24),(.type "ValueError"),(.type "Exception"),(.type "BaseException"),(.type "object")],ns:=103,qualname := "NotTurn",hasDict:=true,subclasses:=[],abstract:=false,hasDel:=false }),#[some (.ref 95),none,some (.str "NotTurn" 296),some (.str "NotTurn" 304),some (.builtin "ValueError.__new__"),some (.bool true)]⟩) ::
(nat_lit 115,⟨(.type "dict"),none,(.dict #[en P "__module__" 319 (.str "doubthall.errors" 187),en P "__firstlineno__" 323 (.int 18 322),en P "__static_attributes__" 324 (.ref 114),en P "__doc__" 325 .none] 2),#[]⟩) ::
(nat_lit 116,⟨(.type "type"),none,(.cls { name := "NoDoubt",bases:=[(.ref 24)],mro:=[(.ref 116),(.ref 24),(.type "ValueError"),(.type "Exception"),(.type "BaseException"),(.type "object")],ns:=115,qualname := "NoDoubt",hasDict:=true,subclasses:=[],abstract:=false,hasDel:=false }),#[some (.ref 107),none,some (.str "NoDoubt" 312),some (.str "NoDoubt" 320),some (.builtin "ValueError.__new__"),some (.bool true)]⟩) ::
(nat_lit 127,⟨(.type "dict"),none,(.dict #[en P "__module__" 335 (.str "doubthall.errors" 187),en P "__firstlineno__" 339 (.int 20 338),en P "__static_attributes__" 340 (.ref 126),en P "__doc__" 341 .none] 2),#[]⟩) ::
(nat_lit 128,⟨(.type "type"),none,(.cls { name := "NoReply",bases:=[(.ref 24)],mro:=[(.ref 128),(.ref 24),(.type "ValueError"),(.type "Exception"),(.type "BaseException"),(.type "object")],ns:=127,qualname := "NoReply",hasDict:=true,subclasses:=[],abstract:=false,hasDel:=false }),#[some (.ref 119),none,some (.str "NoReply" 328),some (.str "NoReply" 336),some (.builtin "ValueError.__new__"),some (.bool true)]⟩) ::
(nat_lit 139,⟨(.type "dict"),none,(.dict #[en P "__module__" 351 (.str "doubthall.errors" 187),en P "__firstlineno__" 355 (.int 22 354),en P "__static_attributes__" 356 (.ref 138),en P "__doc__" 357 .none] 2),#[]⟩) ::
(nat_lit 140,⟨(.type "type"),none,(.cls { name := "NoAsk",bases:=[(.ref 24)],mro:=[(.ref 140),(.ref 24),(.type "ValueError"),(.type "Exception"),(.type "BaseException"),(.type "object")],ns:=139,qualname := "NoAsk",hasDict:=true,subclasses:=[],abstract:=false,hasDel:=false }),#[some (.ref 131),none,some (.str "NoAsk" 344),some (.str "NoAsk" 352),some (.builtin "ValueError.__new__"),some (.bool true)]⟩) ::
(nat_lit 151,⟨(.type "dict"),none,(.dict #[en P "__module__" 367 (.str "doubthall.errors" 187),en P "__firstlineno__" 371 (.int 24 370),en P "__static_attributes__" 372 (.ref 150),en P "__doc__" 373 .none] 2),#[]⟩) ::
(nat_lit 152,⟨(.type "type"),none,(.cls { name := "NoWord",bases:=[(.ref 24)],mro:=[(.ref 152),(.ref 24),(.type "ValueError"),(.type "Exception"),(.type "BaseException"),(.type "object")],ns:=151,qualname := "NoWord",hasDict:=true,subclasses:=[],abstract:=false,hasDel:=false }),#[some (.ref 143),none,some (.str "NoWord" 360),some (.str "NoWord" 368),some (.builtin "ValueError.__new__"),some (.bool true)]⟩) ::
(nat_lit 163,⟨(.type "dict"),none,(.dict #[en P "__module__" 383 (.str "doubthall.errors" 187),en P "__firstlineno__" 387 (.int 26 386),en P "__static_attributes__" 388 (.ref 162),en P "__doc__" 389 .none] 2),#[]⟩) ::
(nat_lit 164,⟨(.type "type"),none,(.cls { name := "NotGuess",bases:=[(.ref 24)],mro:=[(.ref 164),(.ref 24),(.type "ValueError"),(.type "Exception"),(.type "BaseException"),(.type "object")],ns:=163,qualname := "NotGuess",hasDict:=true,subclasses:=[],abstract:=false,hasDel:=false }),#[some (.ref 155),none,some (.str "NotGuess" 376),some (.str "NotGuess" 384),some (.builtin "ValueError.__new__"),some (.bool true)]⟩) ::
(nat_lit 175,⟨(.type "dict"),none,(.dict #[en P "__module__" 399 (.str "doubthall.errors" 187),en P "__firstlineno__" 403 (.int 28 402),en P "__static_attributes__" 404 (.ref 174),en P "__doc__" 405 .none] 2),#[]⟩) ::
(nat_lit 176,⟨(.type "type"),none,(.cls { name := "NotTold",bases:=[(.ref 24)],mro:=[(.ref 176),(.ref 24),(.type "ValueError"),(.type "Exception"),(.type "BaseException"),(.type "object")],ns:=175,qualname := "NotTold",hasDict:=true,subclasses:=[],abstract:=false,hasDel:=false }),#[some (.ref 167),none,some (.str "NotTold" 392),some (.str "NotTold" 400),some (.builtin "ValueError.__new__"),some (.bool true)]⟩) ::
(nat_lit 179,⟨(.type "tuple"),none,(.seq #[(.str "guess" 410),(.str "unless" 411),(.str "if" 412)] 0),#[]⟩) ::
(nat_lit 183,co "is_word" "is_word" 418 34 1 180 181 .none .none 182 421) ::
(nat_lit 184,fo "is_word" "is_word" (top 18) .none .none (.str "doubthall.texts" 408) 183) ::
(nat_lit 190,co "is_guess_row" "is_guess_row" 424 38 1 185 186 (.ref 187) (.ref 188) 189 428) ::
(nat_lit 191,fo "is_guess_row" "is_guess_row" (top 19) .none .none (.str "doubthall.texts" 408) 190) ::
(nat_lit 195,co "is_rule_row" "is_rule_row" 431 42 1 192 193 .none .none 194 434) ::
(nat_lit 196,fo "is_rule_row" "is_rule_row" (top 20) .none .none (.str "doubthall.texts" 408) 195) ::
(nat_lit 197,⟨(.type "tuple"),none,(.seq #[(.int 0 437)] 0),#[]⟩) ::
(nat_lit 203,co "read_row" "read_row" 438 48 2 198 199 (.ref 200) (.ref 201) 202 445) ::
(nat_lit 204,fo "read_row" "read_row" (top 21) (.ref 197) .none (.str "doubthall.texts" 408) 203) ::
(nat_lit 210,co "_law_draws" "_law_draws" 450 61 2 205 206 (.ref 207) (.ref 208) 209 458) ::
(nat_lit 211,fo "_law_draws" "_law_draws" (top 23) .none .none (.str "law_doubthall_k02_rows_refused" 448) 210) ::
(nat_lit 217,co "_law_fresh" "_law_fresh" 461 68 2 212 213 (.ref 214) (.ref 215) 216 469) ::
(nat_lit 218,fo "_law_fresh" "_law_fresh" (top 24) .none .none (.str "law_doubthall_k02_rows_refused" 448) 217) ::
(nat_lit 224,co "_law_odd_word" "_law_odd_word" 472 75 1 219 220 (.ref 221) (.ref 222) 223 477) ::
(nat_lit 225,fo "_law_odd_word" "_law_odd_word" (top 25) .none .none (.str "law_doubthall_k02_rows_refused" 448) 224) ::
(nat_lit 231,co "_law_words" "_law_words" 480 80 1 226 227 (.ref 228) (.ref 229) 230 489) ::
(nat_lit 232,fo "_law_words" "_law_words" (top 26) .none .none (.str "law_doubthall_k02_rows_refused" 448) 231) ::
(nat_lit 238,co "_law_turned" "_law_turned" 492 96 2 233 234 (.ref 235) (.ref 236) 237 501) ::
(nat_lit 239,fo "_law_turned" "_law_turned" (top 27) .none .none (.str "law_doubthall_k02_rows_refused" 448) 238) ::
(nat_lit 245,co "_law_spoiled" "_law_spoiled" 504 108 2 240 241 (.ref 242) (.ref 243) 244 512) ::
(nat_lit 246,fo "_law_spoiled" "_law_spoiled" (top 28) .none .none (.str "law_doubthall_k02_rows_refused" 448) 245) ::
(nat_lit 252,co "_law_word" "_law_word" 515 116 1 247 248 (.ref 249) (.ref 250) 251 520) ::
(nat_lit 253,fo "_law_word" "_law_word" (top 29) .none .none (.str "law_doubthall_k02_rows_refused" 448) 252) ::
(nat_lit 259,co "_law_due" "_law_due" 523 123 1 254 255 (.ref 256) (.ref 257) 258 530) ::
(nat_lit 260,fo "_law_due" "_law_due" (top 30) .none .none (.str "law_doubthall_k02_rows_refused" 448) 259) ::
(nat_lit 266,co "_law_kinds" "_law_kinds" 533 143 1 261 262 (.ref 263) (.ref 264) 265 538) ::
(nat_lit 267,fo "_law_kinds" "_law_kinds" (top 31) .none .none (.str "law_doubthall_k02_rows_refused" 448) 266) ::
(nat_lit 271,co "_law_due_kinds" "_law_due_kinds" 541 148 1 268 269 .none .none 270 544) ::
(nat_lit 272,fo "_law_due_kinds" "_law_due_kinds" (top 32) .none .none (.str "law_doubthall_k02_rows_refused" 448) 271) ::
(nat_lit 278,co "_law_asked" "_law_asked" 547 150 3 273 274 (.ref 275) (.ref 276) 277 558) ::
(nat_lit 279,fo "_law_asked" "_law_asked" (top 33) .none .none (.str "law_doubthall_k02_rows_refused" 448) 278) ::
(nat_lit 285,co "_law_whole" "_law_whole" 561 169 1 280 281 (.ref 282) (.ref 283) 284 565) ::
(nat_lit 286,fo "_law_whole" "_law_whole" (top 34) .none .none (.str "law_doubthall_k02_rows_refused" 448) 285) ::
(nat_lit 292,co "_law_same" "_law_same" 568 171 2 287 288 (.ref 289) (.ref 290) 291 574) ::
(nat_lit 293,fo "_law_same" "_law_same" (top 35) .none .none (.str "law_doubthall_k02_rows_refused" 448) 292) ::
(nat_lit 299,co "_law_made" "_law_made" 577 184 1 294 295 (.ref 296) (.ref 297) 298 584) ::
(nat_lit 300,fo "_law_made" "_law_made" (top 36) .none .none (.str "law_doubthall_k02_rows_refused" 448) 299) ::
(nat_lit 306,co "_law_right" "_law_right" 587 191 3 301 302 (.ref 303) (.ref 304) 305 597) ::
(nat_lit 307,fo "_law_right" "_law_right" (top 37) .none .none (.str "law_doubthall_k02_rows_refused" 448) 306) ::
(nat_lit 313,co "law" "law" 600 201 1 308 309 (.ref 310) (.ref 311) 312 608) ::
(nat_lit 314,fo "law" "law" (top 38) .none .none (.str "law_doubthall_k02_rows_refused" 448) 313) :: []
noncomputable def ka:List Addr:=[2,3,23,24,40,41,43,44,55,56,67,68,79,80,91,92,103,104,115,116,127,128,139,140,151,152,163,164,175,176,179,183,184,190,191,195,196,197,203,204,210,211,217,218,224,225,231,232,238,239,245,246,252,253,259,260,266,267,271,272,278,279,285,286,292,293,299,300,306,307,313,314]
theorem h_said:PySem.W.Fast.tw9446332074065402090 PySem.Challenge.rw_doubthall_k02_rows_refused=true:=by kernel_rfl
theorem h_one (w:World) (os:OsState):end_ PySem.Challenge.pw_doubthall_k02_rows_refused (only PySem.Challenge.pw_doubthall_k02_rows_refused (top 38)) ka w os 3577=some (true,openGood (only PySem.Challenge.pw_doubthall_k02_rows_refused (top 38)) (QbC PySem.Challenge.pw_doubthall_k02_rows_refused),(kk w.params).map fun x=>some x.2):=by kernel_rfl
end K02
open PySem PySem.W PyProof.Rows
set_option maxRecDepth 100000 in
set_option maxHeartbeats 8000000 in
theorem PySem.Challenge.cw_doubthall_k02_rows_refused_holds : PySem.Challenge.rw_doubthall_k02_rows_refused.Holds := by
  refine HD.opens (K:=K02.kk) (as:=K02.ka) (st:=K02.top 38) (N:=3577) K02.h_said (by kernel_rfl) (fun s=>by kernel_rfl) (by kernel_rfl) K02.h_one (fun P=>by kernel_rfl) (by kernel_rfl) (by kernel_rfl) (by kernel_rfl) (by kernel_rfl) ⟨rfl,rfl,rfl,rfl,rfl,by decide +kernel⟩ ?hw ?hc
  (case hw=>w_witness2)
  k_fill
  refine K02.walk (l:=PySem.Challenge.rw_doubthall_k02_rows_refused) rfl rfl (fun w h Y=>Y) L2.PM.trueOn_ok ?F
  case F =>
    intro w mg fa h KX G hmg
    refine' K02.all_mk K02.law_true KX G hmg ?isn ?ist ?xa_HallError ?xa_RowError ?xa_NoRow ?xa_TooMany ?xa_Twice ?xa_Headed ?xa_NotTurn ?xa_NoDoubt ?xa_NoReply ?xa_NoAsk ?xa_NoWord ?xa_NotGuess ?xa_NotTold ?xy_HallError ?xk_HallError ?xg_RowError ?xh_RowError ?xb_RowError ?xo_RowError ?xc_RowError ?xno_RowError ?xhd_RowError ?xnw_RowError ?xsa_RowError ?xi_RowError ?xkp_RowError ?xy_RowError ?xk_RowError ?xg_NoRow ?xh_NoRow ?xb_NoRow ?xo_NoRow ?xc_NoRow ?xno_NoRow ?xhd_NoRow ?xnw_NoRow ?xsa_NoRow ?xi_NoRow ?xkp_NoRow ?xy_NoRow ?xk_NoRow ?xg_TooMany ?xh_TooMany ?xb_TooMany ?xo_TooMany ?xc_TooMany ?xno_TooMany ?xhd_TooMany ?xnw_TooMany ?xsa_TooMany ?xi_TooMany ?xkp_TooMany ?xy_TooMany ?xk_TooMany ?xg_Twice ?xh_Twice ?xb_Twice ?xo_Twice ?xc_Twice ?xno_Twice ?xhd_Twice ?xnw_Twice ?xsa_Twice ?xi_Twice ?xkp_Twice ?xy_Twice ?xk_Twice ?xg_Headed ?xh_Headed ?xb_Headed ?xo_Headed ?xc_Headed ?xno_Headed ?xhd_Headed ?xnw_Headed ?xsa_Headed ?xi_Headed ?xkp_Headed ?xy_Headed ?xk_Headed ?xy_NotTurn ?xk_NotTurn ?xy_NoDoubt ?xk_NoDoubt ?xy_NoReply ?xk_NoReply ?xy_NoAsk ?xk_NoAsk ?xy_NoWord ?xk_NoWord ?xy_NotGuess ?xk_NotGuess ?xy_NotTold ?xk_NotTold ?xv_RowError ?xs_RowError_HallError ?xs_RowError_RowError ?xs_RowError_NoRow ?ne_RowError_NoRow ?xs_RowError_TooMany ?ne_RowError_TooMany ?xs_RowError_Twice ?ne_RowError_Twice ?xs_RowError_Headed ?ne_RowError_Headed ?xs_RowError_NotTurn ?ne_RowError_NotTurn ?xs_RowError_NoDoubt ?ne_RowError_NoDoubt ?xs_RowError_NoReply ?ne_RowError_NoReply ?xs_RowError_NoAsk ?ne_RowError_NoAsk ?xs_RowError_NoWord ?ne_RowError_NoWord ?xs_RowError_NotGuess ?ne_RowError_NotGuess ?xs_RowError_NotTold ?ne_RowError_NotTold ?xv_NoRow ?xs_NoRow_HallError ?xs_NoRow_RowError ?xs_NoRow_NoRow ?xs_NoRow_TooMany ?ne_NoRow_TooMany ?xs_NoRow_Twice ?ne_NoRow_Twice ?xs_NoRow_Headed ?ne_NoRow_Headed ?xs_NoRow_NotTurn ?ne_NoRow_NotTurn ?xs_NoRow_NoDoubt ?ne_NoRow_NoDoubt ?xs_NoRow_NoReply ?ne_NoRow_NoReply ?xs_NoRow_NoAsk ?ne_NoRow_NoAsk ?xs_NoRow_NoWord ?ne_NoRow_NoWord ?xs_NoRow_NotGuess ?ne_NoRow_NotGuess ?xs_NoRow_NotTold ?ne_NoRow_NotTold ?xv_TooMany ?xs_TooMany_HallError ?xs_TooMany_RowError ?xs_TooMany_NoRow ?ne_TooMany_NoRow ?xs_TooMany_TooMany ?xs_TooMany_Twice ?ne_TooMany_Twice ?xs_TooMany_Headed ?ne_TooMany_Headed ?xs_TooMany_NotTurn ?ne_TooMany_NotTurn ?xs_TooMany_NoDoubt ?ne_TooMany_NoDoubt ?xs_TooMany_NoReply ?ne_TooMany_NoReply ?xs_TooMany_NoAsk ?ne_TooMany_NoAsk ?xs_TooMany_NoWord ?ne_TooMany_NoWord ?xs_TooMany_NotGuess ?ne_TooMany_NotGuess ?xs_TooMany_NotTold ?ne_TooMany_NotTold ?xv_Twice ?xs_Twice_HallError ?xs_Twice_RowError ?xs_Twice_NoRow ?ne_Twice_NoRow ?xs_Twice_TooMany ?ne_Twice_TooMany ?xs_Twice_Twice ?xs_Twice_Headed ?ne_Twice_Headed ?xs_Twice_NotTurn ?ne_Twice_NotTurn ?xs_Twice_NoDoubt ?ne_Twice_NoDoubt ?xs_Twice_NoReply ?ne_Twice_NoReply ?xs_Twice_NoAsk ?ne_Twice_NoAsk ?xs_Twice_NoWord ?ne_Twice_NoWord ?xs_Twice_NotGuess ?ne_Twice_NotGuess ?xs_Twice_NotTold ?ne_Twice_NotTold ?xv_Headed ?xs_Headed_HallError ?xs_Headed_RowError ?xs_Headed_NoRow ?ne_Headed_NoRow ?xs_Headed_TooMany ?ne_Headed_TooMany ?xs_Headed_Twice ?ne_Headed_Twice ?xs_Headed_Headed ?xs_Headed_NotTurn ?ne_Headed_NotTurn ?xs_Headed_NoDoubt ?ne_Headed_NoDoubt ?xs_Headed_NoReply ?ne_Headed_NoReply ?xs_Headed_NoAsk ?ne_Headed_NoAsk ?xs_Headed_NoWord ?ne_Headed_NoWord ?xs_Headed_NotGuess ?ne_Headed_NotGuess ?xs_Headed_NotTold ?ne_Headed_NotTold ?a0 ?l0 ?c0 ?k0 ?a1 ?l1 ?c1 ?k1 ?a2 ?l2 ?c2 ?k2 ?a3 ?l3 ?c3 ?k3 ?a4 ?l4 ?c4 ?k4 ?a5 ?l5 ?c5 ?k5 ?a6 ?l6 ?c6 ?k6 ?a7 ?l7 ?c7 ?k7 ?a8 ?l8 ?c8 ?k8 ?a9 ?l9 ?c9 ?k9 ?i10 ?l10 ?c10 ?k10 ?a11 ?l11 ?c11 ?k11 ?t11 ?a12 ?l12 ?c12 ?k12 ?a13 ?l13 ?c13 ?k13 ?a14 ?l14 ?c14 ?k14 ?a15 ?l15 ?c15 ?k15 ?a16 ?l16 ?c16 ?k16 ?a17 ?l17 ?c17 ?k17 ?a18 ?l18 ?c18 ?k18 ?a19 ?l19 ?c19 ?k19 ?a20 ?l20 ?c20 ?k20 ?z_ValueError ?z_all ?z_bool ?z_int ?z_isinstance ?z_len ?z_range ?z_set ?z_str ?z_tuple ?g_MOST_IN_BODY ?g_MOST_LETTERS ?g_NO_WORDS ?gl_NO_WORDS ?dC
    (case isn=>k_is)
    (case ist=>k_is)
    (case xa_HallError=>k_is)
    (case xa_RowError=>k_is)
    (case xa_NoRow=>k_is)
    (case xa_TooMany=>k_is)
    (case xa_Twice=>k_is)
    (case xa_Headed=>k_is)
    (case xa_NotTurn=>k_is)
    (case xa_NoDoubt=>k_is)
    (case xa_NoReply=>k_is)
    (case xa_NoAsk=>k_is)
    (case xa_NoWord=>k_is)
    (case xa_NotGuess=>k_is)
    (case xa_NotTold=>k_is)
    (case xy_HallError=>k_is)
    (case xk_HallError=>k_is)
    (case xg_RowError=>k_is)
    (case xh_RowError=>k_is)
    (case xb_RowError=>k_is)
    (case xo_RowError=>k_is)
    (case xc_RowError=>k_is)
    (case xno_RowError=>k_is)
    (case xhd_RowError=>k_is)
    (case xnw_RowError=>kernel_rfl)
    (case xsa_RowError=>k_is)
    (case xi_RowError=>k_is)
    (case xkp_RowError=>k_is)
    (case xy_RowError=>k_is)
    (case xk_RowError=>k_is)
    (case xg_NoRow=>k_is)
    (case xh_NoRow=>k_is)
    (case xb_NoRow=>k_is)
    (case xo_NoRow=>k_is)
    (case xc_NoRow=>k_is)
    (case xno_NoRow=>k_is)
    (case xhd_NoRow=>k_is)
    (case xnw_NoRow=>kernel_rfl)
    (case xsa_NoRow=>k_is)
    (case xi_NoRow=>k_is)
    (case xkp_NoRow=>k_is)
    (case xy_NoRow=>k_is)
    (case xk_NoRow=>k_is)
    (case xg_TooMany=>k_is)
    (case xh_TooMany=>k_is)
    (case xb_TooMany=>k_is)
    (case xo_TooMany=>k_is)
    (case xc_TooMany=>k_is)
    (case xno_TooMany=>k_is)
    (case xhd_TooMany=>k_is)
    (case xnw_TooMany=>kernel_rfl)
    (case xsa_TooMany=>k_is)
    (case xi_TooMany=>k_is)
    (case xkp_TooMany=>k_is)
    (case xy_TooMany=>k_is)
    (case xk_TooMany=>k_is)
    (case xg_Twice=>k_is)
    (case xh_Twice=>k_is)
    (case xb_Twice=>k_is)
    (case xo_Twice=>k_is)
    (case xc_Twice=>k_is)
    (case xno_Twice=>k_is)
    (case xhd_Twice=>k_is)
    (case xnw_Twice=>kernel_rfl)
    (case xsa_Twice=>k_is)
    (case xi_Twice=>k_is)
    (case xkp_Twice=>k_is)
    (case xy_Twice=>k_is)
    (case xk_Twice=>k_is)
    (case xg_Headed=>k_is)
    (case xh_Headed=>k_is)
    (case xb_Headed=>k_is)
    (case xo_Headed=>k_is)
    (case xc_Headed=>k_is)
    (case xno_Headed=>k_is)
    (case xhd_Headed=>k_is)
    (case xnw_Headed=>kernel_rfl)
    (case xsa_Headed=>k_is)
    (case xi_Headed=>k_is)
    (case xkp_Headed=>k_is)
    (case xy_Headed=>k_is)
    (case xk_Headed=>k_is)
    (case xy_NotTurn=>k_is)
    (case xk_NotTurn=>k_is)
    (case xy_NoDoubt=>k_is)
    (case xk_NoDoubt=>k_is)
    (case xy_NoReply=>k_is)
    (case xk_NoReply=>k_is)
    (case xy_NoAsk=>k_is)
    (case xk_NoAsk=>k_is)
    (case xy_NoWord=>k_is)
    (case xk_NoWord=>k_is)
    (case xy_NotGuess=>k_is)
    (case xk_NotGuess=>k_is)
    (case xy_NotTold=>k_is)
    (case xk_NotTold=>k_is)
    (case xv_RowError=>k_is)
    (case xs_RowError_HallError=>k_is)
    (case xs_RowError_RowError=>k_is)
    (case xs_RowError_NoRow=>k_is)
    (case ne_RowError_NoRow=>rfl)
    (case xs_RowError_TooMany=>k_is)
    (case ne_RowError_TooMany=>rfl)
    (case xs_RowError_Twice=>k_is)
    (case ne_RowError_Twice=>rfl)
    (case xs_RowError_Headed=>k_is)
    (case ne_RowError_Headed=>rfl)
    (case xs_RowError_NotTurn=>k_is)
    (case ne_RowError_NotTurn=>rfl)
    (case xs_RowError_NoDoubt=>k_is)
    (case ne_RowError_NoDoubt=>rfl)
    (case xs_RowError_NoReply=>k_is)
    (case ne_RowError_NoReply=>rfl)
    (case xs_RowError_NoAsk=>k_is)
    (case ne_RowError_NoAsk=>rfl)
    (case xs_RowError_NoWord=>k_is)
    (case ne_RowError_NoWord=>rfl)
    (case xs_RowError_NotGuess=>k_is)
    (case ne_RowError_NotGuess=>rfl)
    (case xs_RowError_NotTold=>k_is)
    (case ne_RowError_NotTold=>rfl)
    (case xv_NoRow=>k_is)
    (case xs_NoRow_HallError=>k_is)
    (case xs_NoRow_RowError=>k_is)
    (case xs_NoRow_NoRow=>k_is)
    (case xs_NoRow_TooMany=>k_is)
    (case ne_NoRow_TooMany=>rfl)
    (case xs_NoRow_Twice=>k_is)
    (case ne_NoRow_Twice=>rfl)
    (case xs_NoRow_Headed=>k_is)
    (case ne_NoRow_Headed=>rfl)
    (case xs_NoRow_NotTurn=>k_is)
    (case ne_NoRow_NotTurn=>rfl)
    (case xs_NoRow_NoDoubt=>k_is)
    (case ne_NoRow_NoDoubt=>rfl)
    (case xs_NoRow_NoReply=>k_is)
    (case ne_NoRow_NoReply=>rfl)
    (case xs_NoRow_NoAsk=>k_is)
    (case ne_NoRow_NoAsk=>rfl)
    (case xs_NoRow_NoWord=>k_is)
    (case ne_NoRow_NoWord=>rfl)
    (case xs_NoRow_NotGuess=>k_is)
    (case ne_NoRow_NotGuess=>rfl)
    (case xs_NoRow_NotTold=>k_is)
    (case ne_NoRow_NotTold=>rfl)
    (case xv_TooMany=>k_is)
    (case xs_TooMany_HallError=>k_is)
    (case xs_TooMany_RowError=>k_is)
    (case xs_TooMany_NoRow=>k_is)
    (case ne_TooMany_NoRow=>rfl)
    (case xs_TooMany_TooMany=>k_is)
    (case xs_TooMany_Twice=>k_is)
    (case ne_TooMany_Twice=>rfl)
    (case xs_TooMany_Headed=>k_is)
    (case ne_TooMany_Headed=>rfl)
    (case xs_TooMany_NotTurn=>k_is)
    (case ne_TooMany_NotTurn=>rfl)
    (case xs_TooMany_NoDoubt=>k_is)
    (case ne_TooMany_NoDoubt=>rfl)
    (case xs_TooMany_NoReply=>k_is)
    (case ne_TooMany_NoReply=>rfl)
    (case xs_TooMany_NoAsk=>k_is)
    (case ne_TooMany_NoAsk=>rfl)
    (case xs_TooMany_NoWord=>k_is)
    (case ne_TooMany_NoWord=>rfl)
    (case xs_TooMany_NotGuess=>k_is)
    (case ne_TooMany_NotGuess=>rfl)
    (case xs_TooMany_NotTold=>k_is)
    (case ne_TooMany_NotTold=>rfl)
    (case xv_Twice=>k_is)
    (case xs_Twice_HallError=>k_is)
    (case xs_Twice_RowError=>k_is)
    (case xs_Twice_NoRow=>k_is)
    (case ne_Twice_NoRow=>rfl)
    (case xs_Twice_TooMany=>k_is)
    (case ne_Twice_TooMany=>rfl)
    (case xs_Twice_Twice=>k_is)
    (case xs_Twice_Headed=>k_is)
    (case ne_Twice_Headed=>rfl)
    (case xs_Twice_NotTurn=>k_is)
    (case ne_Twice_NotTurn=>rfl)
    (case xs_Twice_NoDoubt=>k_is)
    (case ne_Twice_NoDoubt=>rfl)
    (case xs_Twice_NoReply=>k_is)
    (case ne_Twice_NoReply=>rfl)
    (case xs_Twice_NoAsk=>k_is)
    (case ne_Twice_NoAsk=>rfl)
    (case xs_Twice_NoWord=>k_is)
    (case ne_Twice_NoWord=>rfl)
    (case xs_Twice_NotGuess=>k_is)
    (case ne_Twice_NotGuess=>rfl)
    (case xs_Twice_NotTold=>k_is)
    (case ne_Twice_NotTold=>rfl)
    (case xv_Headed=>k_is)
    (case xs_Headed_HallError=>k_is)
    (case xs_Headed_RowError=>k_is)
    (case xs_Headed_NoRow=>k_is)
    (case ne_Headed_NoRow=>rfl)
    (case xs_Headed_TooMany=>k_is)
    (case ne_Headed_TooMany=>rfl)
    (case xs_Headed_Twice=>k_is)
    (case ne_Headed_Twice=>rfl)
    (case xs_Headed_Headed=>k_is)
    (case xs_Headed_NotTurn=>k_is)
    (case ne_Headed_NotTurn=>rfl)
    (case xs_Headed_NoDoubt=>k_is)
    (case ne_Headed_NoDoubt=>rfl)
    (case xs_Headed_NoReply=>k_is)
    (case ne_Headed_NoReply=>rfl)
    (case xs_Headed_NoAsk=>k_is)
    (case ne_Headed_NoAsk=>rfl)
    (case xs_Headed_NoWord=>k_is)
    (case ne_Headed_NoWord=>rfl)
    (case xs_Headed_NotGuess=>k_is)
    (case ne_Headed_NotGuess=>rfl)
    (case xs_Headed_NotTold=>k_is)
    (case ne_Headed_NotTold=>rfl)
    (case a0=>k_is)
    (case l0=>k_is)
    (case c0=>k_is)
    (case k0=>k_is)
    (case a1=>k_is)
    (case l1=>k_is)
    (case c1=>k_is)
    (case k1=>k_is)
    (case a2=>k_is)
    (case l2=>k_is)
    (case c2=>k_is)
    (case k2=>k_is)
    (case a3=>k_is)
    (case l3=>k_is)
    (case c3=>k_is)
    (case k3=>k_is)
    (case a4=>k_is)
    (case l4=>k_is)
    (case c4=>k_is)
    (case k4=>k_is)
    (case a5=>k_is)
    (case l5=>k_is)
    (case c5=>k_is)
    (case k5=>k_is)
    (case a6=>k_is)
    (case l6=>k_is)
    (case c6=>k_is)
    (case k6=>k_is)
    (case a7=>k_is)
    (case l7=>k_is)
    (case c7=>k_is)
    (case k7=>k_is)
    (case a8=>k_is)
    (case l8=>k_is)
    (case c8=>k_is)
    (case k8=>k_is)
    (case a9=>k_is)
    (case l9=>k_is)
    (case c9=>k_is)
    (case k9=>k_is)
    (case i10=>k_is)
    (case l10=>k_is)
    (case c10=>k_is)
    (case k10=>k_is)
    (case a11=>k_is)
    (case l11=>k_is)
    (case c11=>k_is)
    (case k11=>k_is)
    (case t11=>k_is)
    (case a12=>k_is)
    (case l12=>k_is)
    (case c12=>k_is)
    (case k12=>k_is)
    (case a13=>k_is)
    (case l13=>k_is)
    (case c13=>k_is)
    (case k13=>k_is)
    (case a14=>k_is)
    (case l14=>k_is)
    (case c14=>k_is)
    (case k14=>k_is)
    (case a15=>k_is)
    (case l15=>k_is)
    (case c15=>k_is)
    (case k15=>k_is)
    (case a16=>k_is)
    (case l16=>k_is)
    (case c16=>k_is)
    (case k16=>k_is)
    (case a17=>k_is)
    (case l17=>k_is)
    (case c17=>k_is)
    (case k17=>k_is)
    (case a18=>k_is)
    (case l18=>k_is)
    (case c18=>k_is)
    (case k18=>k_is)
    (case a19=>k_is)
    (case l19=>k_is)
    (case c19=>k_is)
    (case k19=>k_is)
    (case a20=>k_is)
    (case l20=>k_is)
    (case c20=>k_is)
    (case k20=>k_is)
    (case z_ValueError=>k_is)
    (case z_all=>k_is)
    (case z_bool=>k_is)
    (case z_int=>k_is)
    (case z_isinstance=>k_is)
    (case z_len=>k_is)
    (case z_range=>k_is)
    (case z_set=>k_is)
    (case z_str=>k_is)
    (case z_tuple=>k_is)
    (case g_MOST_IN_BODY=>k_is)
    (case g_MOST_LETTERS=>k_is)
    (case g_NO_WORDS=>k_is)
    (case gl_NO_WORDS=>k_is)
    (case dC=>decide)
