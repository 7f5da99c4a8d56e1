import PyProof.Rows.All
import Wide.All
import OpenK.AllK
import Wide.FinOn
import Lean
import PyProof.EqAt
import PyProof.EqKinds
import PyProof.TupleCall
import KE.BitLaws
import KE.KRevIter
import KE.KUnpack
import KE.KSortTup
import PyProof.Rows.StrOver
import PyProof.ZipIter
import PyProof.StrLawsChain
import PyProof.StrBlock
import PyProof.FitsReplace
import PySem.Challenge.RW_doubthall_k32_moves
set_option compiler.extract_closed false

-- CHANGE: your row's module here,as the last of these rows
set_option Elab.async false
set_option linter.all false
set_option maxRecDepth 100000
namespace L2
open PySem PySem.Spec PyProof.Rows

noncomputable abbrev Key:=Sum Int Str
noncomputable def keyIs:Key→Value→Bool
  | .inl k,v=>Value.isInt k v
  | .inr x,v=>Value.isStrOf x v
noncomputable def keyH (w:World):Key→Int
  | .inl k=>hashInt k
  | .inr x=>hashStr w x
theorem Zu:∀ {k:Key} {v:Value},keyIs k v=true→(∃ i t,k=Sum.inl i∧v=Value.int i t)∨(∃ x t,k=Sum.inr x∧v=Value.str x t)
  | .inl i,v,h=>by
    obtain ⟨t,e⟩:=Value.isInt_shape (k:=i) (v:=v) h
    exact .inl ⟨i,t,rfl,e⟩
  | .inr x,v,h=>by
    obtain ⟨t,e⟩:=Value.isStrOf_shape (x:=x) (v:=v) h
    exact .inr ⟨x,t,rfl,e⟩
theorem key_ll (a b:Int):decide ((Sum.inl a:Key)=Sum.inl b)=(a==b):=by
  by_cases e:a=b
  · subst e;simp
  · have h:¬ (Sum.inl a:Key)=Sum.inl b:=fun q=>e (Sum.inl.inj q)
    rw [decide_eq_false h]
    exact (beq_eq_false_iff_ne.mpr e).symm
theorem key_rr (a b:Str):decide ((Sum.inr a:Key)=Sum.inr b)=decide (a=b):=by
  by_cases e:a=b
  · subst e;simp
  · have h:¬ (Sum.inr a:Key)=Sum.inr b:=fun q=>e (Sum.inr.inj q)
    rw [decide_eq_false h,decide_eq_false e]
theorem key_lr (a:Int) (b:Str):decide ((Sum.inl a:Key)=Sum.inr b)=false:=decide_eq_false (fun q=>nomatch q)
theorem key_rl (a:Str) (b:Int):decide ((Sum.inr a:Key)=Sum.inl b)=false:=decide_eq_false (fun q=>nomatch q)

noncomputable def QfM (prog:Program) (w:World):PySem.KeyKind prog w Key where
  is:=keyIs
  hash:=keyH w
  inj:=fun v a b ha hb=>by
    rcases Zu ha with ⟨i,t,rfl,rfl⟩ | ⟨x,t,rfl,rfl⟩
    · rcases Zu hb with ⟨j,u,rfl,e⟩ | ⟨y,u,rfl,e⟩
      · injection e with e1 _;rw [e1]
      · exact nomatch e
    · rcases Zu hb with ⟨j,u,rfl,e⟩ | ⟨y,u,rfl,e⟩
      · exact nomatch e
      · injection e with e1 _;rw [e1]
  byValue:=fun k v h=>by
    rcases Zu h with ⟨i,t,rfl,rfl⟩ | ⟨x,t,rfl,rfl⟩ <;> rfl
  pyHash:=fun hv h=>by
    rcases Zu hv with ⟨i,t,rfl,rfl⟩ | ⟨x,t,rfl,rfl⟩
    · exact wpAny_pyHash_int h
    · exact wpAny_pyHash_str h
  eqBool:=fun hu hv h=>by
    rcases Zu hu with ⟨i,t,rfl,rfl⟩ | ⟨x,t,rfl,rfl⟩
    · rcases Zu hv with ⟨j,u,rfl,rfl⟩ | ⟨y,u,rfl,rfl⟩
      · rw [key_ll] at h;exact wpAny_eqBool_int h
      · rw [key_lr] at h;exact SeqAt.EqAt.int_str i t y u _ _ _ _ h
    · rcases Zu hv with ⟨j,u,rfl,rfl⟩ | ⟨y,u,rfl,rfl⟩
      · rw [key_rl] at h;exact SeqAt.EqAt.str_int x t j u _ _ _ _ h
      · rw [key_rr] at h;exact wpAny_eqBool_str h
  «strs»:=fun k x t v h=>by
    rcases Zu h with ⟨i,u,rfl,e⟩ | ⟨y,u,rfl,e⟩
    · exact nomatch e
    · injection e with e1 _
      subst e1
      cases v <;> rfl

end L2

namespace L2
open PySem PySem.Spec PyProof.Rows

inductive V where
  | non | bl (b:Bool) | int (i:Int) | str (x:Str) | byt (b:Array UInt8) | flt (b:UInt64) | ref (a:Addr) | ty (n:String)
  deriving DecidableEq

noncomputable def RelV:V→Value→Prop
  | .non,u=>u=Value.none
  | .bl b,u=>u=Value.bool b
  | .int i,u=>∃ t,u=Value.int i t
  | .str x,u=>∃ t,u=Value.str x t
  | .byt b,u=>∃ t,u=Value.bytes b t
  | .flt b,u=>∃ t,u=Value.float b t
  | .ref a,u=>u=Value.ref a
  | .ty n,u=>u=Value.type n

noncomputable abbrev Vals:List V→List Value→Prop:=Paired RelV
theorem Vals.length {xs:List V} {us:List Value} (r:Vals xs us):xs.length=us.length:=Paired.length r
theorem Vals.get:∀ {xs:List V} {us:List Value} {i:Nat} {x:V},Vals xs us→xs[i]?=some x→∃ u,us[i]?=some u∧RelV x u
  | _,_,_,_,.nil,e=>by simp at e
  | _,_,0,_,.cons r _,e=>by simp at e;subst e;exact ⟨_,rfl,r⟩
  | _,_,i + 1,x,.cons _ t,e=>by
    obtain ⟨u,h1,h2⟩:=Vals.get (i:=i) (x:=x) t (by simpa using e)
    exact ⟨u,by simpa using h1,h2⟩
theorem Vals.set {x:V} {u:Value} (r:RelV x u):∀ {xs:List V} {us:List Value} (i:Nat),Vals xs us→Vals (xs.set i x) (us.set i u)
  | _,_,_,.nil => .nil
  | _,_,0,.cons _ t => .cons r t
  | _,_,i + 1,.cons q t => .cons q (Vals.set r i t)
theorem Vals.append:∀ {xs ys:List V} {us ws:List Value},Vals xs us→Vals ys ws→Vals (xs++ys) (us++ws)
  | _,_,_,_,.nil,s=>s
  | _,_,_,_,.cons r t,s => .cons r (Vals.append t s)
theorem Vals.take:∀ {xs:List V} {us:List Value} (n:Nat),Vals xs us→Vals (xs.take n) (us.take n)
  | _,_,0,_ => .nil
  | _,_,_ + 1,.nil => .nil
  | _,_,n + 1,.cons r t => .cons r (Vals.take n t)
theorem Vals.drop:∀ {xs:List V} {us:List Value} (n:Nat),Vals xs us→Vals (xs.drop n) (us.drop n)
  | _,_,0,r=>r
  | _,_,_ + 1,.nil => .nil
  | _,_,n + 1,.cons _ t=>Vals.drop n t
theorem Vals.none_of:∀ {xs:List V} {us:List Value} {i:Nat},Vals xs us→xs[i]?=none→us[i]?=none:=fun {xs us i} r e=>by
  have h1:=r.length
  have h2:xs.length≤i:=List.getElem?_eq_none_iff.mp e
  exact List.getElem?_eq_none_iff.mpr (by omega)

noncomputable def RelO:Option V→Option Value→Prop
  | some v,some u=>RelV v u
  | none,none=>True
  | _,_=>False
noncomputable def KV {κ:Type}:List (κ×V)→List (κ×Value)→Prop:=Paired fun (p : κ×V) (q : κ×Value)=>p.1=q.1∧RelV p.2 q.2

noncomputable def kV:Key→V
  | .inl i => .int i
  | .inr x => .str x

inductive HO where
  /-- a list -/
  | lst (xs:List V)
  /-- a tuple (never changes) -/
  | tup (xs:List V)
  /-- a dict whose keys are ints and texts;one whose keys are tuples of ints and texts (the empty one is both) -/
  | dK (kvs:List (Key×V)) | dT (kvs:List (List Key×V))
  /-- a set of ints: its members,its size -/
  | set (S:Int→Bool) (n:Nat)
  /-- an instance of the class at C,its dict at dx,its attributes -/
  | ins (C dx:Addr) (fs:List (Str×V))
  /-- the dict of the instance at x -/
  | own (x:Addr)
  /-- the dict of an exception -/
  | xd (fs:List (Str×V))
  /-- a bound method,f of x -/
  | met (f x:Addr)
  /-- a range object lo,lo + 1,.. below hi -/
  | rng (lo hi:Int)
  /-- a thing that is known to the object (the script;a dict while a loop walks it): read,never written while it is so -/
  | frz (o:Obj) (u:HO)
  /-- a code object's table -/
  | tbl (ps:Array Value)
  /-- any other thing,by what is true of its one object (a def of one's own: SetO a S n:=HO.ext fun h => ..) -/
  | ext (φ:Heap→Prop)

noncomputable abbrev Hp:=Addr→Option HO
noncomputable def upd (H:Hp) (a:Addr) (o:HO):Hp:=fun b=>if b=a then some o else H b
theorem Qp {H:Hp} {a:Addr} {o:HO}:upd H a o a=some o:=by unfold upd;rw [if_pos rfl]
theorem Ql {H:Hp} {a b:Addr} {o:HO} (h:b≠a):upd H a o b=H b:=by unfold upd;rw [if_neg h]
theorem Qo {H:Hp} {a b:Addr} {o:HO} (h:H a=some o) (h':H b=none):a≠b:=by
  intro e;subst e;rw [h] at h';cases h'

section
variable (P:Program) (w:World)
noncomputable def Qak (h:Heap) (a:Addr) (items:Array Value) (xs:List V):Prop:=∃ o,h.get? a=some o∧o.cls = .type "tuple"∧(o.dict=none∨∃ (i:Int) (y:V),xs=[V.int i,y])∧∃ n,o.data = .seq items n
theorem Qak.is {h:Heap} {a:Addr} {items:Array Value} {xs:List V} (x:Qak h a items xs):IsTup h a items:=let ⟨o,h1,h2,_,h3⟩:=x;⟨o,h1,h2,h3⟩
theorem Qak.new (h:Heap) (items:Array Value) (xs:List V):Qak (h.push { cls := .type "tuple",data := .seq items }) h.objs.size items xs:=⟨_,Heap.get?_push_size _ rfl,rfl,.inl rfl,_,rfl⟩
theorem Qak.pair {h:Heap} {a:Addr} {items:Array Value} {i:Int} {y:V} (x:IsTup h a items):Qak h a items [V.int i,y]:=let ⟨o,h1,h2,h3⟩:=x;⟨o,h1,h2,.inr ⟨i,y,rfl⟩,h3⟩
noncomputable def Xn (H:Hp) (h:Heap) (a:Addr):HO→Prop
  | .lst xs=>xs.length≤sizeLine∧∃ (its:List Value) (n:Nat),Vals xs its∧h.get? a=some { cls := .type "list",data := .seq its.toArray n }
  | .tup xs=>xs.length≤sizeLine∧∃ its:List Value,Vals xs its∧Qak h a its.toArray xs
  | .dK kvs=>kvs.length≤sizeLine∧(a==sysModules)=false∧∃ vs,KV kvs vs∧h.DictOf (QfM P w) a vs
  | .dT kvs=>kvs.length≤sizeLine∧(a==sysModules)=false∧∃ xs:List (List Key×Addr×Value),
      Paired (fun (p:List Key×V) (q:List Key×Addr×Value)=>p.1=q.1∧H q.2.1=some (.tup (p.1.map kV))∧RelV p.2 q.2.2) kvs xs ∧
      ∃ o es ep,h.get? a=some o∧o.ExactDict∧o.data = .dict es ep∧es.toList=xs.map (entryOfKey (tupleKind (QfM P w)))∧(xs.map (·.1)).Nodup
  | .set S n=>h.SetOf (intKind P w) a S n
  | .ins C dx fs=>H dx=some (.own a)∧fs.length≤1000∧dx≠a∧h.get? a=some (PySem.W.instObj C dx) ∧
      ∃ mA,h.Ns1 dx mA∧(∀ f,RelO (fs.lookup f) (mA f))∧PySem.Within mA (fs.map (·.1))
  | .own _=>∃ o,h.get? a=some o
  | .xd fs=>∃ mA,h.Ns1 a mA∧∀ f,RelO (fs.lookup f) (mA f)
  | .rng lo hi=>∃ t u v,h.get? a=some { cls := .type "range",data := .fields #[.int lo t,.int hi u,.int 1 v] }
  | .frz o u=>h.get? a=some o∧Xn H h a u
  | .tbl ps=>h.get? a=some { cls := .none,data := .fields ps }
  | .met f x=>h.get? a=some (PySem.W.methodObj (.ref f) (.ref x))
  | .ext φ=>φ h∧(∃ o,h.get? a=some o)∧∀ h1 h2:Heap,φ h1→(∀ o,h1.get? a=some o→h2.get? a=some o)→φ h2
noncomputable def HOk (H:Hp) (h:Heap):Prop:=∀ a o,H a=some o→Xn P w H h a o
end

section
variable {P:Program} {w:World} {H H':Hp} {h h':Heap} {a:Addr} {o:HO}
theorem Xn.lt (x:Xn P w H h a o):a < h.objs.size:=by
  cases o with
  | lst xs=>obtain ⟨_,_,_,_,e⟩:=x;exact Heap.lt_size e
  | tup xs=>obtain ⟨_,_,_,p⟩:=x;exact p.is.lt
  | dK kvs=>obtain ⟨_,_,_,_,o,_,_,e,_⟩:=x;exact Heap.lt_size e
  | dT kvs=>obtain ⟨_,_,_,_,o,_,_,e,_⟩:=x;exact Heap.lt_size e
  | set S n=>obtain ⟨o,_,_,_,e,_⟩:=x;exact Heap.lt_size e
  | ins C dx fs=>obtain ⟨_,_,_,e,_⟩:=x;exact Heap.lt_size e
  | own y=>obtain ⟨_,e⟩:=x;exact Heap.lt_size e
  | xd fs=>obtain ⟨_,⟨_,_,_,e,_⟩,_⟩:=x;exact Heap.lt_size e
  | rng lo hi=>obtain ⟨_,_,_,e⟩:=x;exact Heap.lt_size e
  | frz ob u=>obtain ⟨e,_⟩:=x;exact Heap.lt_size e
  | tbl ps=>exact Heap.lt_size (show h.get? a=some _ from x)
  | met f y=>exact Heap.lt_size (show h.get? a=some _ from x)
  | ext φ=>obtain ⟨_,⟨_,e⟩,_⟩:=x;exact Heap.lt_size e
theorem Paired.mapP {α β:Type} {F G:α→β→Prop}:∀ {l₁:List α} {l₂:List β},Paired F l₁ l₂→(∀ a b,F a b→G a b)→Paired G l₁ l₂
  | _,_,.nil,_ => .nil
  | _,_,.cons r t,f => .cons (f _ _ r) (Paired.mapP t f)
theorem Xn.stay (x:Xn P w H h a o) (k:∀ b u,(b=a∨H b=some (.own a))→h.get? b=some u→h'.get? b=some u)
    (ho:∀ b,H b=some (.own a)→H' b=some (.own a)) (ht:∀ b xs,H b=some (.tup xs)→H' b=some (.tup xs)):Xn P w H' h' a o:=by
  induction o with
  | lst xs=>obtain ⟨z,its,n,r,e⟩:=x;exact ⟨z,its,n,r,k _ _ (.inl rfl) e⟩
  | tup xs=>obtain ⟨z,its,r,ob,e,c⟩:=x;exact ⟨z,its,r,ob,k _ _ (.inl rfl) e,c⟩
  | dK kvs=>obtain ⟨z,y,vs,r,ob,es,ep,e,c⟩:=x;exact ⟨z,y,vs,r,ob,es,ep,k _ _ (.inl rfl) e,c⟩
  | dT kvs =>
    obtain ⟨z,y,xs,r,ob,es,ep,e,c⟩:=x
    exact ⟨z,y,xs,Paired.mapP r fun p q z=>⟨z.1,ht _ _ z.2.1,z.2.2⟩,ob,es,ep,k _ _ (.inl rfl) e,c⟩
  | set S n=>obtain ⟨ob,es,ep,t,e,c⟩:=x;exact ⟨ob,es,ep,t,k _ _ (.inl rfl) e,c⟩
  | ins C dx fs =>
    obtain ⟨d,z,ne,e,mA,⟨od,es,ep,e2,c⟩,r⟩:=x
    exact ⟨ho _ d,z,ne,k _ _ (.inl rfl) e,mA,⟨od,es,ep,k _ _ (.inr d) e2,c⟩,r⟩
  | own y=>obtain ⟨ob,e⟩:=x;exact ⟨ob,k _ _ (.inl rfl) e⟩
  | xd fs=>obtain ⟨mA,⟨od,es,ep,e,c⟩,r⟩:=x;exact ⟨mA,⟨od,es,ep,k _ _ (.inl rfl) e,c⟩,r⟩
  | rng lo hi=>obtain ⟨t,u,v,e⟩:=x;exact ⟨t,u,v,k _ _ (.inl rfl) e⟩
  | frz ob u ih=>obtain ⟨e,q⟩:=x;exact ⟨k _ _ (.inl rfl) e,ih q⟩
  | tbl ps =>
    have e:h.get? a=some { cls := .none,data := .fields ps }:=x
    show h'.get? a=some { cls := .none,data := .fields ps }
    exact k a _ (.inl rfl) e
  | met f y =>
    have e:h.get? a=some (PySem.W.methodObj (.ref f) (.ref y)):=x
    show h'.get? a=some (PySem.W.methodObj (.ref f) (.ref y))
    exact k a _ (.inl rfl) e
  | ext φ=>obtain ⟨p,⟨o,e⟩,st⟩:=x;exact ⟨st _ _ p fun o q=>k _ _ (.inl rfl) q,⟨o,k _ _ (.inl rfl) e⟩,st⟩
theorem HOk.lt (x:HOk P w H h) (e:H a=some o):a < h.objs.size:=(x a o e).lt
theorem HOk.fresh (x:HOk P w H h) (e:h.objs.size≤a):H a=none:=by
  cases q:H a with
  | none=>rfl
  | some u=>exact absurd (Nat.lt_of_lt_of_le (x.lt q) e) (Nat.lt_irrefl _)
theorem HOk.kept (x:HOk P w H h) (k:∀ b u,h.get? b=some u→h'.get? b=some u):HOk P w H h':=fun a o e =>
  (x a o e).stay (fun b u _ q=>k b u q) (fun _ q=>q) fun _ _ q=>q
theorem HOk.laid (x:HOk P w H h) (k:∀ b u,h.get? b=some u→h'.get? b=some u) (hp:h.objs.size≤a) (new:Xn P w (upd H a o) h' a o):HOk P w (upd H a o) h':=fun b u e=>by
  have hn:=x.fresh hp
  by_cases hb:b=a
  · subst hb;rw [Qp] at e;cases e;exact new
  · rw [Ql hb] at e
    exact (x b u e).stay (fun c v _ q=>k c v q) (fun c q=>by rw [Ql (Qo q hn)];exact q) fun c xs q=>by rw [Ql (Qo q hn)];exact q
end

noncomputable def Rd (H:Hp) (a:Addr) (u:HO):Prop:=H a=some u∨∃ o,H a=some (.frz o u)
theorem Rd.of {H:Hp} {a:Addr} {u:HO} (h:H a=some u):Rd H a u := .inl h
theorem Rd.ok {P:Program} {w:World} {H:Hp} {h:Heap} {a:Addr} {u:HO} (r:Rd H a u) (x:HOk P w H h):Xn P w H h a u:=by
  rcases r with r | ⟨o,r⟩
  · exact x a u r
  · obtain ⟨_,q⟩:=x a _ r
    exact q
noncomputable def Mut:Option HO→Prop
  | some (.lst _)=>True
  | some (.dK _)=>True
  | some (.dT _)=>True
  | some (.set _ _)=>True
  | some (.ins _ _ _)=>True
  | some (.ext _)=>True
  | _=>False
section
variable {P:Program} {w:World} {H:Hp} {h h':Heap} {x e:Addr} {o':HO}
theorem HOk.write (ok:HOk P w H h) (mu:Mut (H x)) (he:e=x∨H e=some (.own x)) (k:∀ b u,b≠e→h.get? b=some u→h'.get? b=some u) (heo:∃ u,h'.get? e=some u)
    (new:Xn P w (upd H x o') h' x o'):HOk P w (upd H x o') h':=fun b u q=>by
  have nown:∀ c y,H c=some (.own y)→c≠x:=fun c y r z=>by subst z;rw [r] at mu;exact mu
  have ntup:∀ c xs,H c=some (.tup xs)→c≠x:=fun c xs r z=>by subst z;rw [r] at mu;exact mu
  by_cases hb:b=x
  · subst hb;rw [Qp] at q;cases q;exact new
  · rw [Ql hb] at q
    by_cases hbe:b=e
    · have q':H b=some (.own x):=by
        rcases he with z | z
        · exact absurd (hbe.trans z) hb
        · rw [hbe];exact z
      rw [q] at q';cases q'
      obtain ⟨v,hv⟩:=heo
      exact ⟨v,by rw [hbe];exact hv⟩
    · refine (ok b u q).stay (fun c v hc r=>k c v ?_ r) (fun c r=>by rw [Ql (nown c b r)];exact r) fun c xs r=>by rw [Ql (ntup c xs r)];exact r
      rcases hc with rfl | hc
      · exact hbe
      · rintro rfl
        rcases he with z | z
        · exact nown c b hc z
        · rw [hc] at z;cases z;exact hb rfl
end

structure Un (fs ex:List Addr) (H H':Hp) (h h':Heap):Prop where
  keep:∀ b o,h.get? b=some o→H b=none→b∉fs→b∉ex→h'.get? b=some o
  slot:∀ b o,h.get? b=some o→H b=none→b∈fs→b∉ex→∃ sl,h'.get? b=some { o with slots:=sl }
  free:∀ b o,h.get? b=some o→H b=none→b∉ex→H' b=none
  there:∀ b o,h.get? b=some o→b∉ex→∃ o',h'.get? b=some o'
  tups:∀ b xs,H b=some (.tup xs)→H' b=some (.tup xs)
  frzs:∀ b o u,H b=some (.frz o u)→H' b=some (.frz o u)
  tbls:∀ b ps,H b=some (.tbl ps)→∃ more,H' b=some (.tbl (ps++more))
section
variable {fs fs' ex ex':List Addr} {H H1 H2:Hp} {h h1 h2 h':Heap} {a x e:Addr} {o:HO}
theorem Un.any (u:Un fs ex H H1 h h1) {b:Addr} {ob:Obj} (q:h.get? b=some ob) (n:H b=none) (hx:b∉ex):∃ sl,h1.get? b=some { ob with slots:=sl }:=by
  by_cases hb:b∈fs
  · exact u.slot b ob q n hb hx
  · exact ⟨ob.slots,u.keep b ob q n hb hx⟩
theorem Un.trans (a:Un fs ex H H1 h h1) (b:Un fs ex H1 H2 h1 h2):Un fs ex H H2 h h2 where
  keep:=fun c ob q n hc hx=>b.keep c ob (a.keep c ob q n hc hx) (a.free c ob q n hx) hc hx
  slot:=fun c ob q n hc hx=>by
    obtain ⟨sl,e1⟩:=a.slot c ob q n hc hx
    obtain ⟨sl',e2⟩:=b.slot c _ e1 (a.free c ob q n hx) hc hx
    exact ⟨sl',e2⟩
  free:=fun c ob q n hx=>by
    obtain ⟨o',e1⟩:=a.there c ob q hx
    exact b.free c o' e1 (a.free c ob q n hx) hx
  there:=fun c ob q hx=>by
    obtain ⟨o',e1⟩:=a.there c ob q hx
    exact b.there c o' e1 hx
  tups:=fun c xs q=>b.tups c xs (a.tups c xs q)
  frzs:=fun c ob xs q=>b.frzs c ob xs (a.frzs c ob xs q)
  tbls:=fun c ps q=>by
    obtain ⟨m1,e1⟩:=a.tbls c ps q
    obtain ⟨m2,e2⟩:=b.tbls c _ e1
    exact ⟨m1++m2,by rw [e2,Array.append_assoc]⟩
theorem Un.kept (k:∀ b u,h.get? b=some u→h'.get? b=some u):Un fs ex H H h h' :=
  ⟨fun b ob q _ _ _=>k b ob q,fun b ob q _ _ _=>⟨ob.slots,k b ob q⟩,fun _ _ _ n _=>n,fun b ob q _=>⟨ob,k b ob q⟩,fun _ _ q=>q,fun _ _ _ q=>q,fun _ ps q=>⟨#[],by rw [q];simp⟩⟩
theorem Un.refl:Un fs ex H H h h:=Un.kept fun _ _ q=>q
theorem Un.laid (k:∀ b u,h.get? b=some u→h'.get? b=some u) (hp:h.objs.size≤a) (hn:H a=none):Un fs ex H (upd H a o) h h' where
  keep:=fun b u q _ _ _=>k b u q
  slot:=fun b u q _ _ _=>⟨u.slots,k b u q⟩
  free:=fun b u q n _=>by rw [Ql (Nat.ne_of_lt (Nat.lt_of_lt_of_le (Heap.lt_size q) hp))];exact n
  there:=fun b u q _=>⟨u,k b u q⟩
  tups:=fun b xs q=>by rw [Ql (Qo q hn)];exact q
  frzs:=fun b u xs q=>by rw [Ql (Qo q hn)];exact q
  tbls:=fun b ps q=>⟨#[],by rw [Ql (Qo q hn),q];simp⟩
theorem Un.write (mu:Mut (H x)) (he:e=x∨H e=some (.own x)) (k:∀ b u,b≠e→h.get? b=some u→h'.get? b=some u) (heo:∃ u,h'.get? e=some u):Un fs ex H (upd H x o) h h':=by
  have hx:∀ b,H b=none→b≠x:=fun b n z=>by subst z;rw [n] at mu;exact mu
  have hb:∀ b,H b=none→b≠e:=fun b n z=>by
    subst z
    rcases he with r | r
    · exact hx b n r
    · rw [n] at r;cases r
  have hm:∀ b u,H b=some u→¬ Mut (some u)→b≠x:=fun b u q nm z=>by subst z;rw [q] at mu;exact nm mu
  refine ⟨fun b u q n _ _=>k b u (hb b n) q,fun b u q n _ _=>⟨u.slots,k b u (hb b n) q⟩,fun b u q n _=>by rw [Ql (hx b n)];exact n,fun b u q _ => ?_,
    fun b xs q=>by rw [Ql (hm b _ q fun z=>z)];exact q,fun b u xs q=>by rw [Ql (hm b _ q fun z=>z)];exact q,fun b ps q=>⟨#[],by rw [Ql (hm b _ q fun z=>z),q];simp⟩⟩
  by_cases hbe:b=e
  · subst hbe;exact heo
  · exact ⟨u,k b u hbe q⟩
theorem Un.mono (u:Un fs ex H H1 h h1) (hs:∀ b∈fs,b∈fs') (hx:∀ b∈ex,b∈ex'):Un fs' ex' H H1 h h1 :=
  ⟨fun b ob q n hb he=>u.keep b ob q n (fun z=>hb (hs b z)) fun z=>he (hx b z),fun _ _ q n _ he=>u.any q n fun z=>he (hx _ z),fun b ob q n he=>u.free b ob q n fun z=>he (hx b z),fun b ob q he=>u.there b ob q fun z=>he (hx b z),u.tups,u.frzs,u.tbls⟩
end

noncomputable def trk (h:Heap) (H:Hp):List Addr:=(List.range h.objs.size).filter fun a=>(H a).isSome
noncomputable def hidT (h:Heap) (H:Hp):Heap:=PySem.W.hideAll h (trk h H)
theorem QiZ (h:Heap) (H:Hp):(hidT h H).objs.size=h.objs.size:=PySem.W.hideAll_size _ _
theorem hidT_get {h:Heap} {H:Hp} {b:Addr} {o:Obj} (e:h.get? b=some o) (n:H b=none):(hidT h H).get? b=some o :=
  PySem.W.hideAll_get _ e fun hm=>by
    have q:(H b).isSome=true:=(List.mem_filter.mp hm).2
    rw [n] at q;simp at q
theorem of_hidT {h:Heap} {H:Hp} {b:Addr} {o:Obj} (e:(hidT h H).get? b=some o):h.get? b=some o∧H b=none:=by
  have e':h.get? b=some o:=PySem.W.of_hideAll (trk h H) e
  refine ⟨e',?_⟩
  cases q:H b with
  | none=>rfl
  | some x =>
    have hm:b∈trk h H:=List.mem_filter.mpr ⟨List.mem_range.mpr (Heap.lt_size e'),by simp [q]⟩
    have z:(hidT h H).get? b=none:=PySem.W.hideAll_none (trk h H) hm
    rw [z] at e;cases e

noncomputable def allNews (g h:Heap) (L:Addr):List (Addr×Obj):=(List.range h.objs.size).filterMap fun a=>if a=L∨(g.get? a).isSome=true then none else (h.get? a).map fun o=>(a,o)
noncomputable def rest (g h:Heap) (L d:Addr):List (Addr×Obj):=(allNews g h L).filter fun p=>decide (p.1≠d)
end L2

namespace L2
open PySem PySem.Spec PyProof.Rows

structure Mod (K:PySem.W.Frag) (mg:Str→Option Value) (base:Heap):Prop where
  kin:K.In base
  glob:base.Ns mainGlobals mg
  blt:∃ mb,base.Ns builtinsNs mb∧∀ x:Str,x ≠ "__name__"→mb x=bootBuiltins x
  nolimit:base.NoLimit

structure Cx where
  prog:Program
  w:World
  K:PySem.W.Frag
  mg:Str→Option Value
  base:Heap
  A:Around
  N:List Str
  s₀:Shared
  H₀:Hp
  env:Env
  outer:List Env
  stack:List Env
  ex:List Addr
  fn:Str→Bool
  calm:Bool
  pn:List (Addr×Obj)
  xe:Value→Shared→Prop
noncomputable def frs (l:List Env):List Addr:=l.filterMap (·.frame)
noncomputable abbrev Cx.fs (X:Cx):List Addr:=frs X.outer

noncomputable def Vis (sc:Scope) (x:Str):Prop:=sc.names.lookup x=some .local∨sc.names.lookup x=some .cell∨sc.names.lookup x=some .free
noncomputable def Loc (sc:Scope) (x:Str):Prop:=sc.names.lookup x=some .local∨sc.names.lookup x=some .cell
noncomputable def Look (env:Env) (h:Heap) (m:Str→Option Value) (x:Str) (u:Value):Prop :=
  (env.kindOf x=some .local∧m x=some u)∨((env.kindOf x=some .cell∨env.kindOf x=some .free)∧∃ c,env.cells.lookup x=some c∧h.IsCell c (some u))

structure Cx.Ok (X:Cx):Prop where
  mod:Mod X.K X.mg X.base
  kind:X.env.scope.kind = .function
  glob:X.env.globals=mainGlobals
  blt:X.env.builtins=builtinsNs
  above:X.s₀.heap.objs.size≤X.env.locals
  inj:∀ x y c,X.env.cells.lookup x=some c→X.env.cells.lookup y=some c→x=y
  has:∀ x,(X.env.kindOf x=some .cell∨X.env.kindOf x=some .free)→∃ c,X.env.cells.lookup x=some c
  cab:∀ x c,X.fn x=true→X.env.cells.lookup x=some c→X.s₀.heap.objs.size≤c
  hd:X.calm=true→X.A.handled=none
  frames:X.A.frames=some X.stack
  stk:X.stack=X.outer∨(X.stack=X.env :: X.outer∧X.env.frame=some X.env.locals)
  exf:∀ b∈X.ex,b≠X.env.locals∧∀ x c,X.env.cells.lookup x=some c→c≠b
  bs:∀ b o,X.base.get? b=some o→X.s₀.heap.get? b=some o∧X.H₀ b=none
  bsz:X.base.objs.size≤X.s₀.heap.objs.size
  noex:∀ b o,X.base.get? b=some o→b∉X.ex
  exfs:∀ b∈X.ex,b∉X.fs
  funs:X.s₀.heap.FunFrames X.base X.outer
  frf:∀ b∈X.fs,X.H₀ b=none

structure Inv (X:Cx) (pins:List (Addr×Obj)) (σ:List (Option V)) (H:Hp) (s:Shared):Prop where
  ok:X.Ok
  os:s.os=X.s₀.os
  bare:AllBare s.gens
  base:Un X.fs X.ex X.H₀ H X.s₀.heap s.heap
  loc:∃ m,s.heap.Ns X.env.locals m∧∀ (i:Nat) (x:Str) (v:V),X.N[i]?=some x→σ[i]?=some (some v)→Vis X.env.scope x→∃ u,RelV v u∧Look X.env s.heap m x u
  cell:∀ x c,X.env.cells.lookup x=some c→∃ v,s.heap.IsCell c v
  free:H X.env.locals=none
  freeC:∀ x c,X.env.cells.lookup x=some c→H c=none
  pin:∀ p∈X.pn++pins,s.heap.get? p.1=some p.2∧H p.1=none∧p.1≠X.env.locals∧p.1∉X.fs∧∀ v,p.2.data ≠ .cell v
  hok:HOk X.prog X.w H s.heap
  len:σ.length=X.N.length

section
variable {X:Cx} {pins:List (Addr×Obj)} {σ:List (Option V)} {H H':Hp} {s:Shared} {h':Heap}

theorem Cx.Ok.nofr (ok:X.Ok) {b:Addr} {o:Obj} (e:X.base.get? b=some o):b∉X.fs:=fun hb=>by
  have:=(ok.funs.mem hb).1
  rw [e] at this;cases this
theorem Inv.bs (I:Inv X pins σ H s):∀ b o,X.base.get? b=some o→s.heap.get? b=some o∧H b=none:=fun b o e =>
  ⟨I.base.keep b o (I.ok.bs b o e).1 (I.ok.bs b o e).2 (I.ok.nofr e) (I.ok.noex b o e),I.base.free b o (I.ok.bs b o e).1 (I.ok.bs b o e).2 (I.ok.noex b o e)⟩
theorem Inv.bk (I:Inv X pins σ H s):∀ b o,X.base.get? b=some o→s.heap.get? b=some o:=fun b o e=>(I.bs b o e).1
theorem Inv.mod (I:Inv X pins σ H s):Mod X.K X.mg X.base:=I.ok.mod
theorem Inv.kIn (I:Inv X pins σ H s):X.K.In s.heap:=I.ok.mod.kin.keeps I.bk
theorem Inv.nolimit (I:Inv X pins σ H s):s.heap.NoLimit:=I.ok.mod.nolimit.keeps I.bk
theorem Inv.lt (I:Inv X pins σ H s):X.env.locals < s.heap.objs.size:=let ⟨_,hn,_⟩:=I.loc;hn.lt
theorem Inv.sz (I:Inv X pins σ H s):X.s₀.heap.objs.size≤s.heap.objs.size:=Nat.le_trans I.ok.above (Nat.le_of_lt I.lt)
theorem Inv.nofs (I:Inv X pins σ H s) {a:Addr} (h:s.heap.objs.size≤a):a∉X.fs:=fun hb=>by
  obtain ⟨_,o,ho,_⟩:=I.ok.funs.mem hb
  exact absurd (Nat.lt_of_lt_of_le (Heap.lt_size ho) (Nat.le_trans I.sz h)) (Nat.lt_irrefl _)
theorem Inv.cne (I:Inv X pins σ H s):∀ x c,X.env.cells.lookup x=some c→c≠X.env.locals:=fun x c e z=>by
  obtain ⟨v,o,ho,hd⟩:=I.cell x c e
  obtain ⟨m,⟨o',es,ep,ho',hd',_⟩,_⟩:=I.loc
  rw [z,ho'] at ho;cases ho;rw [hd'] at hd;cases hd
theorem Inv.funs (I:Inv X pins σ H s):s.heap.FunFrames X.base X.outer:=by
  have all:∀ (l:List Env),(∀ b∈frs l,b∈X.fs)→X.s₀.heap.FunFrames X.base l→s.heap.FunFrames X.base l:=by
    intro l
    induction l with
    | nil=>intro _ _;trivial
    | cons env r ih =>
      intro hs hl
      obtain ⟨hk,⟨L,o,hf,hn,ho,hd⟩,hr⟩:=hl
      have hL:L∈X.fs:=hs L (by unfold frs;rw [List.filterMap_cons,hf];exact List.mem_cons_self)
      obtain ⟨sl,e⟩:=I.base.slot L o ho (I.ok.frf L hL) hL fun z=>I.ok.exfs L z hL
      exact ⟨hk,⟨L,_,hf,hn,e,hd⟩,ih (fun b hb=>hs b (by unfold frs;rw [List.filterMap_cons,hf];exact List.mem_cons_of_mem _ hb)) hr⟩
  exact all X.outer (fun _ hb=>hb) I.ok.funs

theorem Inv.stack (I:Inv X pins σ H s):s.heap.FunFrames X.base X.stack:=by
  rcases I.ok.stk with e | ⟨e,hf⟩
  · rw [e];exact I.funs
  · rw [e]
    obtain ⟨m,hn,_⟩:=I.loc
    refine .cons (by rw [I.ok.kind];decide) hf hn ?_ I.funs
    exact Heap.get?_none_of_le (Nat.le_trans I.ok.bsz I.ok.above)
theorem Inv.stkSub (I:Inv X pins σ H s):∀ b∈frs X.stack,b∈X.env.locals :: X.fs:=fun b hb=>by
  rcases I.ok.stk with e | ⟨e,hf⟩
  · rw [e] at hb;exact List.mem_cons_of_mem _ hb
  · rw [e] at hb
    unfold frs at hb
    rw [List.filterMap_cons,hf] at hb
    exact hb
theorem Inv.stkFree (I:Inv X pins σ H s):∀ b∈frs X.stack,H b=none:=fun b hb=>by
  rcases List.mem_cons.mp (I.stkSub b hb) with e | hb
  · rw [e];exact I.free
  · obtain ⟨_,o,ho,_⟩:=I.ok.funs.mem hb
    exact I.base.free b o ho (I.ok.frf b hb) fun z=>I.ok.exfs b z hb

theorem Inv.step {g':Array GenState} {t':Nat} {d':Drawn} {ch:List Addr} (I:Inv X pins σ H s)
    (hch:∀ b∈ch,(b∈X.ex∨X.s₀.heap.objs.size≤b)∧b≠X.env.locals∧(∀ x c,X.env.cells.lookup x=some c→c≠b)∧∀ p∈X.pn++pins,p.1≠b)
    (keep:∀ b o,b≠X.env.locals→b∉X.fs→b∉ch→s.heap.get? b=some o→H b=none→h'.get? b=some o)
    (slot:∀ b o,b≠X.env.locals→b∈X.fs→b∉ch→s.heap.get? b=some o→H b=none→∃ sl,h'.get? b=some { o with slots:=sl }) (free:∀ b o,b∉ch→s.heap.get? b=some o→H b=none→H' b=none)
    (there:∀ b o,b∉ch→s.heap.get? b=some o→∃ o',h'.get? b=some o')
    (tups:∀ b xs,H b=some (.tup xs)→H' b=some (.tup xs)) (frzs:∀ b o u,H b=some (.frz o u)→H' b=some (.frz o u)) (tbls:∀ b ps,H b=some (.tbl ps)→∃ more,H' b=some (.tbl (ps++more)))
    (ns:∀ m,s.heap.Ns X.env.locals m→h'.Ns X.env.locals m) (hok:HOk X.prog X.w H' h') (hg:AllBare g') :
    Inv X pins σ H' { s with heap:=h',gens:=g',drawn:=d',toks:=t' }:=by
  have neL:∀ b o,X.s₀.heap.get? b=some o→b≠X.env.locals:=fun b o e=>Nat.ne_of_lt (Nat.lt_of_lt_of_le (Heap.lt_size e) I.ok.above)
  have neC:∀ b o,X.s₀.heap.get? b=some o→b∉X.ex→b∉ch:=fun b o e hx hb=>by
    rcases (hch b hb).1 with z | z
    · exact hx z
    · exact absurd (Nat.lt_of_lt_of_le (Heap.lt_size e) z) (Nat.lt_irrefl _)
  have cellK:∀ x c,X.env.cells.lookup x=some c→∀ v,s.heap.IsCell c v→h'.IsCell c v:=fun x c e v ⟨o,ho,hd⟩=>by
    have nch:c∉ch:=fun z=>(hch c z).2.2.1 x c e rfl
    by_cases hc:c∈X.fs
    · obtain ⟨sl,q⟩:=slot c o (I.cne x c e) hc nch ho (I.freeC x c e)
      exact ⟨_,q,hd⟩
    · exact ⟨o,keep c o (I.cne x c e) hc nch ho (I.freeC x c e),hd⟩
  refine ⟨I.ok,I.os,hg,⟨fun b o e n hb hx => ?_,fun b o e n hb hx => ?_,fun b o e n hx => ?_,fun b o e hx => ?_,fun b xs e=>tups b xs (I.base.tups b xs e),fun b o xs e=>frzs b o xs (I.base.frzs b o xs e),fun b ps e => ?_⟩,?_,fun x c e => ?_,?_,fun x c e => ?_,fun p hp => ?_,hok,I.len⟩
  · exact keep b o (neL b o e) hb (neC b o e hx) (I.base.keep b o e n hb hx) (I.base.free b o e n hx)
  · obtain ⟨sl,e1⟩:=I.base.slot b o e n hb hx
    obtain ⟨sl',e2⟩:=slot b _ (neL b o e) hb (neC b o e hx) e1 (I.base.free b o e n hx)
    exact ⟨sl',e2⟩
  · obtain ⟨o',e1⟩:=I.base.there b o e hx
    exact free b o' (neC b o e hx) e1 (I.base.free b o e n hx)
  · obtain ⟨o',e1⟩:=I.base.there b o e hx
    exact there b o' (neC b o e hx) e1
  · obtain ⟨m1,e1⟩:=I.base.tbls b ps e
    obtain ⟨m2,e2⟩:=tbls b _ e1
    exact ⟨m1++m2,by rw [e2,Array.append_assoc]⟩
  · obtain ⟨m,hn,hl⟩:=I.loc
    refine ⟨m,ns m hn,fun i x v e1 e2 e3 => ?_⟩
    obtain ⟨u,r,l⟩:=hl i x v e1 e2 e3
    refine ⟨u,r,?_⟩
    rcases l with l | ⟨k,c,e,z⟩
    · exact .inl l
    · exact .inr ⟨k,c,e,cellK x c e _ z⟩
  · obtain ⟨v,z⟩:=I.cell x c e
    exact ⟨v,cellK x c e v z⟩
  · obtain ⟨m,⟨o,_,_,ho,_⟩,_⟩:=I.loc
    exact free _ o (fun z=>(hch _ z).2.1 rfl) ho I.free
  · obtain ⟨v,o,ho,hd⟩:=I.cell x c e
    exact free c o (fun z=>(hch c z).2.2.1 x c e rfl) ho (I.freeC x c e)
  · obtain ⟨e,n,ne,nf,d⟩:=I.pin p hp
    have nch:p.1∉ch:=fun z=>(hch p.1 z).2.2.2 p hp rfl
    exact ⟨keep p.1 p.2 ne nf nch e n,free p.1 p.2 nch e n,ne,nf,d⟩
theorem Inv.un {t':Nat} (I:Inv X pins σ H s) (u:Un X.fs [] H H' s.heap h') (hok:HOk X.prog X.w H' h'):Inv X pins σ H' { s with heap:=h',toks:=t' }:=by
  obtain ⟨m,⟨o,es,ep,ho,r⟩,_⟩:=id I.loc
  obtain ⟨sl,hL⟩:=u.any ho I.free (by simp)
  exact I.step (g':=s.gens) (d':=s.drawn) (ch:=[]) (fun _ z=>nomatch z) (fun b o _ hb _ e n=>u.keep b o e n hb (by simp)) (fun b o _ hb _ e n=>u.slot b o e n hb (by simp)) (fun b o _ e n=>u.free b o e n (by simp)) (fun b o _ e=>u.there b o e (by simp)) u.tups u.frzs u.tbls (fun m' hm=>by
    obtain ⟨o',es',ep',ho',r'⟩:=hm
    rw [ho] at ho';cases ho'
    exact ⟨_,es',ep',hL,r'⟩) hok I.bare
theorem Inv.call {g':Array GenState} {t':Nat} {d':Drawn} {ch:List Addr} (I:Inv X pins σ H s) (u:Un (frs X.stack) ch H H' s.heap h') (hok:HOk X.prog X.w H' h') (hg:AllBare g')
    (hch:∀ b∈ch,(b∈X.ex∨X.s₀.heap.objs.size≤b)∧b≠X.env.locals∧(∀ x c,X.env.cells.lookup x=some c→c≠b)∧∀ p∈X.pn++pins,p.1≠b) :
    Inv X pins σ H' { s with heap:=h',gens:=g',drawn:=d',toks:=t' }:=by
  obtain ⟨m,⟨o,es,ep,ho,r⟩,_⟩:=id I.loc
  obtain ⟨sl,hL⟩:=u.any ho I.free fun z=>(hch _ z).2.1 rfl
  exact I.step (ch:=ch) hch (fun b o hL hb hc e n=>u.keep b o e n (fun z=>(List.mem_cons.mp (I.stkSub b z)).elim hL hb) hc) (fun b o _ _ hc e n=>u.any e n hc) (fun b o hc e n=>u.free b o e n hc) (fun b o hc e=>u.there b o e hc) u.tups u.frzs u.tbls (fun m' hm=>by
    obtain ⟨o',es',ep',ho',r'⟩:=hm
    rw [ho] at ho';cases ho'
    exact ⟨_,es',ep',hL,r'⟩) hok hg
theorem Inv.turned {t':Nat} {it:Addr} (I:Inv X pins σ H s) (k:∀ b o,b≠it→s.heap.get? b=some o→h'.get? b=some o) (hn:H it=none) (hL:it≠X.env.locals)
    (h1:it∈X.ex∨X.s₀.heap.objs.size≤it) (h2:∀ x c,X.env.cells.lookup x=some c→c≠it) (h3:∀ p∈X.pn++pins,p.1≠it):Inv X pins σ H { s with heap:=h',toks:=t' }:=by
  have nit:∀ b u,H b=some u→b≠it:=fun b u e z=>by rw [z,hn] at e;cases e
  refine I.step (g':=s.gens) (d':=s.drawn) (ch:=[it]) (fun b hb => ?_) (fun b o _ _ hc e _=>k b o (fun z=>hc (by simp [z])) e) (fun b o _ _ hc e _=>⟨o.slots,k b o (fun z=>hc (by simp [z])) e⟩) (fun _ _ _ _ n=>n)
    (fun b o hc e=>⟨o,k b o (fun z=>hc (by simp [z])) e⟩) (fun _ _ e=>e) (fun _ _ _ e=>e) (fun b ps e=>⟨#[],by rw [e];simp⟩) (fun m hm => ?_) (fun b u e => ?_) I.bare
  · have e:b=it:=by simpa using hb
    subst e
    exact ⟨h1,hL,h2,h3⟩
  · obtain ⟨o,es,ep,ho,r⟩:=hm
    exact ⟨o,es,ep,k _ o (Ne.symm hL) ho,r⟩
  · refine (I.hok b u e).stay (fun c v hc q=>k c v ?_ q) (fun _ q=>q) fun _ _ q=>q
    rcases hc with z | z
    · rw [z];exact nit b u e
    · exact nit c _ z
theorem Inv.tok (I:Inv X pins σ H s) (t:Nat):Inv X pins σ H { s with toks:=t }:=I.un (h':=s.heap) (t':=t) Un.refl I.hok
theorem Inv.kept {t':Nat} (I:Inv X pins σ H s) (k:∀ b u,s.heap.get? b=some u→h'.get? b=some u):Inv X pins σ H { s with heap:=h',toks:=t' }:=I.un (Un.kept k) (I.hok.kept k)
theorem Inv.laid {a:Addr} {o:HO} {t':Nat} (I:Inv X pins σ H s) (k:∀ b u,s.heap.get? b=some u→h'.get? b=some u) (hp:s.heap.objs.size≤a) (new:Xn X.prog X.w (upd H a o) h' a o) :
    Inv X pins σ (upd H a o) { s with heap:=h',toks:=t' }:=I.un (Un.laid k hp (I.hok.fresh hp)) (I.hok.laid k hp new)
theorem Inv.write {x e:Addr} {o:HO} {t':Nat} (I:Inv X pins σ H s) (mu:Mut (H x)) (he:e=x∨H e=some (.own x)) (k:∀ b u,b≠e→s.heap.get? b=some u→h'.get? b=some u) (heo:∃ u,h'.get? e=some u)
    (new:Xn X.prog X.w (upd H x o) h' x o):Inv X pins σ (upd H x o) { s with heap:=h',toks:=t' }:=I.un (Un.write mu he k heo) (I.hok.write mu he k heo new)
theorem Inv.weak {σ':List (Option V)} (I:Inv X pins σ H s) (hl:σ'.length=σ.length) (w:∀ (i:Nat) v,σ'[i]?=some (some v)→σ[i]?=some (some v)):Inv X pins σ' H s :=
  ⟨I.ok,I.os,I.bare,I.base,let ⟨m,hn,hl'⟩:=I.loc;⟨m,hn,fun i x v e1 e2 e3=>hl' i x v e1 (w i v e2) e3⟩,I.cell,I.free,I.freeC,I.pin,I.hok,hl.trans I.len⟩
theorem Inv.pins_of {pins':List (Addr×Obj)} (I:Inv X pins σ H s) (h:∀ p∈pins',s.heap.get? p.1=some p.2∧H p.1=none∧p.1≠X.env.locals∧p.1∉X.fs∧∀ v,p.2.data ≠ .cell v):Inv X pins' σ H s :=
  ⟨I.ok,I.os,I.bare,I.base,I.loc,I.cell,I.free,I.freeC,fun p hp=>(List.mem_append.mp hp).elim (fun z=>I.pin p (List.mem_append_left _ z)) (h p),I.hok,I.len⟩

theorem Qeo {N:List Str} (hN:N.Nodup) {i j:Nat} {x:Str} (a:N[i]?=some x) (b:N[j]?=some x):i=j:=by
  obtain ⟨h1,e1⟩:=List.getElem?_eq_some_iff.mp a
  obtain ⟨h2,e2⟩:=List.getElem?_eq_some_iff.mp b
  exact (List.getElem_inj hN).mp (e1.trans e2.symm)

theorem QeX {M:Model} {A:Around} {E:Value→Shared→Prop} {i:Nat} {x:Str} {v:V} {u:Value} {Q:Unit→Shared→Prop} (I:Inv X pins σ H s) (hN:X.N.Nodup) (hi:X.N[i]?=some x) (hx:Loc X.env.scope x) (r:RelV v u)
    (h:∀ s',Inv X pins (σ.set i (some v)) H s'→(∃ a,Heap.SameBut a s.heap s'.heap∧(a=X.env.locals∨X.env.cells.lookup x=some a))→Q () s') (hf:X.fn x=true∨X.env.scope.names.lookup x=some .local:=by first | exact .inl rfl | exact .inr rfl | assumption):wpAny M A (storeName X.env x u) Q E s:=by
  obtain ⟨m,hn,hl⟩:=id I.loc
  have hcls:(X.env.scope.kind == .class||(X.env.scope.kind == .module&&X.env.locals != X.env.globals))=false:=by rw [I.ok.kind];rfl
  have hiσ:i < σ.length:=by rw [I.len];exact (List.getElem?_eq_some_iff.mp hi).1
  have cne:=I.cne
  have tracked:∀ {a:Addr} {h':Heap},(∃ o,s.heap.get? a=some o∧H a=none)→Heap.SameBut a s.heap h'→HOk X.prog X.w H h':=fun {a h'} ha hs b ob e=>by
    obtain ⟨_,_,hfree⟩:=ha
    refine (I.hok b ob e).stay (fun c w' hc q=>(hs.2 c ?_).trans q) (fun _ q=>q) fun _ _ q=>q
    rintro rfl
    rcases hc with rfl | hc
    · rw [hfree] at e;cases e
    · rw [hfree] at hc;cases hc
  rcases hx with hk | hk
  · refine wpAny_storeName_local hk hn (fun h' hn' hs => ?_) hcls
    obtain ⟨oL,_,_,hoL,_⟩:=id hn
    refine h _ ⟨I.ok,I.os,I.bare,⟨fun b o e n hb hx => ?_,fun b o e n hb hx => ?_,I.base.free,fun b o e hx => ?_,I.base.tups,I.base.frzs,I.base.tbls⟩,⟨_,hn',fun j y v' e1 e2 e3 => ?_⟩,fun y c e => ?_,I.free,I.freeC,fun p hp => ?_,tracked ⟨oL,hoL,I.free⟩ hs,by simpa using I.len⟩ ⟨_,hs,.inl rfl⟩
    · exact (hs.2 b (Nat.ne_of_lt (Nat.lt_of_lt_of_le (Heap.lt_size e) I.ok.above))).trans (I.base.keep b o e n hb hx)
    · obtain ⟨sl,e1⟩:=I.base.slot b o e n hb hx
      exact ⟨sl,(hs.2 b (Nat.ne_of_lt (Nat.lt_of_lt_of_le (Heap.lt_size e) I.ok.above))).trans e1⟩
    · obtain ⟨o',e1⟩:=I.base.there b o e hx
      exact ⟨o',(hs.2 b (Nat.ne_of_lt (Nat.lt_of_lt_of_le (Heap.lt_size e) I.ok.above))).trans e1⟩
    · by_cases hj:j=i
      · subst hj
        rw [hi] at e1;cases e1
        rw [List.getElem?_set_self hiσ] at e2
        cases e2
        exact ⟨u,r,.inl ⟨hk,by simp⟩⟩
      · rw [List.getElem?_set_ne (Ne.symm hj)] at e2
        obtain ⟨u',r',q⟩:=hl j y v' e1 e2 e3
        refine ⟨u',r',?_⟩
        rcases q with ⟨k,e⟩ | ⟨k,c,e,z⟩
        · refine .inl ⟨k,?_⟩
          have:y≠x:=fun e=>hj (Qeo hN e1 (e ▸ hi))
          simp [this,e]
        · exact .inr ⟨k,c,e,z.sameBut hs (cne y c e)⟩
    · obtain ⟨w',z⟩:=I.cell y c e
      exact ⟨w',z.sameBut hs (cne y c e)⟩
    · obtain ⟨e,n,ne,nf,d⟩:=I.pin p hp
      exact ⟨(hs.2 p.1 ne).trans e,n,ne,nf,d⟩
  · have hfn:X.fn x=true:=by
      rcases hf with z | z
      · exact z
      · rw [z] at hk;cases hk
    obtain ⟨c,hc⟩:=I.ok.has x (.inl hk)
    obtain ⟨w',z⟩:=I.cell x c hc
    refine wpAny_storeName_cell I.ok.kind hk hc z (fun h' hc' hs => ?_)
    obtain ⟨oc,hoc,hocd⟩:=id z
    refine h { s with heap:=h' } ⟨I.ok,I.os,I.bare,⟨fun b o e n hb hx => ?_,fun b o e n hb hx => ?_,I.base.free,fun b o e hx => ?_,I.base.tups,I.base.frzs,I.base.tbls⟩,⟨m,hn.sameBut hs (Ne.symm (cne x c hc)),fun j y v' e1 e2 e3 => ?_⟩,fun y c' e => ?_,I.free,I.freeC,fun p hp => ?_,tracked ⟨oc,hoc,I.freeC x c hc⟩ hs,by simpa using I.len⟩ ⟨c,hs,.inr hc⟩
    · exact (hs.2 b (Nat.ne_of_lt (Nat.lt_of_lt_of_le (Heap.lt_size e) (I.ok.cab x c hfn hc)))).trans (I.base.keep b o e n hb hx)
    · obtain ⟨sl,e1⟩:=I.base.slot b o e n hb hx
      exact ⟨sl,(hs.2 b (Nat.ne_of_lt (Nat.lt_of_lt_of_le (Heap.lt_size e) (I.ok.cab x c hfn hc)))).trans e1⟩
    · obtain ⟨o',e1⟩:=I.base.there b o e hx
      exact ⟨o',(hs.2 b (Nat.ne_of_lt (Nat.lt_of_lt_of_le (Heap.lt_size e) (I.ok.cab x c hfn hc)))).trans e1⟩
    · by_cases hj:j=i
      · subst hj
        rw [hi] at e1;cases e1
        rw [List.getElem?_set_self hiσ] at e2
        cases e2
        exact ⟨u,r,.inr ⟨.inl hk,c,hc,hc'⟩⟩
      · rw [List.getElem?_set_ne (Ne.symm hj)] at e2
        obtain ⟨u',r',q⟩:=hl j y v' e1 e2 e3
        refine ⟨u',r',?_⟩
        rcases q with q | ⟨k,c',e,z'⟩
        · exact .inl q
        · refine .inr ⟨k,c',e,z'.sameBut hs ?_⟩
          rintro rfl
          exact hj (Qeo hN e1 (I.ok.inj _ _ _ e hc ▸ hi))
    · by_cases hcc:c'=c
      · subst hcc;exact ⟨_,hc'⟩
      · obtain ⟨w2,z2⟩:=I.cell y c' e
        exact ⟨w2,z2.sameBut hs hcc⟩
    · obtain ⟨e,n,ne,nf,d⟩:=I.pin p hp
      refine ⟨(hs.2 p.1 ?_).trans e,n,ne,nf,d⟩
      intro q
      rw [q,hoc] at e
      have q':oc=p.2:=Option.some.inj e
      exact d w' (by rw [← q'];exact hocd)
theorem Xf {M:Model} {A:Around} {E:Value→Shared→Prop} {i:Nat} {x:Str} {v:V} {u:Value} {Q:Unit→Shared→Prop} (I:Inv X pins σ H s) (hN:X.N.Nodup) (hi:X.N[i]?=some x) (hx:Loc X.env.scope x) (r:RelV v u)
    (h:∀ s',Inv X pins (σ.set i (some v)) H s'→Q () s') (hf:X.fn x=true∨X.env.scope.names.lookup x=some .local:=by first | exact .inl rfl | exact .inr rfl | assumption):wpAny M A (storeName X.env x u) Q E s :=
  QeX I hN hi hx r (fun s' I' _=>h s' I') hf
theorem Inv.call' {s':Shared} {ch:List Addr} (I:Inv X pins σ H s) (ho:s'.os=s.os) (u:Un (frs X.stack) ch H H' s.heap s'.heap) (hok:HOk X.prog X.w H' s'.heap) (hg:AllBare s'.gens)
    (hch:∀ b∈ch,(b∈X.ex∨X.s₀.heap.objs.size≤b)∧b≠X.env.locals∧(∀ x c,X.env.cells.lookup x=some c→c≠b)∧∀ p∈X.pn++pins,p.1≠b):Inv X pins σ H' s':=by
  obtain ⟨h',g',d',t',o'⟩:=s'
  have e:o'=s.os:=ho
  subst e
  exact I.call (g':=g') (t':=t') (d':=d') u hok hg hch
end

noncomputable abbrev XK:=Value→Option Addr→Hp→Prop
noncomputable abbrev St:=List (Option V)
noncomputable abbrev VK:=V→Hp→Prop
noncomputable abbrev TE:=St→Hp→VK→Prop
noncomputable abbrev TT:=St→Hp→(Bool→Hp→Prop)→Prop
noncomputable abbrev TA:=St→Hp→(List V→Hp→Prop)→Prop
structure Ends where
  nx:St→Hp→Prop
  rt:VK
  bk:St→Hp→Prop:=fun _ _=>False
  ct:St→Hp→Prop:=fun _ _=>False
noncomputable abbrev TS:=Ends→St→Hp→Prop

noncomputable def EP (X:Cx) (pins:List (Addr×Obj)) (σ:St) (Q:VK) (u:Value) (s':Shared):Prop:=∃ v H',Inv X pins σ H' s'∧RelV v u∧Q v H'
noncomputable def TP (X:Cx) (pins:List (Addr×Obj)) (σ:St) (Q:Bool→Hp→Prop) (b:Bool) (s':Shared):Prop:=∃ H',Inv X pins σ H' s'∧Q b H'
noncomputable def AP (X:Cx) (pins:List (Addr×Obj)) (σ:St) (Q:List V→Hp→Prop) (us:List Value) (s':Shared):Prop:=∃ vs H',Inv X pins σ H' s'∧Vals vs us∧Q vs H'
noncomputable def SP (X:Cx) (pins:List (Addr×Obj)) (D:Ends) (f:Flow) (s':Shared):Prop :=
  match f with
  | .next=>∃ σ' H',Inv X pins σ' H' s'∧D.nx σ' H'
  | .brk=>∃ σ' H',Inv X pins σ' H' s'∧D.bk σ' H'
  | .cont=>∃ σ' H',Inv X pins σ' H' s'∧D.ct σ' H'
  | .ret u=>∃ v σ' H',Inv X pins σ' H' s'∧RelV v u∧D.rt v H'

noncomputable def PE (X:Cx) (e:Expr) (t:TE):Prop :=
  ∀ (pins:List (Addr×Obj)) (s:Shared) (σ:St) (H:Hp) (Q:VK),Inv X pins σ H s→t σ H Q→wpAny (model X.prog X.w) X.A (eval e X.env) (EP X pins σ Q) X.xe s
noncomputable def PT (X:Cx) (e:Expr) (t:TT):Prop :=
  ∀ (pins:List (Addr×Obj)) (s:Shared) (σ:St) (H:Hp) (Q:Bool→Hp→Prop),Inv X pins σ H s→t σ H Q→wpAny (model X.prog X.w) X.A (isTrue e X.env (eval e X.env)) (TP X pins σ Q) X.xe s
noncomputable def PW (X:Cx) (e:Expr) (t:TT):Prop :=
  ∀ (whole:Sem Value) (pins:List (Addr×Obj)) (s:Shared) (σ:St) (H:Hp) (Q:Bool→Hp→Prop),Inv X pins σ H s→t σ H Q→wpAny (model X.prog X.w) X.A (isTrue e X.env whole) (TP X pins σ Q) X.xe s
theorem PW.pt {X:Cx} {e:Expr} {t:TT} (h:PW X e t):PT X e t:=h _
noncomputable def PA (X:Cx) (es:List Expr) (t:TA):Prop :=
  ∀ (pos:Pos) (pins:List (Addr×Obj)) (s:Shared) (σ:St) (H:Hp) (Q:List V→Hp→Prop),Inv X pins σ H s→t σ H Q→wpAny (model X.prog X.w) X.A (spliced (backTo pos (starEach es X.env))) (AP X pins σ Q) X.xe s
noncomputable def PS (X:Cx) (st:Stmt) (t:TS):Prop :=
  ∀ (pins:List (Addr×Obj)) (s:Shared) (σ:St) (H:Hp) (D:Ends),Inv X pins σ H s→t D σ H→wpAny (model X.prog X.w) X.A (exec st X.env) (SP X pins D) X.xe s
noncomputable def PSs (X:Cx) (st:List Stmt) (t:TS):Prop :=
  ∀ (pins:List (Addr×Obj)) (s:Shared) (σ:St) (H:Hp) (D:Ends),Inv X pins σ H s→t D σ H→wpAny (model X.prog X.w) X.A (execs st X.env) (SP X pins D) X.xe s
theorem thn {α:Type} {t:Sem α} {Q Q':α→Shared→Prop} {M:Model} {A:Around} {E:Value→Shared→Prop} {s:Shared} (h:wpAny M A t Q E s) (hQ:∀ a s,Q a s→Q' a s):wpAny M A t Q' E s:=wpAny_mono h hQ fun _ _ x=>x
end L2

namespace L2
open PySem PySem.Spec PyProof.Rows
section
variable {X:Cx}

noncomputable def tVar (i:Nat):TE:=fun σ H Q=>∃ v,σ[i]?=some (some v)∧Q v H
noncomputable def tC (v:V):TE:=fun _ H Q=>Q v H
theorem pe_var {i:Nat} {x:Str} {pos:Pos} (hN:X.N[i]?=some x) (hv:Vis X.env.scope x) (hd:(x==("__debug__":Str))=false:=by decide) (hcd:(x==("__classdict__":Str))=false:=by decide):PE X (.Name x pos) (tVar i):=by
  intro pins s σ H Q I h
  obtain ⟨v,e,h⟩:=h
  obtain ⟨m,hn,hl⟩:=I.loc
  obtain ⟨u,r,l⟩:=hl i x v hN e hv
  have fin:EP X pins σ Q u s:=⟨v,H,I,r,h⟩
  rcases l with ⟨hk,hm⟩ | ⟨hk,c,hc,hcell⟩
  · exact wpAny_Name (wpAny_loadName_local I.ok.kind hk hn hm fin) hd
  · rcases hk with hk | hk
    · exact wpAny_Name (wpAny_loadName_cell I.ok.kind hk hc hcell fin) hd
    · exact wpAny_Name (wpAny_loadName_free I.ok.kind hk hc hcell fin hcd) hd
theorem pe_int {i j pos}:PE X (.Constant (.int i) j pos) (tC (.int i)):=fun _ _ _ H _ I h=>wpAny_Constant_int ⟨.int i,H,I.tok _,⟨_,rfl⟩,h⟩
theorem pe_bl {b j pos}:PE X (.Constant (.bool b) j pos) (tC (.bl b)):=fun _ _ _ H _ I h=>Constant_bool ⟨.bl b,H,I,rfl,h⟩
theorem pe_non {j pos}:PE X (.Constant .none j pos) (tC .non):=fun _ _ _ H _ I h=>Constant_none ⟨.non,H,I,rfl,h⟩
theorem pe_str {x j pos}:PE X (.Constant (.str x) j pos) (tC (.str x)):=fun _ _ _ H _ I h=>Calls.Constant_str ⟨.str x,H,I.tok _,⟨_,rfl⟩,h⟩

noncomputable def Gl (X:Cx) (x:Str):Prop:=X.env.kindOf x=some .globalImplicit
theorem QcE {E:Value→Shared→Prop} {pins:List (Addr×Obj)} {s:Shared} {σ:St} {H:Hp} {x:Str} {u:Value} {pos:Pos} {Q:Value→Shared→Prop} (I:Inv X pins σ H s) (hg:Gl X x) (hm:X.mg x=some u) (h:Q u s)
    (hd:(x==("__debug__":Str))=false:=by decide):wpAny (model X.prog X.w) X.A (eval (.Name x pos) X.env) Q E s :=
  Calls.Name_function_global I.ok.kind hg (Calls.loadGlobal_global (by rw [I.ok.glob];exact I.mod.glob.keeps I.bk) hm h) hd
theorem QeR {E:Value→Shared→Prop} {pins:List (Addr×Obj)} {s:Shared} {σ:St} {H:Hp} {x:Str} {u:Value} {pos:Pos} {Q:Value→Shared→Prop} (I:Inv X pins σ H s) (hg:Gl X x) (hm:X.mg x=none) (hv:bootBuiltins x=some u) (h:Q u s)
    (hn:x ≠ "__name__":=by decide) (hd:(x==("__debug__":Str))=false:=by decide):wpAny (model X.prog X.w) X.A (eval (.Name x pos) X.env) Q E s:=by
  obtain ⟨mb,h1,h2⟩:=I.mod.blt
  exact Calls.Name_function_global I.ok.kind hg (Calls.loadGlobal_builtin (by rw [I.ok.glob];exact I.mod.glob.keeps I.bk) hm (by rw [I.ok.blt];exact h1.keeps I.bk) ((h2 x hn).trans hv) h) hd
theorem pe_glob {x:Str} {v:V} {u:Value} {pos:Pos} (hg:Gl X x) (hm:X.mg x=some u) (r:RelV v u) (hd:(x==("__debug__":Str))=false:=by decide):PE X (.Name x pos) (tC v) :=
  fun _ _ _ H _ I h=>QcE I hg hm ⟨v,H,I,r,h⟩ hd
theorem Qio {x:Str} {v:V} {u:Value} {pos:Pos} (hg:Gl X x) (hm:X.mg x=none) (hv:bootBuiltins x=some u) (r:RelV v u) (hn:x ≠ "__name__":=by decide) (hd:(x==("__debug__":Str))=false:=by decide):PE X (.Name x pos) (tC v) :=
  fun _ _ _ H _ I h=>QeR I hg hm hv ⟨v,H,I,r,h⟩ hn hd

variable {a b:Expr} {ta tb:TE} {pos:Pos}
variable {tA tB':TT} {rest:List Expr}
noncomputable def tAnd (t u:TT):TT:=fun σ H Q=>t σ H fun c H1=>if c=true then u σ H1 Q else Q false H1
noncomputable def tOr (t u:TT):TT:=fun σ H Q=>t σ H fun c H1=>if c=true then Q true H1 else u σ H1 Q
noncomputable def tNot (t:TT):TT:=fun σ H Q=>t σ H fun c H1=>Q (!c) H1
theorem pw_and1 (ha:PT X a tA):PW X (.BoolOp .And [a] pos) tA:=by
  intro wh pins s σ H Q I h
  refine isTrue_and (thn (ha pins s σ H Q I h) fun c s1 e => ?_)
  cases c with
  | true=>exact isTrue_and_nil e
  | false=>exact e
theorem pw_or1 (ha:PT X a tA):PW X (.BoolOp .Or [a] pos) tA:=by
  intro wh pins s σ H Q I h
  refine isTrue_or (thn (ha pins s σ H Q I h) fun c s1 e => ?_)
  cases c with
  | false=>exact isTrue_or_nil e
  | true=>exact e
theorem pw_and (ha:PT X a tA) (hb:PW X (.BoolOp .And (b :: rest) pos) tB'):PW X (.BoolOp .And (a :: b :: rest) pos) (tAnd tA tB'):=by
  intro wh pins s σ H Q I h
  refine isTrue_and (thn (ha pins s σ H _ I h) fun c s1 ⟨H1,I1,q1⟩ => ?_)
  cases c with
  | true=>exact hb wh pins s1 σ H1 Q I1 q1
  | false=>exact ⟨H1,I1,q1⟩
theorem pw_or (ha:PT X a tA) (hb:PW X (.BoolOp .Or (b :: rest) pos) tB'):PW X (.BoolOp .Or (a :: b :: rest) pos) (tOr tA tB'):=by
  intro wh pins s σ H Q I h
  refine isTrue_or (thn (ha pins s σ H _ I h) fun c s1 ⟨H1,I1,q1⟩ => ?_)
  cases c with
  | true=>exact ⟨H1,I1,q1⟩
  | false=>exact hb wh pins s1 σ H1 Q I1 q1
theorem pt_not (ha:PT X a tA):PT X (.UnaryOp .Not a pos) (tNot tA):=by
  intro pins s σ H Q I h
  exact isTrue_not (ha pins s σ H (fun c H1=>Q (!c) H1) I h)
noncomputable def tAndV (ta tb:TE):TE:=fun σ H Q=>ta σ H fun x H1=>∃ c,x = .bl c∧if c=true then tb σ H1 Q else Q (.bl false) H1
noncomputable def tNotV (ta:TE):TE:=fun σ H Q=>ta σ H fun x H1=>∃ c,x = .bl c∧Q (.bl (!c)) H1
theorem pe_one {op} {t:TE} (h:PE X a t):PE X (.BoolOp op [a] pos) t:=fun pins s σ H Q I hw=>BoolOp_one (h pins s σ H Q I hw)
theorem pe_and (ha:PE X a ta) (hb:PE X (.BoolOp .And (b :: rest) pos) tb):PE X (.BoolOp .And (a :: b :: rest) pos) (tAndV ta tb):=by
  intro pins s σ H Q I h
  refine BoolOp_and (thn (ha pins s σ H _ I h) fun v s1 ⟨x,H1,I1,r1,q1⟩ => ?_)
  obtain ⟨c,rfl,q1⟩:=q1
  cases r1
  refine wpAny_truthy_bool ?_
  cases c with
  | true=>exact hb pins s1 σ H1 Q I1 q1
  | false=>exact ⟨.bl false,H1,I1,rfl,q1⟩
theorem pe_not (ha:PE X a ta):PE X (.UnaryOp .Not a pos) (tNotV ta):=by
  intro pins s σ H Q I h
  refine UnaryOp_ (thn (ha pins s σ H _ I h) fun v s1 ⟨x,H1,I1,r1,q1⟩ => ?_)
  obtain ⟨c,rfl,q1⟩:=q1
  cases r1
  exact not_of (wpAny_truthy_bool ⟨.bl (!c),H1,I1,rfl,q1⟩)
noncomputable def tIf (t:TT) (ta tb:TE):TE:=fun σ H Q=>t σ H fun c H1=>if c=true then ta σ H1 Q else tb σ H1 Q
theorem pe_ifExp {c:Expr} (hc:PT X c tA) (ha:PE X a ta) (hb:PE X b tb):PE X (.IfExp c a b pos) (tIf tA ta tb):=by
  intro pins s σ H Q I h
  refine wpAny_IfExp (thn (hc pins s σ H _ I h) fun d s1 ⟨H1,I1,q1⟩ => ?_)
  cases d with
  | true=>exact ha pins s1 σ H1 Q I1 q1
  | false=>exact hb pins s1 σ H1 Q I1 q1
end
end L2

namespace L2
open PySem PySem.Spec PyProof.Rows

noncomputable def SqL (K:PySem.W.Frag) (H:Hp) (a:Addr) (xs:List V):Prop :=
  Rd H a (.lst xs) ∨
    ∃ (o:Obj) (its:Array Value) (n:Nat),K.lookup a=some o∧o.cls = .type "list"∧o.dict=none∧o.data = .seq its n∧its.size≤sizeLine∧Vals xs its.toList
noncomputable def SqT (K:PySem.W.Frag) (H:Hp) (a:Addr) (xs:List V):Prop :=
  Rd H a (.tup xs) ∨
    ∃ (o:Obj) (its:Array Value) (n:Nat),K.lookup a=some o∧o.cls = .type "tuple"∧o.dict=none∧o.data = .seq its n∧its.size≤sizeLine∧Vals xs its.toList
noncomputable def absV:Value→Option V
  | .none=>some .non
  | .bool b=>some (.bl b)
  | .int i _=>some (.int i)
  | .str x _=>some (.str x)
  | .bytes b _=>some (.byt b)
  | .float b _=>some (.flt b)
  | .ref a=>some (.ref a)
  | .type n=>some (.ty n)
  | _=>none
theorem RelV.abs {x:V} {u:Value} (r:RelV x u):absV u=some x:=by
  cases x with
  | non=>cases r;rfl
  | bl _=>cases r;rfl
  | int _=>obtain ⟨t,rfl⟩:=r;rfl
  | str _=>obtain ⟨t,rfl⟩:=r;rfl
  | byt _=>obtain ⟨t,rfl⟩:=r;rfl
  | flt _=>obtain ⟨t,rfl⟩:=r;rfl
  | ref _=>cases r;rfl
  | ty _=>cases r;rfl
theorem RelV.inj {x y:V} {u:Value} (r:RelV x u) (q:RelV y u):x=y:=Option.some.inj (r.abs.symm.trans q.abs)
theorem Vals.inj:∀ {xs ys:List V} {us:List Value},Vals xs us→Vals ys us→xs=ys
  | _,_,_,.nil,.nil=>rfl
  | _,_,_,.cons r t,.cons r' t'=>by rw [r.inj r',Vals.inj t t']
section
variable {X:Cx} {pins:List (Addr×Obj)} {σ:St} {H:Hp} {s:Shared} {a:Addr} {xs ys:List V}
theorem SqL.of {K:PySem.W.Frag} (h:H a=some (.lst xs)):SqL K H a xs := .inl (.inl h)
theorem SqT.of {K:PySem.W.Frag} (h:H a=some (.tup xs)):SqT K H a xs := .inl (.inl h)
theorem Inv.list (I:Inv X pins σ H s) (h:SqL X.K H a xs):∃ its:List Value,Vals xs its∧PlainL s.heap a its.toArray∧xs.length≤sizeLine:=by
  rcases h with h | ⟨o,its,n,hk,hc,hd,hs,hz,r⟩
  · obtain ⟨z,its,n,r,e⟩:=h.ok I.hok
    exact ⟨its,r,⟨_,n,e,rfl,rfl,rfl⟩,z⟩
  · refine ⟨its.toList,r,⟨o,n,I.kIn a o hk,hc,hd,by simpa using hs⟩,?_⟩
    have e:=r.length
    simp only [Array.length_toList] at e
    omega
theorem Inv.tupleD (I:Inv X pins σ H s) (h:SqT X.K H a xs):∃ its:List Value,Vals xs its∧Qak s.heap a its.toArray xs∧xs.length≤sizeLine:=by
  rcases h with h | ⟨o,its,n,hk,hc,hd,hs,hz,r⟩
  · obtain ⟨z,its,r,p⟩:=h.ok I.hok
    exact ⟨its,r,p,z⟩
  · refine ⟨its.toList,r,⟨o,I.kIn a o hk,hc,.inl hd,n,by simpa using hs⟩,?_⟩
    have e:=r.length
    simp only [Array.length_toList] at e
    omega
theorem Inv.tuple (I:Inv X pins σ H s) (h:SqT X.K H a xs):∃ its:List Value,Vals xs its∧IsTup s.heap a its.toArray∧xs.length≤sizeLine :=
  let ⟨its,r,p,z⟩:=I.tupleD h
  ⟨its,r,p.is,z⟩
theorem Inv.list_inj (I:Inv X pins σ H s) (h:SqL X.K H a xs) (h':SqL X.K H a ys):xs=ys:=by
  obtain ⟨its,r,⟨o,n,e,_,_,d⟩,_⟩:=I.list h
  obtain ⟨its',r',⟨o',n',e',_,_,d'⟩,_⟩:=I.list h'
  rw [e] at e';cases e'
  rw [d] at d'
  injection d' with d1 _
  have:its=its':=by simpa using congrArg Array.toList d1
  subst this
  exact r.inj r'
theorem Inv.tuple_inj (I:Inv X pins σ H s) (h:SqT X.K H a xs) (h':SqT X.K H a ys):xs=ys:=by
  obtain ⟨its,r,⟨o,e,_,n,d⟩,_⟩:=I.tuple h
  obtain ⟨its',r',⟨o',e',_,n',d'⟩,_⟩:=I.tuple h'
  rw [e] at e';cases e'
  rw [d] at d'
  injection d' with d1 _
  have:its=its':=by simpa using congrArg Array.toList d1
  subst this
  exact r.inj r'
end

noncomputable abbrev Cx.wish (X:Cx) (E:Value→Shared→Prop):Cx:={ X with xe:=E }
noncomputable abbrev Cx.nox (X:Cx):Cx:=X.wish fun _ _=>False
theorem Cx.Ok.wish {X:Cx} (ok:X.Ok) (E:Value→Shared→Prop):(X.wish E).Ok :=
  ⟨ok.mod,ok.kind,ok.glob,ok.blt,ok.above,ok.inj,ok.has,ok.cab,ok.hd,ok.frames,ok.stk,ok.exf,ok.bs,ok.bsz,ok.noex,ok.exfs,ok.funs,ok.frf⟩
theorem Cx.Ok.unwish {X:Cx} {E:Value→Shared→Prop} (ok:(X.wish E).Ok):X.Ok :=
  ⟨ok.mod,ok.kind,ok.glob,ok.blt,ok.above,ok.inj,ok.has,ok.cab,ok.hd,ok.frames,ok.stk,ok.exf,ok.bs,ok.bsz,ok.noex,ok.exfs,ok.funs,ok.frf⟩
section
variable {X:Cx} {pins:List (Addr×Obj)} {σ:St} {H:Hp} {s:Shared} {E:Value→Shared→Prop}
theorem Inv.wish (I:Inv X pins σ H s) (E:Value→Shared→Prop):Inv (X.wish E) pins σ H s:=⟨I.ok.wish E,I.os,I.bare,I.base,I.loc,I.cell,I.free,I.freeC,I.pin,I.hok,I.len⟩
theorem Inv.unwish (I:Inv (X.wish E) pins σ H s):Inv X pins σ H s:=⟨I.ok.unwish,I.os,I.bare,I.base,I.loc,I.cell,I.free,I.freeC,I.pin,I.hok,I.len⟩
theorem SP.unwish {D:Ends} {f:Flow} {s':Shared} (h:SP (X.wish E) pins D f s'):SP X pins D f s':=by
  cases f with
  | next=>obtain ⟨σ',H',I,q⟩:=h;exact ⟨σ',H',I.unwish,q⟩
  | brk=>obtain ⟨σ',H',I,q⟩:=h;exact ⟨σ',H',I.unwish,q⟩
  | cont=>obtain ⟨σ',H',I,q⟩:=h;exact ⟨σ',H',I.unwish,q⟩
  | ret u=>obtain ⟨v,σ',H',I,r,q⟩:=h;exact ⟨v,σ',H',I.unwish,r,q⟩
theorem PE.nox {e:Expr} {t:TE} (h:PE X.nox e t):PE X e t:=fun pins s σ H Q I hw =>
  wpAny_mono (h pins s σ H Q (I.wish _) hw) (fun _ _ ⟨v,H',I',r,q⟩=>⟨v,H',I'.unwish,r,q⟩) fun _ _ z=>False.elim z
theorem PT.nox {e:Expr} {t:TT} (h:PT X.nox e t):PT X e t:=fun pins s σ H Q I hw =>
  wpAny_mono (h pins s σ H Q (I.wish _) hw) (fun _ _ ⟨H',I',q⟩=>⟨H',I'.unwish,q⟩) fun _ _ z=>False.elim z
theorem PSs.nox {st:List Stmt} {t:TS} (h:PSs X.nox st t):PSs X st t:=fun pins s σ H D I hw =>
  wpAny_mono (h pins s σ H D (I.wish _) hw) (fun _ _ q=>q.unwish) fun _ _ z=>False.elim z
end

section
variable {X:Cx} {st:Stmt} {rest:List Stmt} {t u:TS} {e:Expr} {te:TE} {pos:Pos}
noncomputable def tNext:TS:=fun D σ H=>D.nx σ H
noncomputable def tSeq (t u:TS):TS:=fun D σ H=>t { D with nx:=u D } σ H
theorem Qil:PSs X [] tNext:=fun _ _ σ H _ I h=>wpAny_execs_nil ⟨σ,H,I,h⟩
theorem QaV (h1:PS X st t) (h2:PSs X rest u):PSs X (st :: rest) (tSeq t u):=by
  intro pins s σ H D I h
  refine wpAny_execs_cons (thn (h1 pins s σ H { D with nx:=u D } I h) fun f s1 q => ?_)
  cases f with
  | next =>
    obtain ⟨σ',H',I',q⟩:=q
    exact h2 pins s1 σ' H' D I' q
  | ret v=>exact q
  | brk=>exact q
  | cont=>exact q
theorem Qee (h1:PS X st t):PSs X [st] t:=by
  intro pins s σ H D I h
  refine wpAny_execs_cons (thn (h1 pins s σ H D I h) fun f s1 q => ?_)
  cases f with
  | next=>exact wpAny_execs_nil q
  | ret v=>exact q
  | brk=>exact q
  | cont=>exact q
theorem Inv.quiet {pins:List (Addr×Obj)} {σ:St} {H:Hp} {s:Shared} (I:Inv X pins σ H s):interactive X.env=false:=by simp [interactive,I.ok.kind]
noncomputable def Qjs (te:TE):TS:=fun D σ H=>te σ H fun _ H1=>D.nx σ H1
theorem Yq (he:PE X e te) (hs:swapsWith e none pos.line X.env=pure false:=by rfl):PS X (.Expr e pos) (Qjs te):=by
  intro pins s σ H D I h
  exact wpAny_Expr_any (thn (he pins s σ H _ I h) fun v s1 ⟨x,H1,I1,r1,q1⟩=>⟨σ,H1,I1,q1⟩) I.quiet hs
noncomputable def tRet (te:TE):TS:=fun D σ H=>te σ H D.rt
theorem QfY (he:PE X e te):PS X (.Return (some e) pos) (tRet te):=by
  intro pins s σ H D I h
  exact wpAny_Return_some (thn (he pins s σ H _ I h) fun v s1 ⟨x,H1,I1,r1,q1⟩=>⟨x,σ,H1,I1,r1,q1⟩)
noncomputable def tIfS (c:TT) (t u:TS):TS:=fun D σ H=>c σ H fun b H1=>if b=true then t D σ H1 else u D σ H1
theorem ps_if {c:Expr} {a b:List Stmt} {tc:TT} (hc:PT X c tc) (ha:PSs X a t) (hb:PSs X b u):PS X (.If c a b pos) (tIfS tc t u):=by
  intro pins s σ H D I h
  refine wpAny_If (thn (hc pins s σ H _ I h) fun d s1 ⟨H1,I1,q1⟩ => ?_)
  cases d with
  | true=>exact ha pins s1 σ H1 D I1 q1
  | false=>exact hb pins s1 σ H1 D I1 q1
end

noncomputable abbrev TG:=V→St→Hp→(St→Hp→Prop)→Prop
noncomputable abbrev TGs:=List V→St→Hp→(St→Hp→Prop)→Prop
noncomputable def PG (X:Cx) (target:Expr) (t:TG):Prop :=
  ∀ (pins:List (Addr×Obj)) (s:Shared) (σ:St) (H:Hp) (v:V) (u:Value) (Q:St→Hp→Prop),Inv X pins σ H s→RelV v u→t v σ H Q →
    wpAny (model X.prog X.w) X.A (assign target X.env u) (fun _ s'=>∃ σ' H',Inv X pins σ' H' s'∧Q σ' H') X.xe s
noncomputable def PGs (X:Cx) (ts:List Expr) (t:TGs):Prop :=
  ∀ (pins:List (Addr×Obj)) (s:Shared) (σ:St) (H:Hp) (vs:List V) (us:List Value) (Q:St→Hp→Prop),Inv X pins σ H s→Vals vs us→t vs σ H Q →
    wpAny (model X.prog X.w) X.A (assignInOrder ((assignEach ts X.env).map (·.2)) us) (fun _ s'=>∃ σ' H',Inv X pins σ' H' s'∧Q σ' H') X.xe s
noncomputable abbrev TIp:=V→V→Hp→VK→Prop
noncomputable def PIp (X:Cx) (op:Operator) (t:TIp):Prop :=
  ∀ (pins:List (Addr×Obj)) (s:Shared) (σ:St) (H:Hp) (x y:V) (v u:Value) (Q:VK),Inv X pins σ H s→RelV x v→RelV y u→t x y H Q →
    wpAny (model X.prog X.w) X.A (inplaceOp op v u) (EP X pins σ Q) X.xe s
section
variable {X:Cx} {pos:Pos}
noncomputable def QcK (i:Nat):TG:=fun v σ H Q=>Q (σ.set i (some v)) H
theorem Zb {i:Nat} {x:Str} (hN:X.N.Nodup) (hi:X.N[i]?=some x) (hx:Loc X.env.scope x) (hf:X.fn x=true∨X.env.scope.names.lookup x=some .local:=by first | exact .inl rfl | exact .inr rfl | assumption):PG X (.Name x pos) (QcK i):=by
  intro pins s σ H v u Q I r h
  exact wpAny_assign_Name (Xf I hN hi hx r (fun s' I'=>⟨_,H,I',h⟩) hf)
noncomputable def gNil:TGs:=fun vs σ H Q=>vs=[]∧Q σ H
noncomputable def gCons (t:TG) (u:TGs):TGs:=fun vs σ H Q=>∃ v r,vs=v :: r∧t v σ H fun σ' H'=>u r σ' H' Q
theorem Qim:PGs X [] gNil:=by
  intro pins s σ H vs us Q I r h
  obtain ⟨e,h⟩:=h
  subst e
  cases r
  exact assignInOrder_nil ⟨σ,H,I,h⟩
theorem Qcp {e:Expr} {es:List Expr} {t:TG} {u:TGs} (h1:PG X e t) (h2:PGs X es u)
    (hs:(assignEach (e :: es) X.env).map (·.2)=assign e X.env :: (assignEach es X.env).map (·.2):=by rfl):PGs X (e :: es) (gCons t u):=by
  intro pins s σ H vs us Q I r h
  obtain ⟨v,vr,e1,h⟩:=h
  subst e1
  cases r with
  | cons r rr =>
    rw [hs]
    refine assignInOrder_cons (thn (h1 pins s σ H _ _ _ I r h) fun _ s1 ⟨σ1,H1,I1,q1⟩ => ?_)
    exact h2 pins s1 σ1 H1 _ _ Q I1 rr q1
noncomputable def gTup (K:PySem.W.Frag) (n:Nat) (t:TGs):TG:=fun v σ H Q=>∃ a xs,v = .ref a∧SqT K H a xs∧xs.length=n∧t xs σ H Q
theorem pg_tup {es:List Expr} {k:Nat} {t:TGs} {n:Nat} (hc:X.calm=true) (h:PGs X es t)
    (hn:(assignEach es X.env).length=n:=by rfl) (hst:(assignEach es X.env).findIdx? (·.1)=none:=by rfl):PG X (.Tuple es k pos) (gTup X.K n t):=by
  intro pins s σ H v u Q I r hw
  obtain ⟨a,xs,e1,hq,hl,hw⟩:=hw
  subst e1
  cases r
  obtain ⟨its,rv,ht,hz⟩:=I.tuple hq
  refine assign_Tuple_tuple (I.ok.hd hc) ht (by simp [hn,← hl,rv.length]) hst fun h' hx => ?_
  have I1:Inv X pins σ H { s with heap:=h' }:=I.kept (t':=s.toks) fun b o e=>hx b o (Nat.ne_of_lt (Heap.lt_size e)) e
  exact h pins _ σ H xs _ Q I1 (by simpa using rv) hw
noncomputable def tAsg (te:TE) (g:TG):TS:=fun D σ H=>te σ H fun x H1=>g x σ H1 D.nx
theorem Qdy {i:Nat} {x:Str} {e:Expr} {te:TE} {pos':Pos} (hN:X.N.Nodup) (hi:X.N[i]?=some x) (hx:Loc X.env.scope x) (he:PE X e te) (hs:swapsWith e (some (.Name x pos')) pos.line X.env=pure false:=by rfl) (hf:X.fn x=true∨X.env.scope.names.lookup x=some .local:=by first | exact .inl rfl | exact .inr rfl | assumption) :
    PS X (.Assign [.Name x pos'] e pos) (tAsg te (QcK i)):=by
  intro pins s σ H D I h
  refine wpAny_Assign_Name (thn (he pins s σ H _ I h) fun v s1 ⟨y,H1,I1,r1,q1⟩ => ?_) hs
  exact Xf I1 hN hi hx r1 (fun s2 I2=>⟨_,H1,I2,q1⟩) hf
noncomputable def tAug (i:Nat) (te:TE) (ti:TIp):TS:=fun D σ H=>∃ x,σ[i]?=some (some x)∧te σ H fun y H1=>ti x y H1 fun z H2=>D.nx (σ.set i (some z)) H2
theorem ps_aug {i:Nat} {x:Str} {e:Expr} {te:TE} {op:Operator} {ti:TIp} {pos':Pos} (hN:X.N.Nodup) (hi:X.N[i]?=some x) (hx:Loc X.env.scope x) (he:PE X e te) (ho:PIp X op ti) (hf:X.fn x=true∨X.env.scope.names.lookup x=some .local:=by first | exact .inl rfl | exact .inr rfl | assumption) :
    PS X (.AugAssign (.Name x pos') op e pos) (tAug i te ti):=by
  intro pins s σ H D I h
  obtain ⟨v,e1,h⟩:=h
  obtain ⟨m,hn,hl⟩:=I.loc
  have vis:Vis X.env.scope x:=by rcases hx with k | k;exact .inl k;exact .inr (.inl k)
  obtain ⟨u,r,l⟩:=hl i x v hi e1 vis
  refine wpAny_AugAssign_Name ?_
  have go:wpAny (model X.prog X.w) X.A (eval e X.env) (fun w s₂=>wpAny (model X.prog X.w) X.A (inplaceOp op u w) (fun r s₃=>wpAny (model X.prog X.w) X.A (storeName X.env x r) (fun _=>SP X pins D .next) X.xe s₃) X.xe s₂) X.xe s:=by
    refine thn (he pins s σ H _ I h) fun w s1 ⟨y,H1,I1,r1,q1⟩ => ?_
    refine thn (ho pins s1 σ H1 v y u w _ I1 r r1 q1) fun z s2 ⟨zv,H2,I2,r2,q2⟩ => ?_
    exact Xf I2 hN hi hx r2 (fun s3 I3=>⟨_,H2,I3,q2⟩) hf
  rcases l with ⟨hk,hm⟩ | ⟨hk,c,hc,hcell⟩
  · exact wpAny_loadName_local I.ok.kind hk hn hm go
  · rcases hk with hk | hk
    · exact wpAny_loadName_cell I.ok.kind hk hc hcell go
    · rcases hx with k | k
      · have:X.env.scope.names.lookup x=some .free:=hk
        rw [k] at this;cases this
      · have:X.env.scope.names.lookup x=some .free:=hk
        rw [k] at this;cases this
end

section
variable {X:Cx} {pos:Pos}
noncomputable def tWhile (c:TT) (tb:TS):TS:=fun D σ H=>∃ W:Nat→St→Hp→Prop,(∃ m,W m σ H)∧∀ m σ H,W m σ H →
  c σ H fun b H1=>if b=true then ∃ N:St→Hp→Prop,(∀ σ' H',N σ' H'→∃ m',m' < m∧W m' σ' H')∧tb { D with nx:=N,ct:=N,bk:=D.nx } σ H1 else D.nx σ H1
theorem ps_while {c:Expr} {body:List Stmt} {tc:TT} {tb:TS} (hp:PassesOwn (model X.prog X.w) X.A X.env X.xe) (hc:PT X c tc) (hb:PSs X body tb):PS X (.While c body [] pos) (tWhile tc tb):=by
  intro pins s σ H D I h
  obtain ⟨W,⟨m0,w0⟩,turn⟩:=h
  refine wpAny_While (codeAny_whileLoop (fun n s'=>∃ σ' H',Inv X pins σ' H' s'∧W n σ' H') ?_ m0 ⟨σ,H,I,w0⟩)
  rintro n s1 ⟨σ1,H1,I1,w1⟩
  refine wpAny_passesOwn hp (thn (hc pins s1 σ1 H1 _ I1 (turn n σ1 H1 w1)) fun b s2 ⟨H2,I2,q2⟩ => ?_)
  cases b with
  | true =>
    obtain ⟨N,hN,q2⟩:=q2
    rw [if_pos rfl]
    refine wpAny_passesOwn hp (thn (hb pins s2 σ1 H2 _ I2 q2) fun f s3 q3 => ?_)
    cases f with
    | next =>
      obtain ⟨σ3,H3,I3,n3⟩:=q3
      obtain ⟨m',hm,w3⟩:=hN σ3 H3 n3
      exact ⟨m',hm,σ3,H3,I3,w3⟩
    | cont =>
      obtain ⟨σ3,H3,I3,n3⟩:=q3
      obtain ⟨m',hm,w3⟩:=hN σ3 H3 n3
      exact ⟨m',hm,σ3,H3,I3,w3⟩
    | brk=>exact q3
    | ret v=>exact q3
  | false =>
    rw [if_neg Bool.false_ne_true]
    exact wpAny_execs_nil ⟨σ1,H2,I2,q2⟩
end

structure It where
  go:Nat→Hp→Prop
  yld:Nat→Hp→V→Hp→Prop
  stop:Nat→Hp→Prop
noncomputable def FpOk (X:Cx) (pins:List (Addr×Obj)) (H:Hp) (b:Addr):Prop :=
  H b=none∧b≠X.env.locals∧b∉X.fs∧(b∈X.ex∨X.s₀.heap.objs.size≤b)∧(∀ x c,X.env.cells.lookup x=some c→c≠b)∧∀ p∈X.pn++pins,p.1≠b
theorem Inv.fpOk {X:Cx} {pins:List (Addr×Obj)} {σ:St} {H H':Hp} {s:Shared} {b:Addr} (I:Inv X pins σ H s) (hb:s.heap.objs.size≤b) (hn:H' b=none):FpOk X pins H' b:=by
  refine ⟨hn,Nat.ne_of_gt (Nat.lt_of_lt_of_le I.lt hb),I.nofs hb,.inr (Nat.le_trans I.sz hb),fun x c e z => ?_,fun p hp z => ?_⟩
  · obtain ⟨v,q⟩:=I.cell x c e
    exact absurd (Nat.lt_of_lt_of_le q.lt (by rw [z];exact hb)) (Nat.lt_irrefl _)
  · exact absurd (Nat.lt_of_lt_of_le (Heap.lt_size (I.pin p hp).1) (by rw [z];exact hb)) (Nat.lt_irrefl _)
structure Turn (P:Program) (w:World) (K:PySem.W.Frag) (tg:Expr) (J:It) (fp:List Addr) (it:Addr) (tn:Nat→Heap→Prop):Prop where
  mem:it∈fp
  obj:∀ i h,tn i h→∀ b∈fp,∃ o,h.get? b=some o∧∀ v,o.data ≠ .cell v
  keep:∀ i h h',tn i h→(∀ b∈fp,∀ o,h.get? b=some o→h'.get? b=some o)→tn i h'
  item:∀ (X:Cx),X.prog=P→X.w=w→X.K=K→X.calm=true→∀ (i:Nat) (pins:List (Addr×Obj)) (s:Shared) (σ:St) (H:Hp) (E:Value→Shared→Prop),Inv X pins σ H s→(∀ b∈fp,FpOk X pins H b)→tn i s.heap→J.go i H →
    wpAny (model P w) X.A (pyNext (.ref it)) (fun r s1=>∃ u,r=some u ∧
      wpAny (model P w) X.A (letOwnedTupleGo tg (.ref it) u) (fun _ s2=>∃ x H',Inv X pins σ H' s2∧RelV x u∧J.yld i H x H'∧tn (i + 1) s2.heap∧∀ b∈fp,H' b=none) E s1) E s
  done:∀ (X:Cx),X.prog=P→X.w=w→X.K=K→X.calm=true→∀ (i:Nat) (pins:List (Addr×Obj)) (s:Shared) (σ:St) (H:Hp) (E:Value→Shared→Prop),Inv X pins σ H s→(∀ b∈fp,FpOk X pins H b)→tn i s.heap→J.stop i H →
    wpAny (model P w) X.A (pyNext (.ref it)) (fun r s1=>r=none∧Inv X pins σ H s1) E s
  self:∀ (A:Around) (i:Nat) (s:Shared) (Q:Value→Shared→Prop) (E:Value→Shared→Prop),tn i s.heap→Q (.ref it) s→wpAny (model P w) A (pyIter (.ref it)) Q E s
noncomputable abbrev TI:=St→Hp→(It→Hp→Prop)→Prop
noncomputable def PIE (X:Cx) (pins:List (Addr×Obj)) (σ:St) (tg:Expr) (R:It→Hp→Prop) (itv:Value) (s2:Shared):Prop :=
  ∃ (it:Addr) (fp:List Addr) (tn:Nat→Heap→Prop) (J:It) (H':Hp),itv = .ref it∧Inv X pins σ H' s2∧Turn X.prog X.w X.K tg J fp it tn∧tn 0 s2.heap∧(∀ b∈fp,FpOk X pins H' b)∧R J H'
noncomputable def PI (X:Cx) (tg iter:Expr) (wi:TI):Prop :=
  ∀ (pins:List (Addr×Obj)) (s:Shared) (σ:St) (H:Hp) (R:It→Hp→Prop),Inv X pins σ H s→wi σ H R →
    wpAny (model X.prog X.w) X.A (eval iter X.env) (fun v s1=>wpAny (model X.prog X.w) X.A (pyIter v) (PIE X pins σ tg R) X.xe s1) X.xe s

theorem go_of {M:Model} {A:Around} {E:Value→Shared→Prop} {s:Shared} {tg:Expr} {it:Addr} {u:Value} {o:Obj} {n:String} {vs:Array Value} {Q:Unit→Shared→Prop} (ho:s.heap.get? it=some o) (hc:o.cls = .type n) (hd:o.data = .fields vs)
    (hn:["enumerate","zip","dict_itemiterator","dict_reverseitemiterator","odict_iterator","itertools.zip_longest","itertools.pairwise"].contains n=false) (hQ:Q () s):wpAny M A (letOwnedTupleGo tg (.ref it) u) Q E s:=by
  unfold letOwnedTupleGo
  cases tg <;> first
    | exact wpAny_pure hQ
    | (cases u <;> first
        | exact wpAny_pure hQ
        | (refine wpAny_bind (wpAny_load ho ?_)
           rw [hc,hd]
           show wpAny M A (if (["enumerate","zip","dict_itemiterator","dict_reverseitemiterator","odict_iterator","itertools.zip_longest","itertools.pairwise"].contains n&&vs[0]?==some (rawInt _))=true then _ else _) Q E s
           rw [if_neg (by intro h;rw [hn,Bool.false_and] at h;cases h)]
           exact wpAny_pure hQ))

noncomputable def Itl (K:PySem.W.Frag) (a:Addr):It :=
  ⟨fun i H=>∃ xs x,SqL K H a xs∧xs[i]?=some x,fun i H x H'=>H'=H∧∀ xs,SqL K H a xs→xs[i]?=some x,fun i H=>∃ xs,SqL K H a xs∧xs.length≤i⟩
noncomputable def Itt (K:PySem.W.Frag) (a:Addr):It :=
  ⟨fun i H=>∃ xs x,SqT K H a xs∧xs[i]?=some x,fun i H x H'=>H'=H∧∀ xs,SqT K H a xs→xs[i]?=some x,fun i H=>∃ xs,SqT K H a xs∧xs.length≤i⟩
noncomputable def Itr (lo:Int) (n:Nat):It:=⟨fun i _=>i < n,fun i H x H'=>H'=H∧x = .int (lo + i),fun i _=>n≤i⟩
theorem QiH {P:Program} {w:World} {K:PySem.W.Frag} {tg:Expr} (a it:Addr):Turn P w K tg (Itl K a) [it] it (fun i h=>h.IsListIter it a i) where
  mem:=by simp
  obj:=fun i h st b hb=>by
    have e:b=it:=by simpa using hb
    subst e
    obtain ⟨o,e,c,d⟩:=st
    exact ⟨o,e,fun v z=>by rw [d] at z;cases z⟩
  keep:=fun i h h' st k=>st.at fun o e=>k it (by simp) o e
  item:=by
    intro X hP hw hK hc i pins s σ H E I hf st hg
    subst hP hw hK
    obtain ⟨xs,x,hq,hx⟩:=hg
    obtain ⟨its,rv,p,hz⟩:=I.list hq
    obtain ⟨u,hu,ru⟩:=rv.get hx
    obtain ⟨f0,f1,f2,f3,f4,f5⟩:=hf it (by simp)
    refine wpAny_pyNext_list_item st p.isList (x:=u) (by simpa using hu) fun h' st' sb => ?_
    have I1:Inv X pins σ H { s with heap:=h' }:=I.turned (t':=s.toks) (fun b o hb e=>(sb.2 b hb).trans e) f0 f1 f3 f4 f5
    obtain ⟨o,e,c,d⟩:=id st'
    exact ⟨u,rfl,go_of (s:={ s with heap:=h' }) e c d (by decide) ⟨x,H,I1,ru,⟨rfl,fun ys hy=>by rw [I.list_inj hy hq];exact hx⟩,st',fun b hb=>(hf b hb).1⟩⟩
  done:=by
    intro X hP hw hK hc i pins s σ H E I hf st hg
    subst hP hw hK
    obtain ⟨xs,hq,hx⟩:=hg
    obtain ⟨its,rv,p,hz⟩:=I.list hq
    obtain ⟨f0,f1,f2,f3,f4,f5⟩:=hf it (by simp)
    have hl:=rv.length
    exact wpAny_pyNext_list_end (I.ok.hd hc) st p.isList (by simp;omega) fun h' eb=>⟨rfl,I.turned (t':=s.toks) (fun b o hb e=>eb b o hb e) f0 f1 f3 f4 f5⟩
  self:=fun _ _ _ _ _ st h=>wpAny_pyIter_listiter st h
theorem Qhn {P:Program} {w:World} {K:PySem.W.Frag} {tg:Expr} (a it:Addr):Turn P w K tg (Itt K a) [it] it (fun i h=>h.IsTupleIter it a i) where
  mem:=by simp
  obj:=fun i h st b hb=>by
    have e:b=it:=by simpa using hb
    subst e
    obtain ⟨o,e,c,d⟩:=st
    exact ⟨o,e,fun v z=>by rw [d] at z;cases z⟩
  keep:=fun i h h' st k=>st.at fun o e=>k it (by simp) o e
  item:=by
    intro X hP hw hK hc i pins s σ H E I hf st hg
    subst hP hw hK
    obtain ⟨xs,x,hq,hx⟩:=hg
    obtain ⟨its,rv,p,hz⟩:=I.tuple hq
    obtain ⟨u,hu,ru⟩:=rv.get hx
    obtain ⟨f0,f1,f2,f3,f4,f5⟩:=hf it (by simp)
    refine wpAny_pyNext_tuple_item st (show s.heap.IsTuple a its.toArray from p) (x:=u) (by simpa using hu) fun h' st' sb => ?_
    have I1:Inv X pins σ H { s with heap:=h' }:=I.turned (t':=s.toks) (fun b o hb e=>(sb.2 b hb).trans e) f0 f1 f3 f4 f5
    obtain ⟨o,e,c,d⟩:=id st'
    exact ⟨u,rfl,go_of (s:={ s with heap:=h' }) e c d (by decide) ⟨x,H,I1,ru,⟨rfl,fun ys hy=>by rw [I.tuple_inj hy hq];exact hx⟩,st',fun b hb=>(hf b hb).1⟩⟩
  done:=by
    intro X hP hw hK hc i pins s σ H E I hf st hg
    subst hP hw hK
    obtain ⟨xs,hq,hx⟩:=hg
    obtain ⟨its,rv,p,hz⟩:=I.tuple hq
    obtain ⟨f0,f1,f2,f3,f4,f5⟩:=hf it (by simp)
    have hl:=rv.length
    exact wpAny_pyNext_tuple_end (I.ok.hd hc) st (show s.heap.IsTuple a its.toArray from p) (by simp;omega) fun h' eb=>⟨rfl,I.turned (t':=s.toks) (fun b o hb e=>eb b o hb e) f0 f1 f3 f4 f5⟩
  self:=fun _ _ _ _ _ st h=>wpAny_pyIter_tupleiter st h
theorem Qho {P:Program} {w:World} {K:PySem.W.Frag} {tg:Expr} (it:Addr) (lo:Int) (n:Nat):Turn P w K tg (Itr lo n) [it] it (fun i h=>IsRangeIter h it (lo + (i:Nat) * 1) ((n:Int) - (i:Nat)) 1) where
  mem:=by simp
  obj:=fun i h st b hb=>by
    have e:b=it:=by simpa using hb
    subst e
    exact ⟨_,st,fun v z=>by
      have z':Data.fields _=Data.cell v:=z
      cases z'⟩
  keep:=fun i h h' st k=>k it (by simp) _ st
  item:=by
    intro X hP hw hK hc i pins s σ H E I hf st hg
    subst hP hw hK
    obtain ⟨f0,f1,f2,f3,f4,f5⟩:=hf it (by simp)
    have W:=Walks.range (prog:=X.prog) (w:=X.w) (I.ok.hd hc) it lo 1 n
    refine W.item i s _ _ hg st fun v h' tk hv st' kk => ?_
    obtain ⟨t,rfl⟩:=hv
    have I1:Inv X pins σ H { s with heap:=h',toks:=tk }:=I.turned (fun b o hb e=>kk b o (by simpa using hb) e) f0 f1 f3 f4 f5
    refine ⟨_,rfl,go_of (s:={ s with heap:=h',toks:=tk }) (n := "range_iterator") st' rfl rfl (by decide) ⟨.int (lo + i),H,I1,⟨t,?_⟩,⟨rfl,rfl⟩,st',fun b hb=>(hf b hb).1⟩⟩
    rw [Int.mul_one]
  done:=by
    intro X hP hw hK hc i pins s σ H E I hf st hg
    subst hP hw hK
    obtain ⟨f0,f1,f2,f3,f4,f5⟩:=hf it (by simp)
    exact wpAny_pyNext_range_end (I.ok.hd hc) st (by have:n≤i:=hg;omega) fun h' eb=>⟨rfl,I.turned (t':=s.toks) (fun b o hb e=>eb b o hb e) f0 f1 f3 f4 f5⟩
  self:=fun _ _ _ _ _ st h=>wpAny_pyIter_rangeiter st h
end L2

namespace L2
open PySem PySem.Spec PyProof.Rows
section
variable {X:Cx} {tg:Expr}
noncomputable def iList (K:PySem.W.Frag) (tl:TE):TI:=fun σ H R=>tl σ H fun x H1=>∃ a,x = .ref a∧(∃ xs,SqL K H1 a xs)∧R (Itl K a) H1
noncomputable def iTup (K:PySem.W.Frag) (tl:TE):TI:=fun σ H R=>tl σ H fun x H1=>∃ a,x = .ref a∧(∃ xs,SqT K H1 a xs)∧R (Itt K a) H1
theorem pi_list {l:Expr} {tl:TE} (hl:PE X l tl):PI X tg l (iList X.K tl):=by
  intro pins s σ H R I h
  refine thn (hl pins s σ H _ I h) fun v s1 ⟨x,H1,I1,r1,q1⟩ => ?_
  obtain ⟨a,e,⟨xs,hq⟩,q⟩:=q1
  subst e
  cases r1
  obtain ⟨its,rv,p,hz⟩:=I1.list hq
  refine wpAny_pyIter_list p.isList ?_
  refine ⟨s1.heap.objs.size,[s1.heap.objs.size],_,_,H1,rfl,I1.kept (t':=s1.toks) fun b o e=>Heap.get?_push_of_some _ e,QiH a _,⟨_,Heap.get?_push_size _ rfl,rfl,rfl⟩,fun b hb => ?_,q⟩
  have e:b=s1.heap.objs.size:=by simpa using hb
  subst e
  exact I1.fpOk (Nat.le_refl _) (I1.hok.fresh (Nat.le_refl _))
theorem pi_tup {l:Expr} {tl:TE} (hl:PE X l tl):PI X tg l (iTup X.K tl):=by
  intro pins s σ H R I h
  refine thn (hl pins s σ H _ I h) fun v s1 ⟨x,H1,I1,r1,q1⟩ => ?_
  obtain ⟨a,e,⟨xs,hq⟩,q⟩:=q1
  subst e
  cases r1
  obtain ⟨its,rv,p,hz⟩:=I1.tuple hq
  refine wpAny_pyIter_tuple (show s1.heap.IsTuple a its.toArray from p) ?_
  refine ⟨s1.heap.objs.size,[s1.heap.objs.size],_,_,H1,rfl,I1.kept (t':=s1.toks) fun b o e=>Heap.get?_push_of_some _ e,Qhn a _,⟨_,Heap.get?_push_size _ rfl,rfl,rfl⟩,fun b hb => ?_,q⟩
  have e:b=s1.heap.objs.size:=by simpa using hb
  subst e
  exact I1.fpOk (Nat.le_refl _) (I1.hok.fresh (Nat.le_refl _))
theorem range_it {pins:List (Addr×Obj)} {σ:St} {H:Hp} {s:Shared} {R:It→Hp→Prop} {E:Value→Shared→Prop} {lo hi:Int} {t u v:Tok} {tk:Nat} (I:Inv X pins σ H s) (h1 : -(2 ^ 62)≤lo) (h2:lo < 2 ^ 62) (h3 : -(2 ^ 62)≤hi) (h4:hi < 2 ^ 62)
    (q:R (Itr lo (hi - lo).toNat) H):wpAny (model X.prog X.w) X.A (pyIter (.ref s.heap.objs.size)) (PIE X pins σ tg R) E { s with heap:=s.heap.push { cls := .type "range",data := .fields #[.int lo t,.int hi u,.int 1 v] },toks:=tk }:=by
  refine wpAny_pyIter_range (IsRange.new ..) (small_one h1 h2 h3 h4) ?_
  have I1:Inv X pins σ H { s with heap:=s.heap.push { cls := .type "range",data := .fields #[.int lo t,.int hi u,.int 1 v] },toks:=tk }:=I.kept fun b o e=>Heap.get?_push_of_some _ e
  refine ⟨(s.heap.push { cls := .type "range",data := .fields #[.int lo t,.int hi u,.int 1 v] }).objs.size,[(s.heap.push { cls := .type "range",data := .fields #[.int lo t,.int hi u,.int 1 v] }).objs.size],_,_,H,rfl,
    I1.kept (t':=tk) fun b o e=>Heap.get?_push_of_some _ e,Qho _ lo (hi - lo).toNat,?_,fun b hb => ?_,q⟩
  · have e1:lo + ((0:Nat):Int) * 1=lo:=by simp
    have e2:(((hi - lo).toNat:Nat):Int) - ((0:Nat):Int)=Builtin.Range.rangeSize lo hi 1:=by rw [rangeSize_one];split <;> omega
    show IsRangeIter _ _ (lo + ((0:Nat):Int) * 1) ((((hi - lo).toNat:Nat):Int) - ((0:Nat):Int)) 1
    rw [e1,e2]
    exact Heap.get?_push_size _ rfl
  · have e:b=(s.heap.push { cls := .type "range",data := .fields #[.int lo t,.int hi u,.int 1 v] }).objs.size:=by simpa using hb
    subst e
    exact I1.fpOk (Nat.le_refl _) (I1.hok.fresh (Nat.le_refl _))
noncomputable def iRng1 (ta:TA):TI:=fun σ H R=>ta σ H fun vs H1=>∃ j:Int,vs=[.int j] ∧ -(2 ^ 62)≤j∧j < 2 ^ 62∧R (Itr 0 j.toNat) H1
theorem Qfa {a:Expr} {ta:TA} {p pos:Pos} (hg:Gl X "range") (hm:X.mg "range"=none) (ha:PA X [a] ta) (hs:starEach [a] X.env=[(false,eval a X.env)]:=by rfl):PI X tg (.Call (.Name "range" p) [a] [] pos) (iRng1 ta):=by
  intro pins s σ H R I h
  refine Call_ (QeR I hg hm boot_range (PyProof.Rows.callWith_type1 (thn (ha pos pins s σ H _ I h) fun us s1 ⟨vs,H1,I1,r1,q1⟩ => ?_) hs rfl))
  obtain ⟨j,e,q1,q2,q⟩:=q1
  subst e
  cases r1 with
  | cons r rr =>
    cases rr
    obtain ⟨t,rfl⟩:=r
    exact call_range_1 (range_it I1 (by omega) (by omega) q1 q2 (by simpa using q))
noncomputable def tFor (wi:TI) (g:TG) (tb:TS):TS:=fun D σ H=>wi σ H fun J H1=>∃ W:Nat→Nat→St→Hp→Prop,(∃ m,W 0 m σ H1)∧∀ i m σ H,W i m σ H →
  (J.stop i H∧D.nx σ H)∨(J.go i H∧∃ N:St→Hp→Prop,(∀ σ' H',N σ' H'→∃ m',m' < m∧W (i + 1) m' σ' H')∧∀ x H',J.yld i H x H'→g x σ H' fun σ2 H2=>tb { D with nx:=N,ct:=N,bk:=D.nx } σ2 H2)
noncomputable def QeP (fp:List Addr) (h:Heap):List (Addr×Obj):=fp.filterMap fun b=>(h.get? b).map fun o=>(b,o)
theorem Qau {fp:List Addr} {h:Heap} {b:Addr} {o:Obj} (hb:b∈fp) (e:h.get? b=some o):(b,o)∈QeP fp h:=List.mem_filterMap.mpr ⟨b,hb,by rw [e];rfl⟩
theorem QiT {fp:List Addr} {h:Heap} {p:Addr×Obj} (hp:p∈QeP fp h):p.1∈fp∧h.get? p.1=some p.2:=by
  obtain ⟨b,hb,e⟩:=List.mem_filterMap.mp hp
  cases q:h.get? b with
  | none=>rw [q] at e;cases e
  | some o =>
    rw [q] at e
    have e':(b,o)=p:=Option.some.inj e
    subst e'
    exact ⟨hb,q⟩
theorem Inv.pinned {pins:List (Addr×Obj)} {σ:St} {H:Hp} {s:Shared} {fp:List Addr} (I:Inv X pins σ H s) (hf:∀ b∈fp,FpOk X pins H b) (ho:∀ b∈fp,∃ o,s.heap.get? b=some o∧∀ v,o.data ≠ .cell v):Inv X (pins++QeP fp s.heap) σ H s :=
  I.pins_of fun p hp=>(List.mem_append.mp hp).elim (fun z=>I.pin p (List.mem_append_right _ z)) fun z=>by
    obtain ⟨hb,e⟩:=QiT z
    obtain ⟨f0,f1,f2,_⟩:=hf p.1 hb
    obtain ⟨o,e',d⟩:=ho p.1 hb
    rw [e] at e';cases e'
    exact ⟨e,f0,f1,f2,d⟩
theorem Inv.unpinned {pins pl:List (Addr×Obj)} {σ:St} {H:Hp} {s:Shared} (I:Inv X (pins++pl) σ H s):Inv X pins σ H s:=I.pins_of fun p hp=>I.pin p (List.mem_append_right _ (List.mem_append_left _ hp))
theorem QhU {iter:Expr} {body:List Stmt} {wi:TI} {g:TG} {tb:TS} {pos:Pos} (hp:PassesOwn (model X.prog X.w) X.A X.env X.xe) (hc:X.calm=true) (hi:PI X tg iter wi) (hg:PG X tg g) (hb:PSs X body tb)
    (hs:∀ x,foldedSetIterable iter X.env x=pure x:=by intro _;rfl):PS X (.For tg iter body [] pos) (tFor wi g tb):=by
  intro pins s σ H D I h
  refine wpAny_For (thn (hi pins s σ H _ I h) fun v s1 h1=>thn h1 fun itv s2 h2 => ?_) hs
  obtain ⟨it,fp,tn,J,H2,e,I2,T,st2,f2,W,⟨m0,w0⟩,turn⟩:=h2
  subst e
  -- what stays true of the iterator's objects through the loop
  have stat:∀ {H':Hp},(∀ b∈fp,H' b=none)→∀ b∈fp,FpOk X pins H' b:=fun hn b hb=>⟨hn b hb,(f2 b hb).2⟩
  refine codeAny_forLoop_any (fun n s'=>∃ i σ' H',Inv X pins σ' H' s'∧tn i s'.heap∧(∀ b∈fp,H' b=none)∧W i n σ' H') ?_ m0 ⟨0,σ,H2,I2,st2,fun b hb=>(f2 b hb).1,w0⟩
  rintro n s3 ⟨i,σ3,H3,I3,st3,fr3,w3⟩
  rcases turn i n σ3 H3 w3 with ⟨stop,qn⟩ | ⟨go,N,hN,step⟩
  · refine wpAny_passesOwn hp (thn (T.done X rfl rfl rfl hc i pins s3 σ3 H3 X.xe I3 (stat fr3) st3 stop) fun r s4 ⟨hr,I4⟩ => ?_)
    subst hr
    exact wpAny_execs_nil ⟨σ3,H3,I4,qn⟩
  · refine wpAny_passesOwn hp (thn (T.item X rfl rfl rfl hc i pins s3 σ3 H3 X.xe I3 (stat fr3) st3 go) fun r s4 ⟨u,hr,h4⟩ => ?_)
    subst hr
    refine wpAny_passesOwn hp (thn h4 fun _ s5 ⟨x,H5,I5,r5,y5,st5,fr5⟩ => ?_)
    have I5':=I5.pinned (stat fr5) (T.obj _ _ st5)
    refine wpAny_passesOwn hp (thn (hg _ s5 σ3 H5 x u _ I5' r5 (step x H5 y5)) fun _ s6 ⟨σ6,H6,I6,q6⟩ => ?_)
    refine wpAny_passesOwn hp (thn (hb _ s6 σ6 H6 _ I6 q6) fun f s7 q7 => ?_)
    have again:∀ {σ7:St} {H7:Hp},Inv X (pins++QeP fp s5.heap) σ7 H7 s7→N σ7 H7→∃ m,m < n∧∃ i σ' H',Inv X pins σ' H' s7∧tn i s7.heap∧(∀ b∈fp,H' b=none)∧W i m σ' H':=fun {σ7 H7} I7 n7=>by
      obtain ⟨m',hm,w7⟩:=hN σ7 H7 n7
      refine ⟨m',hm,i + 1,σ7,H7,I7.unpinned,T.keep _ _ _ st5 fun b hb o e=>(I7.pin (b,o) (List.mem_append_right _ (List.mem_append_right _ (Qau hb e)))).1,fun b hb => ?_,w7⟩
      obtain ⟨o,e,d⟩:=T.obj _ _ st5 b hb
      exact (I7.pin (b,o) (List.mem_append_right _ (List.mem_append_right _ (Qau hb e)))).2.1
    cases f with
    | next=>obtain ⟨σ7,H7,I7,n7⟩:=q7;exact again I7 n7
    | cont=>obtain ⟨σ7,H7,I7,n7⟩:=q7;exact again I7 n7
    | brk=>obtain ⟨σ7,H7,I7,q7⟩:=q7;exact ⟨σ7,H7,I7.unpinned,q7⟩
    | ret v=>obtain ⟨x7,σ7,H7,I7,r7,q7⟩:=q7;exact ⟨x7,σ7,H7,I7.unpinned,r7,q7⟩
end

end L2

namespace L2
open PySem PySem.Spec PyProof.Rows

noncomputable abbrev R2:=V→V→Hp→VK→Prop
noncomputable def OpR (X:Cx) (f:Value→Value→Sem Value) (r:R2):Prop :=
  ∀ (pins:List (Addr×Obj)) (s:Shared) (σ:St) (H:Hp) (x y:V) (v u:Value) (Q:VK),Inv X pins σ H s→RelV x v→RelV y u→r x y H Q →
    wpAny (model X.prog X.w) X.A (f v u) (EP X pins σ Q) X.xe s
noncomputable def UnR (X:Cx) (f:Value→Sem Value) (r:V→Hp→VK→Prop):Prop :=
  ∀ (pins:List (Addr×Obj)) (s:Shared) (σ:St) (H:Hp) (x:V) (v:Value) (Q:VK),Inv X pins σ H s→RelV x v→r x H Q →
    wpAny (model X.prog X.w) X.A (f v) (EP X pins σ Q) X.xe s
noncomputable def Qaa (X:Cx) (f:Value) (r:List V→Hp→VK→Prop):Prop :=
  ∀ (pins:List (Addr×Obj)) (s:Shared) (σ:St) (H:Hp) (xs:List V) (us:List Value) (Q:VK),Inv X pins σ H s→Vals xs us→r xs H Q →
    wpAny (model X.prog X.w) X.A (call f us) (EP X pins σ Q) X.xe s
noncomputable def TruR (X:Cx) (r:V→Hp→(Bool→Hp→Prop)→Prop):Prop :=
  ∀ (pins:List (Addr×Obj)) (s:Shared) (σ:St) (H:Hp) (x:V) (v:Value) (Q:Bool→Hp→Prop),Inv X pins σ H s→RelV x v→r x H Q →
    wpAny (model X.prog X.w) X.A (truthy v) (TP X pins σ Q) X.xe s

noncomputable def tOp (r:R2) (ta tb:TE):TE:=fun σ H Q=>ta σ H fun x H1=>tb σ H1 fun y H2=>r x y H2 Q
noncomputable def tUn (r:V→Hp→VK→Prop) (ta:TE):TE:=fun σ H Q=>ta σ H fun x H1=>r x H1 Q
noncomputable def rI (C:Int→Int→Prop) (g:Int→Int→V):R2:=fun x y H Q=>∃ i j,x = .int i∧y = .int j∧C i j∧Q (g i j) H
noncomputable def rI0 (g:Int→Int→V):R2:=fun x y H Q=>∃ i j,x = .int i∧y = .int j∧Q (g i j) H
noncomputable def rU (g:Int→V):V→Hp→VK→Prop:=fun x H Q=>∃ i,x = .int i∧Q (g i) H

section
variable {X:Cx} {a b c:Expr} {ta tb tc:TE} {pos:Pos}

theorem binT (ha:PE X a ta) (hb:PE X b tb) {pins:List (Addr×Obj)} {s:Shared} {σ:St} {H:Hp} {R:V→V→Hp→Prop} (I:Inv X pins σ H s)
    (h:ta σ H fun x H1=>tb σ H1 fun y H2=>R x y H2) {Q:Value→Shared→Prop} {f:Value→Value→Sem Value}
    (hf:∀ v u s2 x y H2,Inv X pins σ H2 s2→RelV x v→RelV y u→R x y H2→wpAny (model X.prog X.w) X.A (f v u) Q X.xe s2) :
    wpAny (model X.prog X.w) X.A (eval a X.env) (fun v s₁=>wpAny (model X.prog X.w) X.A (eval b X.env) (fun u s₂=>wpAny (model X.prog X.w) X.A (f v u) Q X.xe s₂) X.xe s₁) X.xe s:=by
  refine thn (ha pins s σ H _ I h) fun v s1 ⟨x,H1,I1,r1,q1⟩ => ?_
  refine thn (hb pins s1 σ H1 _ I1 q1) fun u s2 ⟨y,H2,I2,r2,q2⟩ => ?_
  exact hf v u s2 x y H2 I2 r1 r2 q2

theorem pe_op {op:Operator} {r:R2} (ho:OpR X (binaryOp op) r) (ha:PE X a ta) (hb:PE X b tb):PE X (.BinOp a op b pos) (tOp r ta tb):=by
  intro pins s σ H Q I h
  exact wpAny_BinOp (binT ha hb I h fun v u s2 x y H2 I2 rx ry q=>ho pins s2 σ H2 x y v u Q I2 rx ry q)
theorem pe_un {op:UnaryOp} {r:V→Hp→VK→Prop} (ho:UnR X (unaryOp op) r) (ha:PE X a ta):PE X (.UnaryOp op a pos) (tUn r ta):=by
  intro pins s σ H Q I h
  exact UnaryOp_ (thn (ha pins s σ H _ I h) fun v s1 ⟨x,H1,I1,r1,q1⟩=>ho pins s1 σ H1 x v Q I1 r1 q1)
theorem opI {f:Value→Value→Sem Value} {C:Int→Int→Prop} {g:Int→Int→Int}
    (rule:∀ (i j:Int) (t u:Tok) (s:Shared) (Q:Value→Shared→Prop) (E:Value→Shared→Prop),C i j→Q (.int (g i j) s.toks) { s with toks:=s.toks + 1 }→wpAny (model X.prog X.w) X.A (f (.int i t) (.int j u)) Q E s) :
    OpR X f (rI C fun i j => .int (g i j)):=by
  intro pins s σ H x y v u Q I rx ry h
  obtain ⟨i,j,rfl,rfl,hc,q⟩:=h
  obtain ⟨t,rfl⟩:=rx
  obtain ⟨t',rfl⟩:=ry
  exact rule i j t t' s _ _ hc ⟨.int (g i j),H,I.tok _,⟨_,rfl⟩,q⟩
theorem opI0 {f:Value→Value→Sem Value} {g:Int→Int→Int}
    (rule:∀ (i j:Int) (t u:Tok) (s:Shared) (Q:Value→Shared→Prop) (E:Value→Shared→Prop),Q (.int (g i j) s.toks) { s with toks:=s.toks + 1 }→wpAny (model X.prog X.w) X.A (f (.int i t) (.int j u)) Q E s) :
    OpR X f (rI0 fun i j => .int (g i j)):=by
  intro pins s σ H x y v u Q I rx ry h
  obtain ⟨i,j,rfl,rfl,q⟩:=h
  obtain ⟨t,rfl⟩:=rx
  obtain ⟨t',rfl⟩:=ry
  exact rule i j t t' s _ _ ⟨.int (g i j),H,I.tok _,⟨_,rfl⟩,q⟩
theorem opB0 {f:Value→Value→Sem Value} {g:Int→Int→Bool}
    (rule:∀ (i j:Int) (t u:Tok) (s:Shared) (Q:Value→Shared→Prop) (E:Value→Shared→Prop),Q (.bool (g i j)) s→wpAny (model X.prog X.w) X.A (f (.int i t) (.int j u)) Q E s) :
    OpR X f (rI0 fun i j => .bl (g i j)):=by
  intro pins s σ H x y v u Q I rx ry h
  obtain ⟨i,j,rfl,rfl,q⟩:=h
  obtain ⟨t,rfl⟩:=rx
  obtain ⟨t',rfl⟩:=ry
  exact rule i j t t' s _ _ ⟨.bl (g i j),H,I,rfl,q⟩

noncomputable def CPow (i j:Int):Prop:=0≤j∧j≤1000000∧i.natAbs < 2 ^ 64
noncomputable def CMul (i j:Int):Prop:=(-(2 ^ 64) < i∧i < 2 ^ 64)∨(-(2 ^ 64) < j∧j < 2 ^ 64)
theorem CMul.ok {i j:Int} (h:CMul i j):IntMulOk i j:=by
  rcases h with ⟨h1,h2⟩ | ⟨h1,h2⟩
  · exact .of_left (intBits_le_64 h1 h2)
  · exact .of_right (intBits_le_64 h1 h2)
theorem Qhm (k:Nat):(0:Int)≤2 ^ k:=by
  rw [two_pow_cast]
  exact Int.natCast_nonneg _

theorem op_add:OpR X (binaryOp .Add) (rI0 fun i j => .int (i + j)):=opI0 fun _ _ _ _ _ _ _ q=>add_int q
theorem op_sub:OpR X (binaryOp .Sub) (rI0 fun i j => .int (i - j)):=opI0 fun _ _ _ _ _ _ _ q=>sub_int q
theorem op_mul:OpR X (binaryOp .Mult) (rI CMul fun i j => .int (i * j)):=opI fun _ _ _ _ _ _ _ hc q=>mul_int q hc.ok
theorem op_mod:OpR X (binaryOp .Mod) (rI (fun _ j=>0 < j) fun i j => .int (i % j)):=opI fun i j _ _ _ _ _ hc q=>by
  have h1:(0:Int) < j:=hc
  exact mod_int' (by omega) (by rw [Int.fmod_eq_emod_of_nonneg i (by omega)];exact q)
theorem op_pow:OpR X (binaryOp .Pow) (rI CPow fun i j => .int (i ^ j.toNat)):=opI fun _ _ _ _ _ _ _ hc q=>pow_int_small hc.1 hc.2.1 hc.2.2 q
theorem op_shl:OpR X (binaryOp .LShift) (rI CPow fun i j => .int (i * 2 ^ j.toNat)):=opI fun _ _ _ _ _ _ _ hc q=>lshift_int_small hc.1 hc.2.1 hc.2.2 q
theorem op_shr:OpR X (binaryOp .RShift) (rI (fun _ j=>0≤j) fun i j => .int (i / 2 ^ j.toNat)):=opI fun i j _ _ _ _ _ hc q =>
  rshift_int hc (by rw [Int.fdiv_eq_ediv_of_nonneg i (Qhm _)];exact q)
theorem op_and:OpR X (binaryOp .BitAnd) (rI0 fun i j => .int (Builtin.bitAnd i j)):=opI0 fun _ _ _ _ _ _ _ q=>and_int q
theorem op_or:OpR X (binaryOp .BitOr) (rI0 fun i j => .int (Builtin.bitOr i j)):=opI0 fun _ _ _ _ _ _ _ q=>or_int q
theorem iop_or:OpR X (inplaceOp .BitOr) (rI0 fun i j => .int (Builtin.bitOr i j)):=opI0 fun _ _ _ _ _ _ _ q=>ior_int q
theorem unI {f:Value→Sem Value} {g:Int→Int}
    (rule:∀ (i:Int) (t:Tok) (s:Shared) (Q:Value→Shared→Prop) (E:Value→Shared→Prop),Q (.int (g i) s.toks) { s with toks:=s.toks + 1 }→wpAny (model X.prog X.w) X.A (f (.int i t)) Q E s) :
    UnR X f (rU fun i => .int (g i)):=by
  intro pins s σ H x v Q I rx h
  obtain ⟨i,rfl,q⟩:=h
  obtain ⟨t,rfl⟩:=rx
  exact rule i t s _ _ ⟨.int (g i),H,I.tok _,⟨_,rfl⟩,q⟩
theorem un_neg:UnR X (unaryOp .USub) (rU fun i => .int (-i)):=unI fun _ _ _ _ _ q=>neg_int q
end

section
variable {X:Cx} {a b c:Expr} {ta tb tc:TE} {pos:Pos}
theorem Qge {pins:List (Addr×Obj)} {σ:St} {H:Hp} {s:Shared} {Q:VK} {k k':Bool} (I:Inv X pins σ H s) (q:Q (.bl k) H) (e:k=k'):EP X pins σ Q (.bool k') s:=by
  subst e
  exact ⟨.bl k,H,I,rfl,q⟩
theorem op_lt:OpR X (compareOp .Lt) (rI0 fun i j => .bl (decide (i < j))):=opB0 fun _ _ _ _ _ _ _ q=>lt_int q
theorem op_le:OpR X (compareOp .LtE) (rI0 fun i j => .bl (decide (i≤j))):=opB0 fun _ _ _ _ _ _ _ q=>le_int q
theorem op_gt:OpR X (compareOp .Gt) (rI0 fun i j => .bl (decide (j < i))):=opB0 fun _ _ _ _ _ _ _ q=>gt_int q
theorem op_isN:OpR X (compareOp .Is) (fun x y H Q=>y = .non∧Q (.bl (decide (x = .non))) H):=by
  intro pins s σ H x y v u Q I rx ry h
  obtain ⟨rfl,q⟩:=h
  cases ry
  refine is_none_gen (Qge I q ?_)
  cases x <;> first
    | (cases rx;rfl)
    | (obtain ⟨t,rfl⟩:=rx;rfl)
theorem op_notN:OpR X (compareOp .IsNot) (fun x y H Q=>y = .non∧Q (.bl (!decide (x = .non))) H):=by
  intro pins s σ H x y v u Q I rx ry h
  obtain ⟨rfl,q⟩:=h
  cases ry
  refine isnot_none_gen (Qge I q ?_)
  cases x <;> first
    | (cases rx;rfl)
    | (obtain ⟨t,rfl⟩:=rx;rfl)

theorem OpR.or {f:Value→Value→Sem Value} {r r':R2} (h:OpR X f r) (h':OpR X f r'):OpR X f (fun x y H Q=>r x y H Q∨r' x y H Q):=by
  intro pins s σ H x y v u Q I rx ry q
  rcases q with q | q
  · exact h pins s σ H x y v u Q I rx ry q
  · exact h' pins s σ H x y v u Q I rx ry q

theorem Qs (b:Expr) {op:CmpOp} (h:op ≠ .In:=by decide) (h2:op ≠ .NotIn:=by decide):behindInMarks op b=false:=by
  have e1:(op==CmpOp.In)=false:=by cases op <;> first | rfl | exact absurd rfl h
  have e2:(op==CmpOp.NotIn)=false:=by cases op <;> first | rfl | exact absurd rfl h2
  cases b <;> simp [behindInMarks,e1,e2]
theorem pe_cmpR {op:CmpOp} {r:R2} (ho:OpR X (compareOp op) r) (ha:PE X a ta) (hb:PE X b tb) (hm:behindInMarks op b=false):PE X (.Compare a [op] [b] pos) (tOp r ta tb):=by
  intro pins s σ H Q I h
  exact wpAny_Compare1 (binT ha hb I h fun v u s2 x y H2 I2 rx ry q=>ho pins s2 σ H2 x y v u Q I2 rx ry q) hm
noncomputable def tTest (t:TE):TT:=fun σ H Q=>t σ H fun x H'=>∃ k,x = .bl k∧Q k H'
theorem pt_cmpR {op:CmpOp} {r:R2} (ho:OpR X (compareOp op) r) (ha:PE X a ta) (hb:PE X b tb) (hm:behindInMarks op b=false):PT X (.Compare a [op] [b] pos) (tTest (tOp r ta tb)):=by
  intro pins s σ H Q I h
  refine wpAny_isTrue_Compare1 (thn (ha pins s σ H _ I h) fun v s1 ⟨x,H1,I1,r1,q1⟩=>thn (hb pins s1 σ H1 _ I1 q1) fun u s2 ⟨y,H2,I2,r2,q2⟩ =>
    thn (ho pins s2 σ H2 x y v u _ I2 r1 r2 q2) fun c s3 ⟨z,H3,I3,r3,k,e,q3⟩ => ?_) hm
  subst e
  cases r3
  exact wpAny_truthy_bool ⟨H3,I3,q3⟩
noncomputable def TruV (K:PySem.W.Frag) (x:V) (H:Hp) (k:Bool):Prop :=
  match x with
  | .non=>k=false
  | .bl b=>k=b
  | .int i=>k=(i != 0)
  | .str y=>y.length≤sizeLine∧k=((y.length:Int) != 0)
  | .byt y=>y.size≤sizeLine∧k=((y.size:Int) != 0)
  | .ref p=>(∃ xs,SqL K H p xs∧k = !xs.isEmpty)∨(∃ xs,SqT K H p xs∧k = !xs.isEmpty)∨∃ kvs,H p=some (.dK kvs)∧k = !kvs.isEmpty
  | _=>False
theorem QhB {κ:Type} {kvs:List (κ×V)} {vs:List (κ×Value)} (r:KV kvs vs):(!vs.isEmpty) = !kvs.isEmpty:=by
  cases r <;> rfl
theorem QdT {xs:List V} {its:List Value} (r:Vals xs its):(!its.toArray.isEmpty) = !xs.isEmpty:=by
  cases r <;> simp
theorem QdC:(sizeLine:Nat) < 2 ^ 63:=by rw [sizeLine_eq];decide
theorem tru_ok:TruR X (fun x H Q=>∃ k,TruV X.K x H k∧Q k H):=by
  intro pins s σ H x v Q I rx h
  obtain ⟨k,e,q⟩:=h
  have hl:=QdC
  have hs:sizeLine=16777216:=sizeLine_eq
  cases x with
  | non =>
    cases rx
    have e':k=false:=e
    subst e'
    exact truthy_none ⟨H,I,q⟩
  | bl b =>
    cases rx
    have e':k=b:=e
    subst e'
    exact wpAny_truthy_bool ⟨H,I,q⟩
  | int i =>
    obtain ⟨t,rfl⟩:=rx
    have e':k=(i != 0):=e
    subst e'
    exact PySem.P.truthy_int ⟨H,I,q⟩
  | str y =>
    obtain ⟨t,rfl⟩:=rx
    obtain ⟨hy,e'⟩:y.length≤sizeLine∧k=((y.length:Int) != 0):=e
    subst e'
    exact PySem.P.truthy_str (by omega) ⟨H,I.tok _,q⟩
  | byt y =>
    obtain ⟨t,rfl⟩:=rx
    obtain ⟨hy,e'⟩:y.size≤sizeLine∧k=((y.size:Int) != 0):=e
    subst e'
    exact PySem.W.truthy_bytes (by omega) ⟨H,I.tok _,q⟩
  | ref p =>
    cases rx
    have e':(∃ xs,SqL X.K H p xs∧k = !xs.isEmpty)∨(∃ xs,SqT X.K H p xs∧k = !xs.isEmpty)∨∃ kvs,H p=some (.dK kvs)∧k = !kvs.isEmpty:=e
    rcases e' with ⟨xs,hx,e'⟩ | ⟨xs,hx,e'⟩ | ⟨kvs,hx,e'⟩
    · subst e'
      obtain ⟨its,r,pl,hz⟩:=I.list hx
      have hlen:=r.length
      exact wpAny_truthy_list pl.isList (by simp only [List.size_toArray];omega) ⟨H,I.tok _,by rw [QdT r];exact q⟩
    · subst e'
      obtain ⟨its,r,pl,hz⟩:=I.tuple hx
      have hlen:=r.length
      exact truthy_tuple pl (by simp only [List.size_toArray];omega) ⟨H,I.tok _,by rw [QdT r];exact q⟩
    · subst e'
      obtain ⟨hz,hS,vs,r,m⟩:kvs.length≤sizeLine∧(p==sysModules)=false∧∃ vs,KV kvs vs∧s.heap.DictOf (QfM X.prog X.w) p vs:=I.hok p _ hx
      have hlen:kvs.length=vs.length:=Paired.length r
      exact wpAny_truthy_dict hS m (by omega) ⟨H,I.tok _,by rw [QhB r];exact q⟩
  | _=>exact (show False from e).elim
theorem pt_truth (ha:PE X a ta) (he:∀ whole,isTrue a X.env whole=(do let v ← whole;standAt a.pos;holding [v] (truthy v))) :
    PT X a (fun σ H Q=>ta σ H fun x H'=>∃ k,TruV X.K x H' k∧Q k H'):=by
  intro pins s σ H Q I h
  exact isTrue_plain (thn (ha pins s σ H _ I h) fun v s1 ⟨x,H1,I1,r1,q1⟩=>tru_ok pins s1 σ H1 x v Q I1 r1 q1) (he _)

theorem Qht:OpR X (binaryOp .Add) (fun x y H Q=>∃ i j,x = .str i∧y = .str j∧i.length + j.length≤sizeLine∧Q (.str (i++j)) H):=by
  intro pins s σ H x y v u Q I rx ry h
  obtain ⟨i,j,rfl,rfl,hz,q⟩:=h
  obtain ⟨t,rfl⟩:=rx
  obtain ⟨t',rfl⟩:=ry
  exact add_str (fun t' tk=>⟨.str (i++j),H,I.tok _,⟨_,rfl⟩,q⟩) hz
theorem Qev {x:V} {us:List Value} (r:Vals [x] us):∃ u,us=[u]∧RelV x u:=by
  cases r with
  | cons r1 r2=>cases r2;exact ⟨_,rfl,r1⟩
theorem vals2 {x y:V} {us:List Value} (r:Vals [x,y] us):∃ u w',us=[u,w']∧RelV x u∧RelV y w':=by
  cases r with
  | cons r1 r2 =>
    cases r2 with
    | cons r3 r4=>cases r4;exact ⟨_,_,rfl,r1,r3⟩
noncomputable def LenV (K:PySem.W.Frag) (x:V) (H:Hp) (n:Nat):Prop :=
  match x with
  | .str y=>y.length≤sizeLine∧n=y.length
  | .byt y=>y.size≤sizeLine∧n=y.size
  | .ref p=>(∃ xs,SqL K H p xs∧n=xs.length)∨∃ xs,SqT K H p xs∧n=xs.length
  | _=>False
theorem call_len:Qaa X (.builtin "len") (fun xs H Q=>∃ x n,xs=[x]∧LenV X.K x H n∧Q (.int n) H):=by
  intro pins s σ H xs us Q I r h
  obtain ⟨x,n,rfl,e,q⟩:=h
  obtain ⟨u,rfl,rx⟩:=Qev r
  have hl:=QdC
  have hs:sizeLine=16777216:=sizeLine_eq
  cases x with
  | str y =>
    obtain ⟨t,rfl⟩:=rx
    obtain ⟨hy,e'⟩:y.length≤sizeLine∧n=y.length:=e
    subst e'
    exact len_str (by omega) ⟨.int _,H,I.tok _,⟨_,rfl⟩,q⟩
  | byt y =>
    obtain ⟨t,rfl⟩:=rx
    obtain ⟨hy,e'⟩:y.size≤sizeLine∧n=y.size:=e
    subst e'
    exact PySem.W.len_bytes (by omega) ⟨.int _,H,I.tok _,⟨_,rfl⟩,q⟩
  | ref p =>
    cases rx
    have e':(∃ xs,SqL X.K H p xs∧n=xs.length)∨∃ xs,SqT X.K H p xs∧n=xs.length:=e
    rcases e' with ⟨xs,hx,e'⟩ | ⟨xs,hx,e'⟩
    · subst e'
      obtain ⟨its,r',pl,hz⟩:=I.list hx
      have hlen:=r'.length
      exact Calls.call_len_list pl.isList (by simp only [List.size_toArray];omega) ⟨.int xs.length,H,I.tok _,⟨_,by simp only [List.size_toArray];rw [hlen]⟩,q⟩
    · subst e'
      obtain ⟨its,r',pl,hz⟩:=I.tuple hx
      have hlen:=r'.length
      exact len_tuple pl (by simp only [List.size_toArray];omega) ⟨.int xs.length,H,I.tok _,⟨_,by simp only [List.size_toArray];rw [hlen]⟩,q⟩
  | _=>exact (show False from e).elim
end
end L2

namespace L2
open PySem PySem.Spec PyProof.Rows

structure ObjM (h:Heap) (x dx C:Addr) (mA:Str→Option Value):Prop where
  obj:h.get? x=some (PySem.W.instObj C dx)
  ns:h.Ns1 dx mA
  ne:dx≠x

theorem QiU {h:Heap} {dx:Addr} {mA:Str→Option Value} (n:h.Ns1 dx mA):∃ od,h.get? dx=some od∧∀ name,PySem.W.lookIn name od=some (mA name):=by
  obtain ⟨o,es,ep,ho,hd,hk,_,hm⟩:=n
  refine ⟨o,ho,fun name => ?_⟩
  have e:=hm name
  unfold nsFind findBy at e
  rw [← Array.find?_toList] at e
  unfold PySem.W.lookIn
  rw [hd]
  dsimp only
  split
  · rename_i y q
    rw [q] at e
    exact congrArg some e
  · rename_i q
    rw [q] at e
    have a:es.toList.any (·.refKey)=false:=by
      rw [List.any_eq_false]
      intro y hy
      obtain ⟨z,t,hkey⟩:=hk y (Array.mem_toList_iff.mp hy)
      simp [DictEntry.refKey,hkey]
    have a':¬ es.toList.any (·.refKey)=true:=by rw [a];exact Bool.false_ne_true
    rw [if_neg a']
    exact congrArg some e

theorem ObjM.look {h:Heap} {x dx C:Addr} {mA:Str→Option Value} (I:ObjM h x dx C mA):∃ od,PySem.W.InstAt h x (PySem.W.instObj C dx) C (some od)∧∀ name,PySem.W.lookIn name od=some (mA name) :=
  let ⟨od,ho,hl⟩:=QiU I.ns
  ⟨od,⟨I.obj,rfl,rfl,ho⟩,hl⟩

section
variable {prog:Program} {w:World} {A:Around} {E:Value→Shared→Prop} {s:Shared} {K:PySem.W.Frag} {x dx C f:Addr} {mA:Str→Option Value} {name:Str} {v:Value}

theorem get_map {expr:Bool} {Q:Value→Shared→Prop} (X:K.In s.heap) (I:ObjM s.heap x dx C mA) (hg:PySem.W.plainGet K C name=true) (hh:PySem.W.hasDictIn K C=true)
    (ha:PySem.W.findIn K (.ref C) name=some none) (hv:mA name=some v) (hv':PySem.W.handedIn v=true) (h:Q v { s with toks:=s.toks + 1 }) :
    wpAny (model prog w) A (getAttr (.ref x) name expr) Q E s:=by
  obtain ⟨od,J,hl⟩:=I.look
  exact PySem.W.get_value X J (PySem.W.plainGet_of hg).1 (PySem.W.findObj_own hh ha rfl (by rw [hl,hv])) hv' h

theorem get_meth {pl:Sem Bool} {Q:Value×List Value→Shared→Prop} (X:K.In s.heap) (I:ObjM s.heap x dx C mA) (hg:PySem.W.plainGet K C name=true)
    (hf:PySem.W.findIn K (.ref C) name=some (some (.ref f))) (ht:PySem.W.isFn K (.ref f)=true) (hv:mA name=none) (h:Q (.ref f,[.ref x]) s) :
    wpAny (model prog w) A (getMethod (.ref x) name pl) Q E s:=by
  obtain ⟨od,J,hl⟩:=I.look
  exact PySem.W.method_fn X J (PySem.W.plainGet_of hg).1 (PySem.W.plainGet_of hg).2 hf (beq_iff_eq.mp ht) (by show (PySem.W.lookIn name od).map (·.isSome)=some false;rw [hl,hv];rfl) h

theorem set_map {ns:List Str} {Q:Unit→Shared→Prop} (X:K.In s.heap) (I:ObjM s.heap x dx C mA)
    (hs:PySem.W.findIn K (.ref C) "__setattr__"=some (some (.builtin "object.__setattr__"))) (hp:PySem.W.plainOver K C=true) (ht:PySem.W.takerIn K C name=some none) (hh:PySem.W.hasDictIn K C=true)
    (hw:PySem.Within mA ns) (hsz:ns.length≤sizeLine)
    (h:∀ h',ObjM h' x dx C (fun y=>if y=name then some v else mA y)→Heap.SameBut dx s.heap h'→Q () { s with heap:=h',toks:=s.toks + 2 }) :
    wpAny (model prog w) A (setAttr (.ref x) name v) Q E s:=by
  obtain ⟨od,J,hl⟩:=I.look
  refine PySem.W.set_plain X J hs (PySem.W.osa_open (s:={ s with toks:=s.toks + 1 }) (r:=none) X J hp ht fun b => ?_)
  obtain ⟨cd,hc,hd'⟩:=PySem.W.any_some hh
  have hx:s.heap.get? x=some ⟨.ref C,some dx,.plain,#[]⟩:=I.obj
  refine wpAny_bind (wpAny_pure (wpAny_bind (wpAny_bind (wpAny_loadPart hx (wpAny_bind (PySem.W.Looks.here (s:={ s with toks:=s.toks + 1 }) (PySem.W.looks_clsIn X hc) ?_))))))
  rw [hd']
  refine wpAny_pure (a:=some dx) (wpAny_bind (wpAny_pure (wpAny_bind ?_)))
  refine wpAny_nsSet1 (s:={ s with toks:=s.toks + 1 }) I.ns fun h' hn2 hs2 => ?_
  obtain ⟨oD,esD,epD,hoD,hdD,hcD⟩:=hn2.count (PySem.Within.cons name v hw)
  refine wpAny_bind (wpAny_lookBehind hoD (by rw [hdD];exact pastItsLine_dict (Nat.le_trans hcD (by rw [List.length_cons];omega))) ?_)
  exact wpAny_pure (h _ ⟨(hs2.2 _ (Ne.symm I.ne)).trans I.obj,hn2,I.ne⟩ hs2)

theorem make_map {R:Result→Shared→Prop} {vs:List Value} {kw:List (Str×Value)} (X:K.In s.heap) (hm:PySem.W.makesIn K C=true)
    (hi:PySem.W.findIn K (.ref C) "__init__"=some (some (.ref f))) (hf:PySem.W.typeIn K (.ref f)=some (.type "function"))
    (h:codeAny (model prog w) (A.under (.builtin "type.__call__" ⟨.ref C :: vs,kw⟩)) (.call (.ref f) ⟨.ref (s.heap.objs.size + 1) :: vs,kw⟩) (PySem.W.InitBack (s.heap.objs.size + 1) R)
      { s with heap:=(s.heap.push PySem.W.emptyDict).push (PySem.W.instObj C s.heap.objs.size) }) :
    codeAny (model prog w) A (.call (.ref C) ⟨vs,kw⟩) R s:=by
  obtain ⟨hh,g,d,t,os⟩:=s
  exact PySem.W.make_core (PySem.W.makes_of X hm) (PySem.W.looks_findIn X hi) (fun self=>PySem.W.bind_fn X self hf) (.inl rfl) h
end

noncomputable def putF (f:Str) (v:V):List (Str×V)→List (Str×V)
  | []=>[(f,v)]
  | (g,x) :: r=>if g=f then (g,v) :: r else (g,x) :: putF f v r
theorem QcX (f g:Str) (v:V):∀ fs:List (Str×V),(putF f v fs).lookup g=if g=f then some v else fs.lookup g
  | []=>by
    show List.lookup g [(f,v)]=_
    by_cases h:g=f
    · have hb:(g==f)=true:=beq_iff_eq.mpr h
      simp only [List.lookup,hb,if_pos h]
    · have hb:(g==f)=false:=beq_eq_false_iff_ne.mpr h
      simp only [List.lookup,hb,if_neg h]
  | (k,x) :: r=>by
    have ih:=QcX f g v r
    rw [show putF f v ((k,x) :: r)=(if k=f then (k,v) :: r else (k,x) :: putF f v r) from rfl]
    by_cases hk:k=f
    · rw [if_pos hk]
      by_cases h:g=k
      · have hb:(g==k)=true:=beq_iff_eq.mpr h
        simp only [List.lookup,hb,if_pos (h.trans hk)]
      · have hb:(g==k)=false:=beq_eq_false_iff_ne.mpr h
        simp only [List.lookup,hb,if_neg (fun e:g=f=>h (e.trans hk.symm))]
    · rw [if_neg hk]
      by_cases h:g=k
      · have hb:(g==k)=true:=beq_iff_eq.mpr h
        simp only [List.lookup,hb,if_neg (fun e:g=f=>hk (h.symm.trans e))]
      · have hb:(g==k)=false:=beq_eq_false_iff_ne.mpr h
        simp only [List.lookup,hb]
        exact ih
theorem QcT (f:Str) (v:V):∀ fs:List (Str×V),f∈(putF f v fs).map (·.1)∧∀ g,g∈fs.map (·.1)→g∈(putF f v fs).map (·.1)
  | []=>⟨by simp [putF],fun g h=>by simp at h⟩
  | (k,x) :: r=>by
    obtain ⟨i1,i2⟩:=QcT f v r
    rw [show putF f v ((k,x) :: r)=(if k=f then (k,v) :: r else (k,x) :: putF f v r) from rfl]
    by_cases hk:k=f
    · rw [if_pos hk]
      subst hk
      exact ⟨by simp,fun g h=>by simpa using h⟩
    · rw [if_neg hk]
      refine ⟨?_,fun g h => ?_⟩
      · rw [List.map_cons]
        exact List.mem_cons_of_mem _ i1
      · rw [List.map_cons] at h ⊢
        rcases List.mem_cons.mp h with e | e
        · exact List.mem_cons.mpr (.inl e)
        · exact List.mem_cons_of_mem _ (i2 g e)
theorem QcZ (f:Str) (v:V):∀ fs:List (Str×V),(putF f v fs).length≤fs.length + 1
  | []=>by simp [putF]
  | (k,x) :: r=>by
    have ih:=QcZ f v r
    rw [show putF f v ((k,x) :: r)=(if k=f then (k,v) :: r else (k,x) :: putF f v r) from rfl]
    by_cases hk:k=f
    · rw [if_pos hk,List.length_cons,List.length_cons];omega
    · rw [if_neg hk,List.length_cons,List.length_cons];omega

theorem RelO.some_of {v:V} {o:Option Value} (r:RelO (some v) o):∃ u,o=some u∧RelV v u:=by
  cases o with
  | none=>exact (show False from r).elim
  | some u=>exact ⟨u,rfl,r⟩
theorem RelO.none_of {o:Option Value} (r:RelO none o):o=none:=by
  cases o with
  | none=>rfl
  | some u=>exact (show False from r).elim
theorem Qja {v:V} {u:Value} (r:RelV v u):PySem.W.handedIn u=true:=by
  cases v with
  | non=>cases (show u=Value.none from r);rfl
  | bl b=>cases (show u=Value.bool b from r);rfl
  | int i=>obtain ⟨t,e⟩:=(show ∃ t,u=Value.int i t from r);cases e;rfl
  | str x=>obtain ⟨t,e⟩:=(show ∃ t,u=Value.str x t from r);cases e;rfl
  | byt b=>obtain ⟨t,e⟩:=(show ∃ t,u=Value.bytes b t from r);cases e;rfl
  | flt b=>obtain ⟨t,e⟩:=(show ∃ t,u=Value.float b t from r);cases e;rfl
  | ref a=>cases (show u=Value.ref a from r);rfl
  | ty n=>cases (show u=Value.type n from r);rfl

section
variable {P:Program} {w:World} {H H':Hp} {h h':Heap} {a C dx:Addr} {fs fs':List (Str×V)}
theorem QfP (hok:HOk P w H h) (e:H a=some (.ins C dx fs)):∃ mA,ObjM h a dx C mA∧(∀ f,RelO (fs.lookup f) (mA f))∧PySem.Within mA (fs.map (·.1))∧fs.length≤1000∧H dx=some (.own a):=by
  obtain ⟨d,z,ne,ob,mA,n,r,q⟩:=(show Xn P w H h a (.ins C dx fs) from hok a _ e)
  exact ⟨mA,⟨ob,n,ne⟩,r,q,z,d⟩
end

structure Cls (K:PySem.W.Frag) (C:Addr):Prop where
  pg:PySem.W.plainGet K C Str.empty=true
  hd:PySem.W.hasDictIn K C=true
  po:PySem.W.plainOver K C=true
  sa:PySem.W.findIn K (.ref C) "__setattr__"=some (some (.builtin "object.__setattr__"))
theorem Cls.get {K:PySem.W.Frag} {C:Addr} (c:Cls K C) (f:Str):PySem.W.plainGet K C f=true:=c.pg
noncomputable def Xw (K:PySem.W.Frag) (C:Addr) (f:Str):Prop:=PySem.W.findIn K (.ref C) f=some none
theorem Xw.taker {K:PySem.W.Frag} {C:Addr} {f:Str} (n:Xw K C f):PySem.W.takerIn K C f=some none:=by
  unfold PySem.W.takerIn
  rw [show PySem.W.findIn K (.ref C) f=some none from n]
  rfl
structure Meth (K:PySem.W.Frag) (C:Addr) (m:Str) (f:Addr):Prop where
  at_:PySem.W.findIn K (.ref C) m=some (some (.ref f))
  fn:PySem.W.isFn K (.ref f)=true
  kp:PySem.W.keepIn K (.ref f)=true

section
variable {X:Cx} {pins:List (Addr×Obj)} {σ:St} {H:Hp} {s:Shared} {a C dx:Addr} {fs:List (Str×V)} {f:Str} {v:V} {A:Around} {E:Value→Shared→Prop}

theorem QhD {b:Bool} {Q:Value→Shared→Prop} (I:Inv X pins σ H s) (e:H a=some (.ins C dx fs)) (c:Cls X.K C) (n:Xw X.K C f) (l:fs.lookup f=some v)
    (h:∀ u s',Inv X pins σ H s'→RelV v u→Q u s'):wpAny (model X.prog X.w) A (getAttr (.ref a) f b) Q E s:=by
  obtain ⟨mA,O,r,_,_,_⟩:=QfP I.hok e
  obtain ⟨u,hu,ru⟩:=RelO.some_of (v:=v) (o:=mA f) (by rw [← l];exact r f)
  exact get_map I.kIn O (c.get f) c.hd n hu (Qja ru) (h u _ (I.tok _) ru)

theorem QbH {m:Str} {g:Addr} {pl:Sem Bool} {Q:Value×List Value→Shared→Prop} (I:Inv X pins σ H s) (e:H a=some (.ins C dx fs)) (c:Cls X.K C) (k:Meth X.K C m g) (l:fs.lookup m=none)
    (h:Q (.ref g,[.ref a]) s):wpAny (model X.prog X.w) A (getMethod (.ref a) m pl) Q E s:=by
  obtain ⟨mA,O,r,_,_,_⟩:=QfP I.hok e
  have hn:mA m=none:=RelO.none_of (by rw [← l];exact r m)
  exact get_meth I.kIn O (c.get m) k.at_ k.fn hn h

theorem Qhs {y:V} {u:Value} {Q:Unit→Shared→Prop} (I:Inv X pins σ H s) (e:H a=some (.ins C dx fs)) (c:Cls X.K C) (n:Xw X.K C f) (hl:fs.length < 1000) (ry:RelV y u)
    (h:∀ s',Inv X pins σ (upd H a (.ins C dx (putF f y fs))) s'→Q () s'):wpAny (model X.prog X.w) A (setAttr (.ref a) f u) Q E s:=by
  obtain ⟨mA,O,r,wi,_,ho⟩:=QfP I.hok e
  have hz:(fs.map (·.1)).length≤sizeLine:=by rw [List.length_map,sizeLine_eq];omega
  refine set_map I.kIn O c.sa c.po n.taker c.hd wi hz fun h' O' sb=>h _ ?_
  have hd:∃ o,h'.get? dx=some o:=let ⟨o,_,_,e',_⟩:=O'.ns;⟨o,e'⟩
  refine I.write (x:=a) (e:=dx) (by rw [e];exact True.intro) (.inr ho) (fun b q hb z=>(sb.2 b hb).trans z) hd ?_
  refine ⟨by rw [Ql O.ne];exact ho,?_,O.ne,O'.obj,_,O'.ns,fun g => ?_,fun g hg => ?_⟩
  · have:=QcZ f y fs;omega
  · show RelO ((putF f y fs).lookup g) (if g=f then some u else mA g)
    rw [QcX]
    by_cases q:g=f
    · rw [if_pos q,if_pos q];exact ry
    · rw [if_neg q,if_neg q];exact r g
  · by_cases q:g=f
    · rw [q];exact (QcT f y fs).1
    · refine (QcT f y fs).2 g (wi g fun z=>hg ?_)
      show (if g=f then some u else mA g)=none
      rw [if_neg q];exact z

theorem Inv.made (I:Inv X pins σ H s):Inv X pins σ (upd (upd H s.heap.objs.size (.own (s.heap.objs.size + 1))) (s.heap.objs.size + 1) (.ins C s.heap.objs.size []))
    { s with heap:=(s.heap.push PySem.W.emptyDict).push (PySem.W.instObj C s.heap.objs.size) }:=by
  have e1:(s.heap.push PySem.W.emptyDict).get? s.heap.objs.size=some PySem.W.emptyDict:=Heap.get?_push_size s.heap rfl
  have e2:((s.heap.push PySem.W.emptyDict).push (PySem.W.instObj C s.heap.objs.size)).get? (s.heap.objs.size + 1)=some (PySem.W.instObj C s.heap.objs.size):=by
    have:=Heap.get?_push_size (s.heap.push PySem.W.emptyDict) (o:=PySem.W.instObj C s.heap.objs.size) rfl
    rwa [Heap.size_push] at this
  have e3:(s.heap.push PySem.W.emptyDict).Ns s.heap.objs.size (fun _=>none):=⟨PySem.W.emptyDict,#[],_,e1,rfl,(fun e he=>absurd he (by simp)),fun _=>rfl⟩
  have I1:=I.laid (a:=s.heap.objs.size) (o := .own (s.heap.objs.size + 1)) (h':=s.heap.push PySem.W.emptyDict) (t':=s.toks) (fun b u q=>Heap.get?_push_of_some _ q) (Nat.le_refl _) ⟨_,e1⟩
  refine I1.laid (a:=s.heap.objs.size + 1) (o := .ins C s.heap.objs.size []) (t':=s.toks) (fun b u q=>Heap.get?_push_of_some _ q) (Nat.le_of_eq (Heap.size_push _ _)) ?_
  have ne:s.heap.objs.size≠s.heap.objs.size + 1:=Nat.ne_of_lt (Nat.lt_succ_self _)
  refine ⟨by rw [Ql ne,Qp],Nat.zero_le _,ne,e2,fun _=>none,(Heap.Ns1.of_empty e3).at fun o q=>Heap.get?_push_of_some _ q,fun _=>True.intro,fun y hy=>absurd rfl hy⟩

theorem attr_of {prog:Program} {w:World} {env:Env} {e:Expr} {f:Str} {pos:Pos} {s:Shared} {Q:Value→Shared→Prop} (hb:attributeBase e f env (eval e env)=eval e env)
    (h:wpAny (model prog w) A (eval e env) (fun o s₁=>wpAny (model prog w) A (getAttr o f true) Q E s₁) E s):wpAny (model prog w) A (eval (.Attribute e f pos) env) Q E s :=
  Attribute_any_ h (by rw [arm_eval_Attribute,hb])
end

noncomputable def tFld (K:PySem.W.Frag) (ta:TE) (f:Str):TE:=fun σ H Q=>ta σ H fun x H1=>∃ a C dx fs v,x = .ref a∧H1 a=some (.ins C dx fs)∧Cls K C∧Xw K C f∧fs.lookup f=some v∧Q v H1
noncomputable def sFld (K:PySem.W.Frag) (ta tv:TE) (f:Str):TS:=fun D σ H=>tv σ H fun y H1=>ta σ H1 fun x H2=>∃ a C dx fs,x = .ref a∧H2 a=some (.ins C dx fs)∧Cls K C∧Xw K C f∧fs.length < 1000 ∧
  D.nx σ (upd H2 a (.ins C dx (putF f y fs)))
section
variable {X:Cx} {o e value:Expr} {f:Str} {pos pos' tpos:Pos} {ta tv:TE}
theorem QfZ (he:PE X e ta) (hb:attributeBase e f X.env (eval e X.env)=eval e X.env):PE X (.Attribute e f pos) (tFld X.K ta f):=by
  intro pins s σ H Q I h
  refine attr_of hb (thn (he pins s σ H _ I h) fun u s1 ⟨x,H1,I1,rx,a,C,dx,fs,v,ex,ea,c,n,l,q⟩ => ?_)
  subst ex
  obtain rfl:u=Value.ref a:=rx
  exact QhD I1 ea c n l fun u' s2 I2 ru=>⟨v,H1,I2,ru,q⟩
theorem ps_fld (ha:PE X o ta) (hv:PE X value tv) (hs:swapsWith value (some (.Attribute o f pos')) pos.line X.env=pure false):PS X (.Assign [.Attribute o f pos'] value pos) (sFld X.K ta tv f):=by
  intro pins s σ H D I h
  refine plainObj_wpAny_Assign_Attribute (thn (hv pins s σ H _ I h) fun u s1 ⟨y,H1,I1,ry,q⟩=>thn (ha pins s1 σ H1 _ I1 q) fun ov s2 ⟨x,H2,I2,rx,a,C,dx,fs,ex,ea,c,n,l,q2⟩ => ?_) hs
  subst ex
  obtain rfl:ov=Value.ref a:=rx
  exact Qhs I2 ea c n l ry fun s3 I3=>⟨σ,_,I3,q2⟩
end

section
variable {X:Cx} {pins:List (Addr×Obj)} {σ:St} {H:Hp} {s:Shared} {A:Around} {E:Value→Shared→Prop} {Q:Value→Shared→Prop} {c:Value} {b:Bool}
end
end L2

namespace L2
open PySem PySem.Spec PyProof.Rows

structure Room (k:Nat) (A:Around):Prop where
  hd:A.handled=none
  dp:A.depth + 3 * k + 5 < recursionLimit
  un:A.units + 16 * k + 200 < cLine
theorem Room.mono {j k:Nat} {A:Around} (r:Room k A) (h:j≤k):Room j A:=⟨r.hd,by have:=r.dp;omega,by have:=r.un;omega⟩
theorem Room.deeper {k:Nat} {A:Around} (r:Room (k + 1) A) (env:Env):Room k (A.deeper env) :=
  ⟨r.hd,by have:=r.dp;show A.depth + 1 + 3 * k + 5 < _;omega,by have:=r.un;show A.units + 3 + 16 * k + 200 < _;omega⟩
theorem Room.in1 {k:Nat} {A:Around} (r:Room (k + 1) A):Room k A.in1 :=
  ⟨r.hd,by have:=r.dp;show A.depth + 3 * k + 5 < _;omega,by have:=r.un;show A.units + 1 + 16 * k + 200 < _;omega⟩
theorem Qhz {A:Around} {C:Addr} {us:List Value} {kw:List (Str×Value)}:(A.under (.builtin "type.__call__" ⟨.ref C :: us,kw⟩)).depth=A.depth + 1:=by
  first | rfl | simp [Around.under,Code.weight,Code.isCreation,Code.isGuard,Code.isCaller,Code.frames,Code.isFrame,guardIds]
theorem Qhy {A:Around} {C:Addr} {us:List Value} {kw:List (Str×Value)}:(A.under (.builtin "type.__call__" ⟨.ref C :: us,kw⟩)).units=A.units + 1:=by
  first | rfl | simp [Around.under,Code.cUnits,Code.frames,Code.isFrame]
theorem Room.make {k:Nat} {A:Around} (r:Room (k + 1) A) (C:Addr) (us:List Value) (kw:List (Str×Value)):Room k (A.under (.builtin "type.__call__" ⟨.ref C :: us,kw⟩)) :=
  ⟨r.hd,by have:=r.dp;rw [Qhz];omega,by have:=r.un;rw [Qhy];omega⟩
theorem Room.depth {k:Nat} {A:Around} (r:Room k A):A.depth < recursionLimit:=by have:=r.dp;omega
theorem Room.units {k:Nat} {A:Around} (r:Room k A):A.units + 64 < cLine:=by have:=r.un;omega
noncomputable def tNil:TA:=fun _ H Q=>Q [] H
noncomputable def Qgl (ta:TE) (tr:TA):TA:=fun σ H Q=>ta σ H fun x H1=>tr σ H1 fun xs H2=>Q (x :: xs) H2
section
variable {X:Cx} {e:Expr} {es:List Expr} {te:TE} {t:TA} {pos:Pos}
theorem QbA:PA X [] tNil:=fun _ _ _ _ H Q I h=>Calls.spliced_nil ⟨[],H,I,.nil,h⟩
theorem YF (ha:PE X e te) (hr:PA X es t) (hs:starEach (e :: es) X.env=(false,eval e X.env) :: starEach es X.env:=by rfl):PA X (e :: es) (Qgl te t):=by
  intro pos pins s σ H Q I h
  rw [hs]
  show wpAny _ _ (spliced ((false,eval e X.env) :: backTo pos (starEach es X.env))) _ _ s
  refine Calls.spliced_cons (thn (ha pins s σ H _ I h) fun u s1 ⟨x,H1,I1,r1,q1⟩ => ?_)
  exact thn (hr pos pins s1 σ H1 _ I1 q1) fun us s2 ⟨xs,H2,I2,r2,q2⟩=>⟨x :: xs,H2,I2,.cons r1 r2,q2⟩

noncomputable def tTup (t:TA):TE:=fun σ H Q=>t σ H fun xs H1=>xs.length≤sizeLine∧∀ p,H1 p=none→Q (.ref p) (upd H1 p (.tup xs))
noncomputable def tLst (t:TA):TE:=fun σ H Q=>t σ H fun xs H1=>xs.length≤sizeLine∧∀ p,H1 p=none→Q (.ref p) (upd H1 p (.lst xs))
theorem pe_tup {x1} (h:PA X es t):PE X (.Tuple es x1 pos) (tTup t):=by
  intro pins s σ H Q I hq
  refine wpAny_Tuple_spliced (thn (h pos pins s σ H _ I hq) fun us s1 ⟨xs,H1,I1,r,z,q⟩=>⟨by rw [← r.length];exact z,?_⟩)
  have hf:H1 s1.heap.objs.size=none:=I1.hok.fresh (Nat.le_refl _)
  refine ⟨.ref s1.heap.objs.size,upd H1 s1.heap.objs.size (.tup xs),I1.laid (t':=s1.toks) (fun b u e=>Heap.get?_push_of_some _ e) (Nat.le_refl _) ?_,rfl,q _ hf⟩
  exact ⟨z,us,r,⟨_,Heap.get?_push_size _ rfl,rfl,.inl rfl,_,rfl⟩⟩
theorem QhV (h:PA X es t):PE X (.List es pos) (tLst t):=by
  intro pins s σ H Q I hq
  refine wpAny_List_spliced (thn (h pos pins s σ H _ I hq) fun us s1 ⟨xs,H1,I1,r,z,q⟩=>⟨by rw [← r.length];exact z,?_⟩)
  have hf:H1 s1.heap.objs.size=none:=I1.hok.fresh (Nat.le_refl _)
  refine ⟨.ref s1.heap.objs.size,upd H1 s1.heap.objs.size (.lst xs),I1.laid (t':=s1.toks) (fun b u e=>Heap.get?_push_of_some _ e) (Nat.le_refl _) ?_,rfl,q _ hf⟩
  exact ⟨z,us,0,r,Heap.get?_push_size _ rfl⟩
end

noncomputable abbrev Sp:=List V→Hp→VK→XK→Prop
noncomputable abbrev CXT:=List Env→Hp→Shared→XK→Value→Shared→Prop

structure Env0 (P:Program) (w:World) (K:PySem.W.Frag) (mg:Str→Option Value) (base:Heap) (A:Around) (outer:List Env) (s:Shared) (H:Hp):Prop where
  frames:A.frames=some outer
  mod:Mod K mg base
  bs:∀ b o,base.get? b=some o→s.heap.get? b=some o∧H b=none
  bsz:base.objs.size≤s.heap.objs.size
  funs:s.heap.FunFrames base outer
  frf:∀ b∈frs outer,H b=none
  hok:HOk P w H s.heap
  bare:AllBare s.gens
noncomputable def CE (outer:List Env) (P:Program) (w:World) (H:Hp) (s:Shared) (Q:VK) (u:Value) (s':Shared):Prop :=
  ∃ v H',s'.os=s.os∧AllBare s'.gens∧Un (frs outer) [] H H' s.heap s'.heap∧HOk P w H' s'.heap∧RelV v u∧Q v H'
noncomputable def CR (CX:CXT) (outer:List Env) (P:Program) (w:World) (H:Hp) (s:Shared) (Q:VK) (E:XK) (r:Result) (s':Shared):Prop :=
  match r with
  | .ok (.ret u)=>CE outer P w H s Q u s'
  | .ok _=>False
  | .error e=>CX outer H s E e s'
structure FnOk (P:Program) (w:World) (K:PySem.W.Frag) (mg:Str→Option Value) (base:Heap) (CX:CXT) (k:Nat) (f:Addr) (fd:FuncData) (ps:List Str) (sp:Sp):Prop where
  len:∀ vs H Q E,sp vs H Q E→vs.length=ps.length
  run:∀ (A:Around) (outer:List Env) (s:Shared) (H:Hp) (args:Args) (us:List Value) (vs:List V) (Q:VK) (E:XK),Room k A→Env0 P w K mg base A outer s H→BindsTo s fd args (ps.zip us)→Vals vs us→sp vs H Q E →
    codeAny (model P w) A (.call (.ref f) args) (CR CX outer P w H s Q E) s
theorem FnOk.mono {P:Program} {w:World} {K:PySem.W.Frag} {mg:Str→Option Value} {base:Heap} {CX:CXT} {j k:Nat} {f:Addr} {fd:FuncData} {ps:List Str} {sp:Sp} (F:FnOk P w K mg base CX j f fd ps sp) (h:j≤k) :
    FnOk P w K mg base CX k f fd ps sp:=⟨F.len,fun A outer s H args us vs Q E hr=>F.run A outer s H args us vs Q E (hr.mono h)⟩
theorem FnOk.imp {P:Program} {w:World} {K:PySem.W.Frag} {mg:Str→Option Value} {base:Heap} {CX:CXT} {k:Nat} {f:Addr} {fd:FuncData} {ps:List Str} {sp sp':Sp} (F:FnOk P w K mg base CX k f fd ps sp)
    (h:∀ vs H Q E,sp' vs H Q E→sp vs H Q E):FnOk P w K mg base CX k f fd ps sp' :=
  ⟨fun vs H Q E q=>F.len vs H Q E (h _ _ _ _ q),fun A outer s H args us vs Q E hr he hb hv hs=>F.run A outer s H args us vs Q E hr he hb hv (h _ _ _ _ hs)⟩

theorem Env0.make {P:Program} {w:World} {K:PySem.W.Frag} {mg:Str→Option Value} {base:Heap} {A:Around} {outer:List Env} {s:Shared} {H:Hp} (e:Env0 P w K mg base A outer s H) (C:Addr) (us:List Value) (kw:List (Str×Value)) :
    Env0 P w K mg base (A.under (.builtin "type.__call__" ⟨.ref C :: us,kw⟩)) outer s H:=⟨by first | exact e.frames | (simpa [Around.under,Code.envs,Code.isFrame,pushEnvs] using e.frames),e.mod,e.bs,e.bsz,e.funs,e.frf,e.hok,e.bare⟩
theorem Env0.in1 {P:Program} {w:World} {K:PySem.W.Frag} {mg:Str→Option Value} {base:Heap} {A:Around} {outer:List Env} {s:Shared} {H:Hp} (e:Env0 P w K mg base A outer s H) :
    Env0 P w K mg base A.in1 outer s H:=⟨e.frames,e.mod,e.bs,e.bsz,e.funs,e.frf,e.hok,e.bare⟩

section
variable {X:Cx} {pins:List (Addr×Obj)} {σ:St} {H:Hp} {s s':Shared}
theorem Inv.env0 (I:Inv X pins σ H s):Env0 X.prog X.w X.K X.mg X.base X.A X.stack s H :=
  ⟨I.ok.frames,I.ok.mod,I.bs,Nat.le_trans I.ok.bsz I.sz,I.stack,I.stkFree,I.hok,I.bare⟩
theorem Inv.after {Q:VK} {u:Value} (I:Inv X pins σ H s) (h:CE X.stack X.prog X.w H s Q u s'):EP X pins σ Q u s':=by
  obtain ⟨v,H',os,bare,un,hok,r,q⟩:=h
  obtain ⟨hh,g,d,t,os'⟩:=s'
  obtain rfl:os'=s.os:=os
  exact ⟨v,H',I.call (h':=hh) (g':=g) (d':=d) (t':=t) (ch:=[]) un hok bare (fun b z=>absurd z (by simp)),r,q⟩
end

noncomputable def Qjt (sp:Sp) (dvs:List V) (E:XK) (t:TA):TE:=fun σ H Q=>t σ H fun vs H1=>sp (vs++dvs) H1 Q E
noncomputable def QhL (C:Addr) (m:Str) (sp:Sp) (dvs:List V) (E:XK) (ta:TE) (t:TA):TE:=fun σ H Q=>ta σ H fun x H1=>∃ a dx fs,x = .ref a∧H1 a=some (.ins C dx fs)∧fs.lookup m=none ∧
  t σ H1 fun vs H2=>sp (x :: (vs++dvs)) H2 Q E
noncomputable def tMake (C:Addr) (sp:Sp) (dvs:List V) (E:XK) (t:TA):TE:=fun σ H Q=>t σ H fun vs H1=>∀ x dx,H1 x=none→H1 dx=none→dx≠x →
  sp (.ref x :: (vs++dvs)) (upd (upd H1 dx (.own x)) x (.ins C dx [])) (fun v H2=>v = .non∧Q (.ref x) H2) E

noncomputable def YE (K:PySem.W.Frag) (fd:FuncData) (ps:List Str) (ds:List Value):Prop :=
  ∀ (s:Shared) (us:List Value),K.In s.heap→(us++ds).length=ps.length→BindsTo s fd ⟨us,[]⟩ (ps.zip (us++ds))
theorem YE.all {K:PySem.W.Frag} {fd:FuncData} {ps:List Str} (h:∀ us:List Value,us.length=ps.length→bindArgs fd ⟨us,[]⟩=pure (ps.zip us)):YE K fd ps []:=fun s us _ hl=>by
  rw [List.append_nil] at hl ⊢
  exact .of_eq (h us hl)

noncomputable def Qcm (CX:CXT) (X:Cx) (E:XK):Prop:=∀ (pins:List (Addr×Obj)) (σ:St) (H:Hp) (s:Shared) (e:Value) (s':Shared),Inv X pins σ H s→CX X.stack H s E e s'→X.xe e s'

section
variable {X:Cx} {CX:CXT} {k:Nat} {f C:Addr} {fd:FuncData} {ps:List Str} {sp:Sp} {dvs:List V} {ds:List Value} {E:XK} {x m:Str} {p pos apos:Pos} {e o:Expr} {es:List Expr} {ta:TE} {t:TA}

theorem QhT {pins:List (Addr×Obj)} {σ:St} {H:Hp} {s:Shared} {Q:VK} {us:List Value} {vs:List V} (F:FnOk X.prog X.w X.K X.mg X.base CX k f fd ps sp) (hr:Room k X.A) (hb:YE X.K fd ps ds) (hd:Vals dvs ds) (hx:Qcm CX X E)
    (I:Inv X pins σ H s) (r:Vals vs us) (h:sp (vs++dvs) H Q E):wpAny (model X.prog X.w) X.A (call (.ref f) us) (EP X pins σ Q) X.xe s:=by
  have r2:Vals (vs++dvs) (us++ds):=r.append hd
  have hl:(us++ds).length=ps.length:=by rw [← r2.length];exact F.len _ _ _ _ h
  refine wpAny_call (codeAny_mono (F.run X.A X.stack s H ⟨us,[]⟩ (us++ds) (vs++dvs) Q E hr I.env0 (hb s us I.kIn hl) r2 h) fun r s' hq => ?_)
  cases r with
  | error e=>exact hx pins σ H s e s' I hq
  | ok fl =>
    cases fl with
    | ret u=>exact I.after hq
    | next=>exact False.elim hq
    | brk=>exact False.elim hq
    | cont=>exact False.elim hq

theorem QfL (F:FnOk X.prog X.w X.K X.mg X.base CX k f fd ps sp) (hr:Room k X.A) (hg:Gl X x) (hm:X.mg x=some (.ref f)) (hk:PySem.W.keepIn X.K (.ref f)=true) (hb:YE X.K fd ps ds) (hd:Vals dvs ds) (hx:Qcm CX X E)
    (ha:PA X (e :: es) t) (hdb:(x==("__debug__":Str))=false:=by decide) (he:starEach (e :: es) X.env=(false,eval e X.env) :: starEach es X.env:=by rfl) (hpl:(backTo pos (starEach es X.env)).any (·.1)=false:=by rfl) :
    PE X (.Call (.Name x p) (e :: es) [] pos) (Qjt sp dvs E t):=by
  intro pins s σ H Q I h
  refine wpAny_Call_Name_kw (QcE I hg hm ?_ hdb)
  refine PySem.W.callWith_K (h₀:=X.base) I.ok.mod.kin hk (thn (ha pos pins s σ H _ I h) fun us s1 ⟨vs,H1,I1,r,q⟩=>⟨I1.kIn,?_⟩) he hpl
  exact QhT F hr hb hd hx I1 r q
theorem pe_meth {pl:Sem Bool} (he:PE X o ta) (c:Cls X.K C) (hm:Meth X.K C m f) (F:FnOk X.prog X.w X.K X.mg X.base CX k f fd ps sp) (hr:Room k X.A) (hb:YE X.K fd ps ds) (hd:Vals dvs ds) (hx:Qcm CX X E) (ha:PA X (e :: es) t)
    (hst:starEach (e :: es) X.env=(false,eval e X.env) :: starEach es X.env:=by rfl) (hpl:(backTo pos (starEach es X.env)).any (·.1)=false:=by rfl)
    (ht:eval (.Call (.Attribute o m apos) (e :: es) [] pos) X.env=(do
      let ov ← eval o X.env
      standAt apos.atName
      let (f,first) ← holding [ov] (getMethod ov m pl)
      callWith pos f first (backTo pos (starEach (e :: es) X.env)) (backToKw pos (keywordEach [] X.env))):=by rfl) :
    PE X (.Call (.Attribute o m apos) (e :: es) [] pos) (QhL C m sp dvs E ta t):=by
  intro pins s σ H Q I h
  refine PySem.W.methodCall_KW (pl:=pl) (thn (he pins s σ H _ I h) fun u s1 ⟨x,H1,I1,rx,a,dx,fs,ex,ea,l,q⟩ => ?_) ht
  subst ex
  obtain rfl:u=Value.ref a:=rx
  refine QbH I1 ea c hm l ?_
  refine PySem.W.callWith_K (first:=[.ref a]) (h₀:=X.base) I.ok.mod.kin hm.kp (thn (ha pos pins s1 σ H1 _ I1 q) fun us s2 ⟨vs,H2,I2,r,q2⟩=>⟨I2.kIn,?_⟩) hst hpl
  exact QhT (us := .ref a :: us) (vs := .ref a :: vs) F hr hb hd hx I2 (.cons rfl r) q2
theorem QgJ {pl:Sem Bool} (he:PE X o ta) (c:Cls X.K C) (hm:Meth X.K C m f) (F:FnOk X.prog X.w X.K X.mg X.base CX k f fd ps sp) (hr:Room k X.A) (hb:YE X.K fd ps ds) (hd:Vals dvs ds) (hx:Qcm CX X E)
    (ht:eval (.Call (.Attribute o m apos) [] [] pos) X.env=(do
      let ov ← eval o X.env
      standAt apos.atName
      let (f,first) ← holding [ov] (getMethod ov m pl)
      callWith pos f first (backTo pos (starEach [] X.env)) (backToKw pos (keywordEach [] X.env))):=by rfl) :
    PE X (.Call (.Attribute o m apos) [] [] pos) (QhL C m sp dvs E ta tNil):=by
  intro pins s σ H Q I h
  refine PySem.W.methodCall_KW (pl:=pl) (thn (he pins s σ H _ I h) fun u s1 ⟨x,H1,I1,rx,a,dx,fs,ex,ea,l,q⟩ => ?_) ht
  subst ex
  obtain rfl:u=Value.ref a:=rx
  refine QbH I1 ea c hm l ?_
  exact PySem.W.callWith_K0 (first:=[.ref a]) I1.kIn hm.kp (QhT (us:=[.ref a]) (vs:=[.ref a]) F hr hb hd hx I1 (.cons rfl .nil) q)

structure Mk (K:PySem.W.Frag) (C f:Addr):Prop where
  makes:PySem.W.makesIn K C=true
  init:PySem.W.findIn K (.ref C) "__init__"=some (some (.ref f))
  fn:PySem.W.isFn K (.ref f)=true
  kp:PySem.W.keepIn K (.ref C)=true

theorem run_make {pins:List (Addr×Obj)} {σ:St} {H:Hp} {s:Shared} {Q:VK} {us:List Value} {vs:List V} (M:Mk X.K C f) (F:FnOk X.prog X.w X.K X.mg X.base CX k f fd ps sp) (hr:Room (k + 1) X.A) (hb:YE X.K fd ps ds) (hd:Vals dvs ds)
    (hx:Qcm CX X E) (I:Inv X pins σ H s) (r:Vals vs us)
    (h:∀ x dx,H x=none→H dx=none→dx≠x→sp (.ref x :: (vs++dvs)) (upd (upd H dx (.own x)) x (.ins C dx [])) (fun v H2=>v = .non∧Q (.ref x) H2) E) :
    wpAny (model X.prog X.w) X.A (call (.ref C) us) (EP X pins σ Q) X.xe s:=by
  have hq:=h (s.heap.objs.size + 1) s.heap.objs.size (I.hok.fresh (Nat.le_succ _)) (I.hok.fresh (Nat.le_refl _)) (Nat.ne_of_lt (Nat.lt_succ_self _))
  have I2:=Inv.made (C:=C) I
  have r2:Vals (V.ref (s.heap.objs.size + 1) :: (vs++dvs)) (Value.ref (s.heap.objs.size + 1) :: (us++ds)) := .cons rfl (r.append hd)
  have hl:(Value.ref (s.heap.objs.size + 1) :: us++ds).length=ps.length:=by
    have e:=r2.length
    rw [F.len _ _ _ _ hq] at e
    exact e.symm
  refine wpAny_call (make_map (f:=f) I.kIn M.makes M.init (beq_iff_eq.mp M.fn) (codeAny_mono (F.run _ X.stack _ _ ⟨Value.ref (s.heap.objs.size + 1) :: us,[]⟩ (Value.ref (s.heap.objs.size + 1) :: (us++ds)) _ _ E (hr.make C us [])
    (I2.env0.make C us []) (hb _ (Value.ref (s.heap.objs.size + 1) :: us) I2.kIn hl) r2 hq) fun r s' hq' => ?_))
  cases r with
  | error e=>exact hx pins σ _ _ e s' I2 hq'
  | ok fl =>
    cases fl with
    | ret u =>
      obtain ⟨v,H',I3,rv,ev,q3⟩:=I2.after hq'
      subst ev
      exact ⟨rv,⟨V.ref (s.heap.objs.size + 1),H',I3,rfl,q3⟩⟩
    | next=>exact False.elim hq'
    | brk=>exact False.elim hq'
    | cont=>exact False.elim hq'
theorem Qin (M:Mk X.K C f) (F:FnOk X.prog X.w X.K X.mg X.base CX k f fd ps sp) (hr:Room (k + 1) X.A) (hg:Gl X x) (hm:X.mg x=some (.ref C)) (hb:YE X.K fd ps ds) (hd:Vals dvs ds) (hx:Qcm CX X E)
    (ha:PA X (e :: es) t) (hdb:(x==("__debug__":Str))=false:=by decide) (he:starEach (e :: es) X.env=(false,eval e X.env) :: starEach es X.env:=by rfl) (hpl:(backTo pos (starEach es X.env)).any (·.1)=false:=by rfl) :
    PE X (.Call (.Name x p) (e :: es) [] pos) (tMake C sp dvs E t):=by
  intro pins s σ H Q I h
  refine wpAny_Call_Name_kw (QcE I hg hm ?_ hdb)
  refine PySem.W.callWith_K (h₀:=X.base) I.ok.mod.kin M.kp (thn (ha pos pins s σ H _ I h) fun us s1 ⟨vs,H1,I1,r,q⟩=>⟨I1.kIn,?_⟩) he hpl
  exact run_make M F hr hb hd hx I1 r q
end

section
variable {X:Cx} {CX:CXT} {k:Nat} {f C:Addr} {fd:FuncData} {ps ks:List Str} {sp:Sp} {E:XK} {x m:Str} {p pos apos kpos:Pos} {e o:Expr} {es:List Expr} {kws:List Keyword} {te ta:TE} {t tk:TA} {nm:Option Str}
variable {g:List Value→List Value→List Value} {gV:List V→List V→List V}
end

structure FnScope (N P:List Str) (sc:Scope):Prop where
  kind:sc.kind = .function
  co:sc.isCoroutine=false
  gen:sc.isGenerator=false
  nd:N.Nodup
  pre:N.take P.length=P
  par:∀ x∈P,sc.names.lookup x=some .local∨sc.names.lookup x=some .cell
  nofree:∀ y∈sc.names,y.2 ≠ .free

theorem Qfl {kindOf:Str→Option NameKind} {x:Str}:∀ {binds:List (Str×Value)} {m:Str→Option Value},(∀ v,(x,v)∉binds)→bindL kindOf binds m x=m x
  | [],_,_=>rfl
  | (n,v) :: r,m,h=>by
    unfold bindL
    rw [Qfl fun w hw=>h w (List.mem_cons_of_mem _ hw)]
    split
    · have:x≠n:=by rintro rfl;exact h v List.mem_cons_self
      simp [this]
    · rfl
theorem Qfn {kindOf:Str→Option NameKind} {x:Str}:∀ {binds:List (Str×Value)} {m:Str→Option Value},(∀ v,(x,v)∉binds)→bindC kindOf binds m x=m x
  | [],_,_=>rfl
  | (n,v) :: r,m,h=>by
    unfold bindC
    rw [Qfn fun w hw=>h w (List.mem_cons_of_mem _ hw)]
    split
    · rfl
    · have:x≠n:=by rintro rfl;exact h v List.mem_cons_self
      simp [this]
theorem Qfm {kindOf:Str→Option NameKind} {x:Str} {v:Value}:∀ {P:List Str} {vs:List Value} {i:Nat} {m:Str→Option Value},P.Nodup→P[i]?=some x→vs[i]?=some v→kindOf x=some .local →
    bindL kindOf (P.zip vs) m x=some v
  | [],_,_,_,_,h,_,_=>by simp at h
  | _ :: _,[],_,_,_,_,h,_=>by simp at h
  | p :: P,w :: vs,0,m,nd,h1,h2,hk=>by
    simp at h1 h2;subst h1;subst h2
    show bindL kindOf ((p,w) :: P.zip vs) m p=_
    unfold bindL
    rw [Qfl fun v hv=>(List.nodup_cons.mp nd).1 (List.of_mem_zip hv).1,if_pos hk]
    simp
  | p :: P,w :: vs,i + 1,m,nd,h1,h2,hk=>by
    show bindL kindOf ((p,w) :: P.zip vs) m x=_
    unfold bindL
    exact Qfm (i:=i) (List.nodup_cons.mp nd).2 (by simpa using h1) (by simpa using h2) hk
theorem Qfo {kindOf:Str→Option NameKind} {x:Str} {v:Value}:∀ {P:List Str} {vs:List Value} {i:Nat} {m:Str→Option Value},P.Nodup→P[i]?=some x→vs[i]?=some v→kindOf x≠some .local →
    bindC kindOf (P.zip vs) m x=some v
  | [],_,_,_,_,h,_,_=>by simp at h
  | _ :: _,[],_,_,_,_,h,_=>by simp at h
  | p :: P,w :: vs,0,m,nd,h1,h2,hk=>by
    simp at h1 h2;subst h1;subst h2
    show bindC kindOf ((p,w) :: P.zip vs) m p=_
    unfold bindC
    rw [Qfn fun v hv=>(List.nodup_cons.mp nd).1 (List.of_mem_zip hv).1,if_neg hk]
    simp
  | p :: P,w :: vs,i + 1,m,nd,h1,h2,hk=>by
    show bindC kindOf ((p,w) :: P.zip vs) m x=_
    unfold bindC
    exact Qfo (i:=i) (List.nodup_cons.mp nd).2 (by simpa using h1) (by simpa using h2) hk

noncomputable def XL (N:List Str) (vs:List V):St:=vs.map some++List.replicate (N.length - vs.length) none

noncomputable def cxOf (CX:CXT) (P:Program) (w:World) (K:PySem.W.Frag) (mg:Str→Option Value) (base:Heap) (N:List Str) (qual:Str) (scope:Scope) (f:Addr) (cd:Value) (A:Around) (outer:List Env) (s:Shared) (H:Hp) (E:XK):Cx where
  prog:=P
  w:=w
  K:=K
  mg:=mg
  base:=base
  A:=A.deeper (envOfC qual scope s.heap.objs.size f cd)
  N:=N
  s₀:=s
  H₀:=H
  env:=envOfC qual scope s.heap.objs.size f cd
  outer:=outer
  stack:=envOfC qual scope s.heap.objs.size f cd :: outer
  ex:=[]
  calm:=true
  fn:=fun _=>true
  pn:=[]
  xe:=fun e s'=>wpAny (model P w) (A.deeper (envOfC qual scope s.heap.objs.size f cd)) (leaving (envOfC qual scope s.heap.objs.size f cd) e) (fun _ s''=>CX outer H s E e s'') (fun e' s''=>CX outer H s E e' s'') s'

theorem Qhg {sc:Scope} {n:Nat} {x:Str} (h:sc.names.lookup x=some .cell):∃ c,(cellsFrom n sc.names []).lookup x=some c:=by
  have q:=PySem.W.cellsFrom_some sc.names n [] (.inl h)
  exact Option.isSome_iff_exists.mp q

theorem QiW {CX:CXT} {P:Program} {w:World} {K:PySem.W.Frag} {mg:Str→Option Value} {base:Heap} {N ps:List Str} {qual:Str} {scope:Scope} {f:Addr} {cd:Value} {A:Around} {outer:List Env} {s s1:Shared} {H:Hp} {E:XK} {us:List Value} {vs:List V}
    (S:FnScope N ps scope) (hd:A.handled=none) (e0:Env0 P w K mg base A outer s H) (hl:vs.length=ps.length) (r:Vals vs us)
    (x:InCallC s s.heap.objs.size (bindL (envOfC qual scope s.heap.objs.size f cd).kindOf (ps.zip us) fun _=>none) (cellsFrom (s.heap.objs.size + 1) scope.names []) (bindC (envOfC qual scope s.heap.objs.size f cd).kindOf (ps.zip us) fun _=>none) s1) :
    Inv (cxOf CX P w K mg base N qual scope f cd A outer s H E) [] (XL N vs) H s1:=by
  have hpl:ps.length≤N.length:=by have:=congrArg List.length S.pre;rw [List.length_take] at this;omega
  obtain ⟨h1,tk,rfl,hk⟩:=x.done
  have noA:∀ b:Addr,b∉(cxOf CX P w K mg base N qual scope f cd A outer s H E).ex:=fun b z=>absurd (show b∈([]:List Addr) from z) (by simp)
  refine ⟨⟨e0.mod,S.kind,rfl,rfl,Nat.le_refl _,fun y z c h1 h2 => ?_,fun y hy => ?_,fun y c _ h => ?_,fun _=>hd,Around.frames_deeper e0.frames,.inr ⟨rfl,rfl⟩,fun b z=>absurd z (noA b),e0.bs,e0.bsz,fun b _ _=>noA b,fun b z=>absurd z (noA b),e0.funs,e0.frf⟩,
    rfl,e0.bare,Un.kept hk,⟨_,x.toInCall.ns,fun i y v h1 h2 h3 => ?_⟩,fun y c h=>⟨_,x.cell y c h⟩,e0.hok.fresh (Nat.le_refl _),fun y c h => ?_,fun p hp=>absurd (show p∈([]:List (Addr×Obj)) from hp) (by simp),e0.hok.kept hk,?_⟩
  · exact name_of_addr x.apart (PySem.mem_of_lookup h1) (PySem.mem_of_lookup h2)
  · have hy:scope.names.lookup y=some .cell∨scope.names.lookup y=some .free:=hy
    rcases hy with hy | hy
    · exact Qhg hy
    · exact absurd rfl (S.nofree _ (PySem.mem_of_lookup hy))
  · exact Nat.le_of_lt (x.above y c (PySem.mem_of_lookup h))
  · have hi:i < vs.length:=by
      unfold XL at h2
      by_cases hi:i < vs.length
      · exact hi
      · rw [List.getElem?_append_right (by simpa using hi)] at h2
        rw [List.getElem?_replicate] at h2
        split at h2 <;> cases h2
    have ha:vs[i]?=some v:=by
      unfold XL at h2
      rw [List.getElem?_append_left (by simpa using hi),List.getElem?_map] at h2
      cases e:vs[i]? with
      | none=>rw [e] at h2;cases h2
      | some a=>rw [e] at h2;cases h2;rfl
    obtain ⟨u,hu,rv⟩:=r.get ha
    have hp:ps[i]?=some y:=by
      rw [← S.pre,List.getElem?_take_of_lt (by omega)];exact h1
    have ndP:ps.Nodup:=by rw [← S.pre];exact S.nd.sublist (List.take_sublist _ _)
    refine ⟨u,rv,?_⟩
    rcases S.par y (List.mem_of_getElem? hp) with k | k
    · exact .inl ⟨k,Qfm ndP hp hu k⟩
    · obtain ⟨c,e⟩:=Qhg (n:=s.heap.objs.size + 1) k
      refine .inr ⟨.inl k,c,e,?_⟩
      have q:=x.cell y c e
      rw [Qfo ndP hp hu (by show scope.names.lookup y≠_;rw [k];decide)] at q
      exact q
  · exact e0.hok.fresh (Nat.le_of_lt (x.above y c (PySem.mem_of_lookup h)))
  · unfold XL
    show _=N.length
    rw [List.length_append,List.length_map,List.length_replicate]
    omega

theorem fn_of {CX:CXT} {P:Program} {w:World} {K:PySem.W.Frag} {mg:Str→Option Value} {base:Heap} {k:Nat} {f:Addr} {name qual:Str} {params:Arguments} {body:List Stmt} {scope:Scope} {dV kV doc pm cdv ct oc:Value} {an od:Option Addr}
    {osl:Array (Option Value)} {N ps:List Str} {sp:Sp} (lk:K.lookup f=some ⟨oc,od,.func (PySem.W.fnOf name qual params body scope dV kV doc pm an cdv ct),osl⟩) (hcd:PySem.W.codeIn K cdv qual=true) (S:FnScope N ps scope)
    (len:∀ vs H Q E,sp vs H Q E→vs.length=ps.length)
    (hbody:∀ (A:Around) (outer:List Env) (s:Shared) (H:Hp) (vs:List V) (Q:VK) (E:XK),Room k (A.deeper (envOfC qual scope s.heap.objs.size f cdv))→sp vs H Q E →
      ∃ t,PSs (cxOf CX P w K mg base N qual scope f cdv A outer s H E) body t∧t { nx:=fun _ H'=>Q .non H',rt:=Q } (XL N vs) H) :
    FnOk P w K mg base CX (k + 1) f (PySem.W.fnOf name qual params body scope dV kV doc pm an cdv ct) ps sp:=by
  refine ⟨len,fun A outer s H args us vs Q E hr e0 hb r hsp => ?_⟩
  have hl:=len _ _ _ _ hsp
  have KX:K.In s.heap:=e0.mod.kin.keeps fun b o e=>(e0.bs b o e).1
  have lim:s.heap.NoLimit:=e0.mod.nolimit.keeps fun b o e=>(e0.bs b o e).1
  have hkind:∀ y∈ps.zip us,scope.names.lookup y.1=some .local∨(scope.names.lookup y.1=some .cell∧((cellsFrom (s.heap.objs.size + 1) scope.names []).lookup y.1).isSome=true):=fun ⟨n,v⟩ hy=>by
    rcases S.par n (List.of_mem_zip hy).1 with q | q
    · exact .inl q
    · exact .inr ⟨q,PySem.W.cellsFrom_some _ _ _ (.inl q)⟩
  refine codeAny_call_function hr.depth (KX _ _ lk) rfl S.co S.gen rfl (PySem.W.codeRec_of KX hcd) (hb _ _ _ _ ?_)
  refine wpAny_newFunctionEnv_cells S.kind hkind fun env he s1 x => ?_
  subst he
  refine ⟨lim.keeps x.toInCall.keep,codeAny_func ?_⟩
  obtain ⟨t,ht,hq⟩:=hbody A outer s H vs Q E (hr.deeper _) hsp
  have I:Inv (cxOf CX P w K mg base N qual scope f cdv A outer s H E) [] (XL N vs) H s1:=QiW S hr.hd e0 hl r x
  refine wpAny_mono (ht [] s1 (XL N vs) H _ I hq) (fun fl s' hs => ?_) fun e s' hs=>hs
  have fin:∀ {σ':St} {H':Hp} {v:V} {u:Value},Inv (cxOf CX P w K mg base N qual scope f cdv A outer s H E) [] σ' H' s'→RelV v u→Q v H'→CE outer P w H s Q u s' :=
    fun {σ' H' v u} J rv q=>⟨v,H',J.os,J.bare,J.base,J.hok,rv,q⟩
  cases fl with
  | ret u =>
    obtain ⟨v,σ',H',J,rv,q⟩:=hs
    exact fin J rv q
  | next =>
    obtain ⟨σ',H',J,q⟩:=hs
    exact fin (v:=V.non) (u:=Value.none) J rfl q
  | brk =>
    obtain ⟨_,_,_,q⟩:=hs
    exact False.elim q
  | cont =>
    obtain ⟨_,_,_,q⟩:=hs
    exact False.elim q
end L2

namespace L2
open PySem PySem.Spec PyProof.Rows
section
variable {X:Cx} {x:Str} {p pos:Pos} {e:Expr} {es:List Expr} {t:TA} {id T:String} {r:List V→Hp→VK→Prop}

noncomputable def tCB (r:List V→Hp→VK→Prop) (t:TA):TE:=fun σ H Q=>t σ H fun vs H1=>r vs H1 Q
theorem Qcr (hc:Qaa X (.builtin id) r) (hg:Gl X x) (hm:X.mg x=none) (hv:bootBuiltins x=some (.builtin id)) (ha:PA X (e :: es) t) (hn:x ≠ "__name__":=by decide) (hdb:(x==("__debug__":Str))=false:=by decide)
    (he:starEach (e :: es) X.env=(false,eval e X.env) :: starEach es X.env:=by rfl) (hpl:(backTo pos (starEach es X.env)).any (·.1)=false:=by rfl):PE X (.Call (.Name x p) (e :: es) [] pos) (tCB r t):=by
  intro pins s σ H Q I h
  refine wpAny_Call_Name_kw (QeR I hg hm hv ?_ hn hdb)
  exact PyProof.Rows.callWith_builtin1 (thn (ha pos pins s σ H _ I h) fun us s1 ⟨vs,H1,I1,r1,q1⟩=>hc pins s1 σ H1 vs us Q I1 r1 q1) he hpl
theorem QcQ (hc:Qaa X (.type T) r) (hg:Gl X x) (hm:X.mg x=none) (hv:bootBuiltins x=some (.type T)) (ha:PA X (e :: es) t) (hn:x ≠ "__name__":=by decide) (hdb:(x==("__debug__":Str))=false:=by decide)
    (he:starEach (e :: es) X.env=(false,eval e X.env) :: starEach es X.env:=by rfl) (hpl:(backTo pos (starEach es X.env)).any (·.1)=false:=by rfl):PE X (.Call (.Name x p) (e :: es) [] pos) (tCB r t):=by
  intro pins s σ H Q I h
  refine wpAny_Call_Name_kw (QeR I hg hm hv ?_ hn hdb)
  exact PyProof.Rows.callWith_type1 (thn (ha pos pins s σ H _ I h) fun us s1 ⟨vs,H1,I1,r1,q1⟩=>hc pins s1 σ H1 vs us Q I1 r1 q1) he hpl
end
end L2

namespace HT
open PySem PyProof.Rows

section
open PySem.SeqAt
open PySem.AutoSeq1 (wpAny_loadPart')
open PySem.MeetsSeq PySem.MeetsSeq2 PySem.MeetsSeq3

end

section
variable {prog:Program} {w:World} {A:Around} {E:Value→Shared→Prop} {s:Shared}

noncomputable def sIx (n d:Nat):Option Int→Nat
  | none=>d
  | some v=>if v < 0 then (v + (n:Int)).toNat else min v.toNat n
end
end HT

namespace L2
open PySem PySem.Spec PyProof.Rows

noncomputable abbrev TO:=St→Hp→(Option Int→Hp→Prop)→Prop
noncomputable def PO (X:Cx) (e:Option Expr) (t:TO):Prop :=
  ∀ (pins:List (Addr×Obj)) (s:Shared) (σ:St) (H:Hp) (Q:Option Int→Hp→Prop),Inv X pins σ H s→t σ H Q →
    wpAny (model X.prog X.w) X.A (evalPart e X.env) (fun u s'=>∃ o H',Inv X pins σ H' s'∧IsPart u o∧Q o H') X.xe s
noncomputable def tPart (t:TE):TO:=fun σ H Q=>t σ H fun x H1=>∃ i,x = .int i∧Q (some i) H1

theorem QhC {ns:List Int}:∀ {us:List Value},Vals (ns.map V.int) us→IntsAre us ns:=by
  induction ns with
  | nil=>intro us r;rw [List.map_nil] at r;cases r;exact .nil
  | cons n ns ih =>
    intro us r
    rw [List.map_cons] at r
    cases r with
    | cons r1 r2 =>
      obtain ⟨t,e⟩:=r1
      subst e
      exact .cons n t (ih r2)

section
variable {X:Cx} {e:Expr} {te:TE} {lo hi:Option Expr} {tl th:TO} {pos p2:Pos}

theorem po_some (h:PE X e te):PO X (some e) (tPart te):=by
  intro pins s σ H Q I hw
  rw [evalPart_some]
  refine thn (h pins s σ H _ I hw) fun u s1 ⟨x,H1,I1,r1,q1⟩ => ?_
  obtain ⟨i,rfl,q⟩:=q1
  obtain ⟨t,rfl⟩:=r1
  exact ⟨some i,H1,I1,.int i t,q⟩

noncomputable def SlR (X:Cx) (r:V→Option Int→Option Int→Hp→VK→Prop):Prop :=
  ∀ (pins:List (Addr×Obj)) (s:Shared) (σ:St) (H:Hp) (x:V) (v vl vu:Value) (lo hi:Option Int) (sl:Addr) (Q:VK),Inv X pins σ H s→RelV x v→s.heap.IsSliceOf sl vl vu .none→IsPart vl lo→IsPart vu hi→r x lo hi H Q →
    ∃ T id,typeLookup (.type T) "__getitem__"=pure (some (.builtin id))∧s.TypeIs v T∧wpAny (model X.prog X.w) X.A (getItem v (.ref sl)) (EP X pins σ Q) X.xe s
theorem SlR.or {r r':V→Option Int→Option Int→Hp→VK→Prop} (h:SlR X r) (h':SlR X r'):SlR X (fun x lo hi H Q=>r x lo hi H Q∨r' x lo hi H Q):=by
  intro pins s σ H x v vl vu lo hi sl Q I rx hs pl pu q
  rcases q with q | q
  · exact h pins s σ H x v vl vu lo hi sl Q I rx hs pl pu q
  · exact h' pins s σ H x v vl vu lo hi sl Q I rx hs pl pu q
noncomputable def tSl (r:V→Option Int→Option Int→Hp→VK→Prop) (te:TE) (tl th:TO):TE:=fun σ H Q=>te σ H fun x H1=>tl σ H1 fun l H2=>th σ H2 fun u H3=>r x l u H3 Q
theorem pe_slice {r:V→Option Int→Option Int→Hp→VK→Prop} (hr:SlR X r) (he:PE X e te) (hl:PO X lo tl) (hu:PO X hi th):PE X (.Subscript e (.Slice lo hi none p2) pos) (tSl r te tl th):=by
  intro pins s σ H Q I h
  refine Subscript_ (thn (he pins s σ H _ I h) fun v s1 ⟨x,H1,I1,r1,q1⟩ => ?_)
  refine wpAny_Slice (thn (hl pins s1 σ H1 _ I1 q1) fun vl s2 ⟨l,H2,I2,pl,q2⟩=>thn (hu pins s2 σ H2 _ I2 q2) fun vu s3 ⟨u,H3,I3,pu,q3⟩ => ?_)
  rw [evalPart_none]
  refine wpAny_pure ?_
  have I4:Inv X pins σ H3 { s3 with heap:=s3.heap.push { cls := .type "slice",data := .fields #[vl,vu,.none] } }:=I3.kept (t':=s3.toks) fun b ob q=>Heap.get?_push_of_some _ q
  obtain ⟨T,id,hT,ht,hg⟩:=hr pins { s3 with heap:=s3.heap.push { cls := .type "slice",data := .fields #[vl,vu,.none] } } σ H3 x v vl vu l u s3.heap.objs.size Q I4 r1 (Heap.IsSliceOf.new ..) pl pu q3
  show wpAny (model X.prog X.w) X.A (subscriptTail e (.Slice lo hi none p2) v (.ref s3.heap.objs.size)) (EP X pins σ Q) X.xe { s3 with heap:=s3.heap.push { cls := .type "slice",data := .fields #[vl,vu,.none] } }
  exact tail_any (ops:=[.ref s3.heap.objs.size,v]) ht hT hg (by with_unfolding_all rfl)

noncomputable def cutV (xs:List V) (lo hi:Option Int):List V:=(xs.drop (HT.sIx xs.length 0 lo)).take (HT.sIx xs.length xs.length hi - HT.sIx xs.length 0 lo)
theorem Qgz (xs:List V) (lo hi:Option Int):(cutV xs lo hi).length≤xs.length:=by
  unfold cutV
  rw [List.length_take,List.length_drop]
  omega
end
end L2

namespace L2
open PySem PySem.Spec PyProof.Rows

noncomputable def ixN (n:Nat) (i:Int):Option Nat:=if 0≤i then (if i < n then some i.toNat else none) else if -(n:Int)≤i then some (i + n).toNat else none
noncomputable def atI {α:Type} (xs:List α) (i:Int):Option α:=(ixN xs.length i).bind fun j=>xs[j]?
theorem ixN_seq {n:Nat} {i:Int} {j:Nat} (h:ixN n i=some j):seqIndex? i n=some j∧j < n ∧ -(n:Int)≤i∧i < n:=by
  unfold ixN at h
  by_cases h0:0≤i
  · rw [if_pos h0] at h
    by_cases h1:i < n
    · rw [if_pos h1] at h
      have e:i.toNat=j:=Option.some.inj h
      exact ⟨by rw [seqIndex_of h0 h1,e],by omega,by omega,h1⟩
    · rw [if_neg h1] at h;cases h
  · rw [if_neg h0] at h
    by_cases h1 : -(n:Int)≤i
    · rw [if_pos h1] at h
      have e:(i + n).toNat=j:=Option.some.inj h
      exact ⟨by rw [seqIndex_neg (by omega) h1,e],by omega,h1,by omega⟩
    · rw [if_neg h1] at h;cases h
theorem QfU {α:Type} {xs:List α} {i:Int} {v:α} (h:atI xs i=some v):∃ j,seqIndex? i xs.length=some j∧xs[j]?=some v∧j < xs.length ∧ -(xs.length:Int)≤i∧i < xs.length:=by
  unfold atI at h
  cases e:ixN xs.length i with
  | none=>rw [e] at h;cases h
  | some j =>
    rw [e] at h
    obtain ⟨h1,h2,h3,h4⟩:=ixN_seq e
    exact ⟨j,h1,h,h2,h3,h4⟩
theorem atI_nat {α:Type} {xs:List α} {j:Nat} {v:α} (h:xs[j]?=some v):atI xs (j:Int)=some v:=by
  have hj:j < xs.length:=(List.getElem?_eq_some_iff.mp h).1
  have e:ixN xs.length (j:Int)=some j:=by
    unfold ixN
    rw [if_pos (by omega),if_pos (by omega)];simp
  unfold atI;rw [e];exact h
theorem atI_last {α:Type} (xs:List α) (v:α):atI (xs++[v]) (-1)=some v:=by
  have hl:(xs++[v]).length=xs.length + 1:=by simp
  have e:ixN (xs++[v]).length (-1)=some xs.length:=by
    unfold ixN
    rw [hl,if_neg (by decide),if_pos (by omega)]
    congr 1
    omega
  unfold atI
  rw [e]
  show (xs++[v])[xs.length]?=some v
  simp

noncomputable def QiG (b:Expr):Prop:=∀ o i,subscripted b false o i=operate [o,i] (getItem o i)
noncomputable def IxR (X:Cx) (r:R2):Prop :=
  ∀ (value slice:Expr) (pins:List (Addr×Obj)) (s:Shared) (σ:St) (H:Hp) (x y:V) (v u:Value) (Q:VK),Inv X pins σ H s→RelV x v→RelV y u→r x y H Q →
    subscripted slice false v u=operate [v,u] (getItem v u)→wpAny (model X.prog X.w) X.A (subscriptTail value slice v u) (EP X pins σ Q) X.xe s
noncomputable def MtR (X:Cx) (id:String) (r:V→List V→Hp→VK→Prop):Prop :=
  ∀ (pins:List (Addr×Obj)) (s:Shared) (σ:St) (H:Hp) (x:V) (xs:List V) (v:Value) (us:List Value) (Q:VK),Inv X pins σ H s→RelV x v→Vals xs us→r x xs H Q →
    wpAny (model X.prog X.w) X.A (call (.builtin id) (v :: us)) (EP X pins σ Q) X.xe s
section
variable {X:Cx} {a b:Expr} {ta tb:TE} {pos:Pos}
theorem IxR.or {r r':R2} (h:IxR X r) (h':IxR X r'):IxR X (fun x y H Q=>r x y H Q∨r' x y H Q):=by
  intro value slice pins s σ H x y v u Q I rx ry q hs
  rcases q with q | q
  · exact h value slice pins s σ H x y v u Q I rx ry q hs
  · exact h' value slice pins s σ H x y v u Q I rx ry q hs
theorem MtR.or {id:String} {r r':V→List V→Hp→VK→Prop} (h:MtR X id r) (h':MtR X id r'):MtR X id (fun x xs H Q=>r x xs H Q∨r' x xs H Q):=by
  intro pins s σ H x xs v us Q I rx rs q
  rcases q with q | q
  · exact h pins s σ H x xs v us Q I rx rs q
  · exact h' pins s σ H x xs v us Q I rx rs q
theorem pe_ix {r:R2} (hr:IxR X r) (ha:PE X a ta) (hb:PE X b tb) (hs:QiG b):PE X (.Subscript a b pos) (tOp r ta tb):=by
  intro pins s σ H Q I h
  exact Subscript_ (binT ha hb I h fun v u s2 x y H2 I2 rx ry q=>hr a b pins s2 σ H2 x y v u Q I2 rx ry q (hs _ _))

noncomputable def rIxL (K:PySem.W.Frag):R2:=fun x y H Q=>∃ p xs i v,x = .ref p∧y = .int i∧SqL K H p xs∧atI xs i=some v∧Q v H
noncomputable def rIxT (K:PySem.W.Frag):R2:=fun x y H Q=>∃ p xs i v,x = .ref p∧y = .int i∧SqT K H p xs∧atI xs i=some v∧Q v H
noncomputable def rIxS:R2:=fun x y H Q=>∃ z i c,x = .str z∧y = .int i∧z.length≤sizeLine∧atI z.cps.toList i=some c∧Q (.str ⟨#[c]⟩) H
theorem ix_list:IxR X (rIxL X.K):=by
  intro value slice pins s σ H x y v u Q I rx ry h hs
  obtain ⟨p,xs,i,z,rfl,rfl,hq,he,q⟩:=h
  cases rx
  obtain ⟨t,rfl⟩:=ry
  obtain ⟨its,r,pl,hz⟩:=I.list hq
  obtain ⟨j,h1,h2,h3,h4,h5⟩:=QfU he
  obtain ⟨w,ew,rw'⟩:=r.get h2
  have hl:=r.length
  have hn:=QdC
  have fin:EP X pins σ Q w s:=⟨z,H,I,rw',q⟩
  by_cases h0:0≤i
  · have hj:i.toNat=j:=by
      rw [seqIndex_of h0 h5] at h1
      exact Option.some.inj h1
    exact item_listR pl.isList h0 (by omega) (by rw [hj];simpa using ew) fin hs
  · have hj:(i + (its.toArray.size:Int)).toNat=j:=by
      rw [seqIndex_neg (by omega) h4] at h1
      rw [List.size_toArray,← hl]
      exact Option.some.inj h1
    exact subscriptTail_builtinR (x:=w) pl.isList.typeIs slot_list_getitem.lookup
      (wpAny_getItem_list_neg (Q:=fun r s'=>r=w∧EP X pins σ Q r s') pl.isList (by omega) (by rw [List.size_toArray] <;> omega) (by omega) (by rw [hj];simpa using ew) ⟨rfl,fin⟩) hs
theorem ix_tup:IxR X (rIxT X.K):=by
  intro value slice pins s σ H x y v u Q I rx ry h hs
  obtain ⟨p,xs,i,z,rfl,rfl,hq,he,q⟩:=h
  cases rx
  obtain ⟨t,rfl⟩:=ry
  obtain ⟨its,r,pl,hz⟩:=I.tuple hq
  obtain ⟨j,h1,h2,h3,h4,h5⟩:=QfU he
  obtain ⟨w,ew,rw'⟩:=r.get h2
  have hl:=r.length
  have hn:=QdC
  have fin:EP X pins σ Q w s:=⟨z,H,I,rw',q⟩
  exact subscriptTail_builtinR (x:=w) pl.typeIs slot_tuple_getitem.lookup
    (getItem_tuple (j:=j) (Q:=fun r s'=>r=w∧EP X pins σ Q r s') pl (by omega) (by omega) (by rw [List.size_toArray,← hl];exact h1) (by simpa using ew) ⟨rfl,fin⟩) hs
theorem ix_str:IxR X rIxS:=by
  intro value slice pins s σ H x y v u Q I rx ry h hs
  obtain ⟨z,i,c,rfl,rfl,hz,he,q⟩:=h
  obtain ⟨t,rfl⟩:=rx
  obtain ⟨t',rfl⟩:=ry
  obtain ⟨j,h1,h2,h3,h4,h5⟩:=QfU he
  have hl:z.cps.toList.length=z.length:=by simp [Str.length]
  rw [hl] at h1 h4 h5
  have hn:=QdC
  exact tail_any (typeIs_str s z t) slot_str_getitem.lookup (getItem_str (c:=c) (by
    have e1:decide (i < -(2 ^ 63:Int))=false:=decide_eq_false (by omega)
    have e2:decide (i ≥ 2 ^ 63)=false:=decide_eq_false (by omega)
    rw [e1,e2,Bool.or_false]) (by rw [h1];simpa using h2) ⟨.str ⟨#[c]⟩,H,I.tok _,⟨_,rfl⟩,q⟩) hs
theorem Inv.lst {pins:List (Addr×Obj)} {σ:St} {H:Hp} {s:Shared} {p:Addr} {xs:List V} (I:Inv X pins σ H s) (h:H p=some (.lst xs)) :
    ∃ (its:List Value) (n:Nat),Vals xs its∧s.heap.get? p=some { cls := .type "list",data := .seq its.toArray n }∧xs.length≤sizeLine:=by
  obtain ⟨z,its,n,r,e⟩:=I.hok p _ h
  exact ⟨its,n,r,e,z⟩
theorem Qfx (lo hi:Option Int) (n:Nat):(sliceBounds lo hi none n).1=((HT.sIx n 0 lo:Nat):Int)∧(sliceBounds lo hi none n).2.1=((HT.sIx n n hi:Nat):Int)∧(sliceBounds lo hi none n).2.2=1:=by
  refine ⟨?_,?_,rfl⟩
  · cases lo with
    | none=>simp [sliceBounds,HT.sIx]
    | some i =>
      simp only [sliceBounds,HT.sIx,Option.getD_none,show (1:Int) > 0 by decide,if_true]
      by_cases h:i < 0
      · simp only [h,if_true] <;> omega
      · simp only [h,if_false] <;> omega
  · cases hi with
    | none=>simp [sliceBounds,HT.sIx]
    | some i =>
      simp only [sliceBounds,HT.sIx,Option.getD_none,show (1:Int) > 0 by decide,if_true]
      by_cases h:i < 0
      · simp only [h,if_true] <;> omega
      · simp only [h,if_false] <;> omega
theorem QeA (its:List Value) (lo hi:Option Int):slicePick its.toArray lo hi none=((its.drop (HT.sIx its.length 0 lo)).take (HT.sIx its.length its.length hi - HT.sIx its.length 0 lo)).toArray:=by
  obtain ⟨h1,h2,h3⟩:=Qfx lo hi its.toArray.size
  unfold slicePick
  rw [h1,h2,h3]
  simp only [sliceRange_one,pick_run,List.size_toArray] <;> rfl
noncomputable def rSlL (K:PySem.W.Frag):V→Option Int→Option Int→Hp→VK→Prop:=fun x lo hi H Q=>∃ a xs,x = .ref a∧SqL K H a xs∧∀ p,H p=none→Q (.ref p) (upd H p (.lst (cutV xs lo hi)))
theorem sl_list:SlR X (rSlL X.K):=by
  intro pins s σ H x v vl vu lo hi sl Q I rx hs pl pu h
  obtain ⟨a,xs,rfl,hx,q⟩:=h
  cases rx
  obtain ⟨its,r,ht,hz⟩:=I.list hx
  have hlen:=r.length
  refine ⟨"list",_,slot_list_getitem.lookup,ht.isList.typeIs,?_⟩
  refine wpAny_getItem_list_slice ht.isList hs pl pu .none (by simp) ?_ (by rw [List.size_toArray] <;> omega)
  rw [QeA,← hlen]
  refine ⟨.ref s.heap.objs.size,_,I.laid (t':=s.toks) (o := .lst (cutV xs lo hi)) (fun b ob q=>Heap.get?_push_of_some _ q) (Nat.le_refl _) ?_,rfl,q _ (I.hok.fresh (Nat.le_refl _))⟩
  exact ⟨Nat.le_trans (Qgz xs lo hi) hz,_,0,(r.drop (HT.sIx xs.length 0 lo)).take (HT.sIx xs.length xs.length hi - HT.sIx xs.length 0 lo),Heap.get?_push_size _ rfl⟩

theorem Qaa.or {f:Value} {r r':List V→Hp→VK→Prop} (h:Qaa X f r) (h':Qaa X f r'):Qaa X f (fun xs H Q=>r xs H Q∨r' xs H Q):=by
  intro pins s σ H xs us Q I rs q
  rcases q with q | q
  · exact h pins s σ H xs us Q I rs q
  · exact h' pins s σ H xs us Q I rs q
theorem QbY:Qaa X (.type "list") (fun xs H Q=>∃ p ys,xs=[.ref p]∧(SqL X.K H p ys∨SqT X.K H p ys)∧∀ l,H l=none→Q (.ref l) (upd H l (.lst ys))):=by
  intro pins s σ H xs us Q I r h
  obtain ⟨p,ys,rfl,hq,q⟩:=h
  obtain ⟨u,rfl,rx⟩:=Qev r
  cases rx
  have fin:∀ (its:List Value),Vals ys its→ys.length≤sizeLine→∀ (h':Heap) (c':Nat),(∀ b o',s.heap.get? b=some o'→h'.get? b=some o') →
      h'.get? s.heap.objs.size=some { cls := .type "list",dict:=none,data := .seq its.toArray c',slots := #[] }→EP X pins σ Q (.ref s.heap.objs.size) { s with heap:=h' }:=fun its r' hz h' c' kp e =>
    ⟨.ref s.heap.objs.size,_,I.laid (t':=s.toks) kp (Nat.le_refl _) (show Xn X.prog X.w _ h' _ (.lst ys) from ⟨hz,its,c',r',e⟩),rfl,q _ (I.hok.fresh (Nat.le_refl _))⟩
  rcases hq with hq | hq
  · obtain ⟨its,r',pl,hz⟩:=I.list hq
    have hlen:=r'.length
    obtain ⟨o,ho,hc,n,hd⟩:=pl.isList
    exact call_list_seq p (.inl rfl) ho hc hd (fun h' c' kp e=>fin its r' hz h' c' kp e) (by simp only [List.size_toArray] <;> omega)
  · obtain ⟨its,r',pl,hz⟩:=I.tuple hq
    have hlen:=r'.length
    obtain ⟨o,ho,hc,n,hd⟩:=pl
    exact call_list_seq p (.inr rfl) ho hc hd (fun h' c' kp e=>fin its r' hz h' c' kp e) (by simp only [List.size_toArray] <;> omega)
theorem QeI:Qaa X (.type "tuple") (fun xs H Q=>∃ p ys,xs=[.ref p]∧((SqL X.K H p ys∧∀ l,H l=none→Q (.ref l) (upd H l (.tup ys)))∨(SqT X.K H p ys∧Q (.ref p) H))):=by
  intro pins s σ H xs us Q I r h
  obtain ⟨p,ys,rfl,h⟩:=h
  obtain ⟨u,rfl,rx⟩:=Qev r
  cases rx
  rcases h with ⟨hq,q⟩ | ⟨hq,q⟩
  · obtain ⟨its,r',pl,hz⟩:=I.list hq
    have hlen:=r'.length
    refine call_tuple_list pl.isList (fun h' kp => ?_) (by simp only [List.size_toArray] <;> omega)
    have I1:Inv X pins σ H { s with heap:=h' }:=I.kept (t':=s.toks) kp
    have I2:Inv X pins σ (upd H h'.objs.size (.tup ys)) { s with heap:=h'.push { cls := .type "tuple",data := .seq its.toArray } } :=
      I1.laid (t':=s.toks) (fun b o e=>Heap.get?_push_of_some _ e) (Nat.le_refl _) (show Xn X.prog X.w _ _ _ (.tup ys) from ⟨hz,its,r',Qak.new _ _ _⟩)
    exact ⟨.ref h'.objs.size,_,I2,rfl,q _ (I1.hok.fresh (Nat.le_refl _))⟩
  · obtain ⟨its,r',pl,hz⟩:=I.tuple hq
    exact call_tuple_same pl ⟨.ref p,H,I,rfl,q⟩

noncomputable def tyV (K:PySem.W.Frag) (T:String) (x:V) (H:Hp):Prop:=match x with
  | .str _=>T = "str"
  | .int _=>T = "int"
  | .ref p=>(T = "list"∧∃ xs,SqL K H p xs)∨(T = "tuple"∧∃ o,K.lookup p=some o∧o.cls = .type "tuple"∧o.dict=none) ∨
      (T = "dict"∧((∃ kvs,H p=some (.dK kvs))∨∃ kvs,H p=some (.dT kvs)))∨(T = "set"∧∃ S n,H p=some (.set S n))
  | _=>False
theorem tyV_is {pins:List (Addr×Obj)} {σ:St} {H:Hp} {s:Shared} {T:String} {x:V} {v:Value} (I:Inv X pins σ H s) (r:RelV x v) (ty:tyV X.K T x H) :
    s.TypeIs v T∧∀ a,v = .ref a→∃ ob,s.heap.get? a=some ob∧ob.dict=none:=by
  cases x with
  | str z =>
    obtain ⟨t,rfl⟩:=r
    cases (show T = "str" from ty)
    exact ⟨typeIs_str s z t,fun _ e=>nomatch e⟩
  | int i =>
    obtain ⟨t,rfl⟩:=r
    cases (show T = "int" from ty)
    exact ⟨typeIs_int s i t,fun _ e=>nomatch e⟩
  | ref p =>
    cases r
    rcases ty with ⟨rfl,xs,hq⟩ | ⟨rfl,o,hk,hc,hd⟩ | ⟨rfl,hk⟩ | ⟨rfl,S,n,hk⟩
    · obtain ⟨its,_,pl,_⟩:=I.list hq
      refine ⟨pl.isList.typeIs,fun a e => ?_⟩
      cases e
      obtain ⟨o,n,e,c,hd,_⟩:=pl
      exact ⟨o,e,hd⟩
    · refine ⟨⟨o,I.kIn p o hk,hc⟩,fun a e => ?_⟩
      cases e
      exact ⟨o,I.kIn _ o hk,hd⟩
    · have z:∃ o,s.heap.get? p=some o∧o.ExactDict:=by
        rcases hk with ⟨kvs,hk⟩ | ⟨kvs,hk⟩
        · obtain ⟨_,_,_,_,o,_,_,e,ex,_⟩:=I.hok p _ hk
          exact ⟨o,e,ex⟩
        · obtain ⟨_,_,_,_,o,_,_,e,ex,_⟩:=I.hok p _ hk
          exact ⟨o,e,ex⟩
      obtain ⟨o,e,ex⟩:=z
      refine ⟨⟨o,e,ex.1⟩,fun a e2 => ?_⟩
      cases e2
      exact ⟨o,e,ex.2.1⟩
    · obtain ⟨o,_,_,_,e,ex,_⟩:=I.hok p _ hk
      refine ⟨⟨o,e,ex.1⟩,fun a e2 => ?_⟩
      cases e2
      exact ⟨o,e,ex.2.1⟩
  | _=>exact False.elim ty
noncomputable def tBM0 (K:PySem.W.Frag) (T:String) (r:V→List V→Hp→VK→Prop) (to:TE):TE:=fun σ H Q=>to σ H fun x H1=>tyV K T x H1∧r x [] H1 Q
noncomputable def tBM (K:PySem.W.Frag) (T:String) (r:V→List V→Hp→VK→Prop) (to:TE) (t:TA):TE:=fun σ H Q=>to σ H fun x H1=>tyV K T x H1∧t σ H1 fun xs H2=>r x xs H2 Q
variable {o e:Expr} {es:List Expr} {to:TE} {t:TA} {name:Str} {apos cpos:Pos} {T id:String} {r:V→List V→Hp→VK→Prop}
theorem pe_bm0 (pa:PlainAttrs T) (slot:Slot T name id) (hty:typeOf (.builtin id)=pure (.type "method_descriptor")) (hm:MtR X id r) (ho:PE X o to)
    (hbase:attributeBase o name X.env (eval o X.env)=eval o X.env:=by rfl) (hline:(apos.endLine==cpos.line)=true:=by rfl):PE X (.Call (.Attribute o name apos) [] [] cpos) (tBM0 X.K T r to):=by
  intro pins s σ H Q I h
  refine wpAny_Call_method0_late hbase hline (thn (ho pins s σ H _ I h) fun v s1 ⟨x,H1,I1,r1,ty,q1⟩ => ?_)
  obtain ⟨h1,h2⟩:=tyV_is I1 r1 ty
  exact ⟨T,id,pa,slot,hty,h1,h2,Calls.callWith_builtin rfl (PySem.evalArgs_none (hm pins s1 σ H1 x [] v [] Q I1 r1 .nil q1))⟩
theorem QaR (pa:PlainAttrs T) (slot:Slot T name id) (hty:typeOf (.builtin id)=pure (.type "method_descriptor")) (hm:MtR X id r) (ho:PE X o to) (ha:PA X (e :: es) t)
    (hbase:attributeBase o name X.env (eval o X.env)=eval o X.env:=by rfl)
    (hfew:((backTo cpos (starEach (e :: es) X.env)).all (fun x => !x.1)&&(backToKw cpos (keywordEach [] X.env)).all (fun x=>x.1.isSome)
      && decide ((e :: es).length + ([]:List Keyword).length + (if ([]:List Keyword).isEmpty then 0 else 1) < 30))=true:=by rfl)
    (hline:(apos.endLine==cpos.line)=true:=by rfl) (hs:starEach (e :: es) X.env=(false,eval e X.env) :: starEach es X.env:=by rfl) (hplain:(backTo cpos (starEach es X.env)).any (·.1)=false:=by rfl) :
    PE X (.Call (.Attribute o name apos) (e :: es) [] cpos) (tBM X.K T r to t):=by
  intro pins s σ H Q I h
  refine wpAny_Call_method_late hbase hfew hline rfl (thn (ho pins s σ H _ I h) fun v s1 ⟨x,H1,I1,r1,ty,q1⟩ => ?_)
  obtain ⟨h1,h2⟩:=tyV_is I1 r1 ty
  refine ⟨T,id,pa,slot,hty,h1,h2,?_⟩
  have hA:=ha cpos pins s1 σ H1 _ I1 q1
  rw [hs] at hA ⊢
  refine Calls.callWith_builtin (by show (false||(backTo cpos (starEach es X.env)).any (·.1))=false;rw [hplain] <;> rfl) (Calls.evalArgs_plain ?_)
  exact thn hA fun us s2 ⟨vs,H2,I2,r2,q2⟩=>hm pins s2 σ H2 x vs v us Q I2 r1 r2 q2
/- xs.append(e),list.index on a module's tuple .. are MtR facts of 06m -/
end
end L2

namespace L2
open PySem PySem.Spec PyProof.Rows

noncomputable def MtM (X:Cx) (id:String) (r:V→List V→Hp→VK→Prop):Prop :=
  ∀ (pins:List (Addr×Obj)) (s:Shared) (σ:St) (H:Hp) (x:V) (xs:List V) (v:Value) (us:List Value) (Q:VK),Inv X pins σ H s→RelV x v→Vals xs us→r x xs H Q →
    wpAny (model X.prog X.w) X.A (call (.builtin id) (v :: us)) (EP X pins σ Q) X.xe s

theorem Vals.one:∀ {x:V} {us:List Value},Vals [x] us→∃ u,us=[u]∧RelV x u
  | _,_,.cons r .nil=>⟨_,rfl,r⟩
theorem Vals.zero:∀ {us:List Value},Vals [] us→us=[]
  | _,.nil=>rfl
theorem Vals.dropLast {xs:List V} {us:List Value} (h:Vals xs us):Vals xs.dropLast us.dropLast:=by
  induction h with
  | nil=>exact .nil
  | cons r t ih =>
    cases t with
    | nil=>exact .nil
    | cons q t'=>exact .cons r ih
theorem Vals.reverse {xs:List V} {us:List Value} (h:Vals xs us):Vals xs.reverse us.reverse:=by
  induction h with
  | nil=>exact .nil
  | cons r t ih=>rw [List.reverse_cons,List.reverse_cons];exact Vals.append ih (.cons r .nil)
section
variable {X:Cx} {pins:List (Addr×Obj)} {σ:St} {H:Hp} {s:Shared} {l b:Addr} {xs ys zs:List V}

theorem Inv.lset {its its':List Value} {n:Nat} {f:Array Value→Array Value} {t':Nat} (I:Inv X pins σ H s) (hH:H l=some (.lst xs))
    (e:s.heap.get? l=some { cls := .type "list",data := .seq its.toArray n }) (hf:f its.toArray=its'.toArray) (hv:Vals ys its') (hz:ys.length≤sizeLine) :
    Inv X pins σ (upd H l (.lst ys)) { s with heap:=s.heap.update l (Obj.mapSeq f),toks:=t' }:=by
  have q:=PySem.IsL.update e f
  rw [hf] at q
  refine I.write (x:=l) (e:=l) (by rw [hH];exact trivial) (.inl rfl) (fun b' u hb hu=>(Heap.get?_update_other s.heap (Obj.mapSeq f) (Ne.symm hb)).trans hu) ⟨_,q⟩ ?_
  exact ⟨hz,its',_,hv,q⟩
theorem Inv.lnew {its:List Value} {t':Nat} (I:Inv X pins σ H s) (hv:Vals ys its) (hz:ys.length≤sizeLine) :
    Inv X pins σ (upd H s.heap.objs.size (.lst ys)) { s with heap:=s.heap.push { cls := .type "list",data := .seq its.toArray },toks:=t' } :=
  I.laid (fun _ _ q=>Heap.get?_push_of_some _ q) (Nat.le_refl _) ⟨hz,its,0,hv,Heap.get?_push_size _ rfl⟩
theorem Inv.fresh (I:Inv X pins σ H s):H s.heap.objs.size=none:=I.hok.fresh (Nat.le_refl _)
theorem Inv.lstM (I:Inv X pins σ H s) (hH:H l=some (.lst xs)):xs.length≤sizeLine∧∃ (its:List Value) (n:Nat),Vals xs its∧xs.length=its.length∧s.heap.get? l=some { cls := .type "list",data := .seq its.toArray n }:=by
  obtain ⟨z,its,n,r,e⟩:=I.hok l _ hH
  exact ⟨z,its,n,r,r.length,e⟩

end

section
variable {X:Cx}

noncomputable def Qed:V→List V→Hp→VK→Prop:=fun x vs H Q=>∃ l xs y,x = .ref l∧vs=[y]∧H l=some (.lst xs)∧xs.length < sizeLine∧Q .non (upd H l (.lst (xs++[y])))
theorem Ze:MtM X "list.append" Qed:=by
  intro pins s σ H x vs v us Q I rx rv h
  obtain ⟨l,xs,y,rfl,rfl,hH,hz,q⟩:=h
  cases rx
  obtain ⟨u,rfl,ru⟩:=rv.one
  obtain ⟨z,its,n,r,hl,e⟩:=I.lstM hH
  refine call_meets F.slot_list_append ⟨_,e,rfl⟩ F.entry_list_append (F.args_list_append_2 _ _) (PySem.list_append l its.toArray n u (by rw [List.size_toArray];omega)) ⟨e,?_⟩
  refine ⟨.non,_,I.lset (its':=its++[u]) hH e (by simp) (r.append (.cons ru .nil)) ?_,rfl,q⟩
  rw [List.length_append,List.length_singleton]
  omega

end

section
variable {prog:Program} {w:World} {A:Around} {E:Value→Shared→Prop} {s:Shared}
end

section
variable {X:Cx}
end
end L2

namespace Att
open PySem PySem.W PySem.Calls PyProof.Rows

theorem Qdu {P:Params} {h:Heap}:∀ (ns:List Int) (vs:List Value),WellAll P h vs (ns.map WData.int)→IntsAre vs ns:=by
  intro ns
  induction ns with
  | nil =>
    intro vs w
    rw [List.map_nil] at w
    cases w
    exact .nil
  | cons n ns ih =>
    intro vs w
    rw [List.map_cons] at w
    cases w with
    | cons a b =>
      cases a
      exact .cons _ _ (ih _ b)

theorem QiJ {l:OpenLaw} {n:Nat} (hn:l.most=some n) {P:Params} {h:Heap} {args:List WData} {vals:List Value}
    (hpre:l.row.toRowW.claim.pre args=true) (hwl:WellAll P h vals args) :
    ∃ a vs ns,vals=[Value.ref a]∧args=[WData.list (ns.map WData.int)]∧h.get? a=some { cls := .type "list",data := .seq vs.toArray }∧IntsAre vs ns∧ns.length≤n:=by
  have hsh:WShape.hasAll [] args [.list .int]=true:=(pre_splitW hpre).1
  have hc:l.pre.holds [] { args:=args }=true:=(pre_splitW hpre).2
  obtain ⟨d,r,rfl,h1,h2⟩:=hasAllW_cons hsh
  obtain rfl:=hasAllW_nil h2
  obtain ⟨xs,rfl,h3⟩:=hasW_list h1
  obtain ⟨ns,rfl⟩:=items_int h3
  have hlen:ns.length≤n:=by
    unfold OpenLaw.pre at hc
    have h4:(WTm.not (.lt (.lit (.int (n:Int))) (.len (.arg 0)))).holds [] { args:=[.list (ns.map .int)] }=true:=by
      have h4:=(holds_andW hc).1
      rw [hn] at h4
      exact h4
    have h5:=condW_of h4 (w_not (w_lt w_lit (w_len_list (w_arg rfl))))
    rw [List.length_map] at h5
    refine Nat.le_of_not_lt fun q => ?_
    have q':(n:Int) < ((ns.length:Nat):Int):=by omega
    first
      | (rw [decide_eq_true q'] at h5;exact absurd h5 (by decide))
      | (simp at h5;omega)
  cases hwl with
  | cons w1 w2 =>
    cases w2
    cases w1 with
    | list ho hall=>exact ⟨_,_,ns,rfl,rfl,ho,Qdu ns _ hall,hlen⟩

theorem QiN (l:OpenLaw) (args:List WData):l.row.toRowW.claim.post args (.bool true) args=true :=
  postW_of (r:=l.row.toRowW) (X:=(true==true))
    (show WShape.has [] (.bool true) .bool=true by first | rfl | decide | simp [WShape.has,WShape.arms,WShape.armsAll])
    (show (WTm.eq .res (.lit (.bool true))).value [] { args:=args,res:=some (.bool true),after:=args }=some (.bool (true==true)) from w_eq_bool (w_res rfl) w_lit) rfl

theorem attach_call {l:OpenLaw} {n:Nat} {q:Program} {loose:List Str} {XP:(Str→Option Value)→Heap→Prop} {YP:World→Heap→Prop} {d:DefRec}
    (hn:l.most=some n) (hdf:d.params.defaults=[])
    (call:∀ (w:World) (s₀ s₁:Shared) (mg mb:Str→Option Value) (fa:Addr) (o:Obj) (pm cd doc:Value) (a:Addr) (vs:List Value) (ns:List Int),
      Ground q loose [] XP w s₀ mg mb s₁.heap→YP w s₁.heap →
      s₁.heap.get? fa=some o→o.data = .func (docDef d.name d.params d.body d.scope pm cd doc)→s₁.heap.CodeRec cd d.name→mg d.name=some (.ref fa) →
      s₁.heap.get? a=some { cls := .type "list",data := .seq vs.toArray }→IntsAre vs ns→ns.length≤n→s₁.gens = #[] →
      codeAny (model l.prog w) callerA (.call (.ref fa) ⟨[.ref a],[]⟩) (fun r s'=>r = .ok (.ret (.bool true))∧OldK s₁.heap s'.heap∧s'.os=s₁.os∧AllBare s'.gens) s₁) :
    WalkO q loose XP YP l.row.toRowW d [] (fun f vs=>PySem.call f vs):=by
  intro w s₀ s₁ mg mb G Y fa o pm cd doc dV kV ho hd hcd hD hmg hg args vals as hpre hlay hrd hwl hlo
  obtain rfl:dV = .none:=Dflts.none hD hdf
  obtain rfl:kV = .none:=Dflts.noKw hD
  obtain ⟨a,vs,ns,rfl,rfl,hobj,hints,hlen⟩:=QiJ hn hpre hwl
  refine enter_call (codeAny_mono (call w s₀ s₁ mg mb fa o pm cd doc a vs ns G Y ho (fd_plain hd) hcd hmg hobj hints hlen hg) fun r s' hq => ?_)
  obtain ⟨rfl,h2,h3,h4⟩:=hq
  exact ⟨.inl ⟨.bool true,.bool true,[],rfl,fun _=>rfl,.bool true,QiN l _,fun _=>⟨List.Pairwise.nil,fun _ hm=>(nomatch hm)⟩⟩,h2,h3,h4⟩

section
variable {prog:Program} {w:World} {A:Around} {E:Value→Shared→Prop} {s:Shared} {K:Frag}

end
end Att

namespace L2
open PySem PySem.Spec PyProof.Rows

theorem QeW:∀ {vs:List Value} {ns:List Int},IntsAre vs ns→Vals (ns.map V.int) vs
  | _,_,.nil => .nil
  | _,_,.cons n t h => .cons ⟨t,rfl⟩ (QeW h)

noncomputable def Only (H:Hp):Prop:=∀ b,H b=none∨∃ o xs,H b=some (.frz o (.lst xs))

theorem law_call {P:Program} {w:World} {K:PySem.W.Frag} {mg mb:Str→Option Value} {CX:CXT} {k:Nat} {fa a:Addr} {fd:FuncData} {x:Str} {sp:Sp} {s₁:Shared} {vs:List Value} {ns:List Int}
    (KX:K.In s₁.heap) (hns:s₁.heap.Ns mainGlobals mg) (hb:s₁.heap.Ns builtinsNs mb) (hbb:∀ x:Str,x ≠ "__name__"→mb x=bootBuiltins x) (hlim:s₁.heap.NoLimit) (hg:s₁.gens = #[])
    (ha:s₁.heap.get? a=some { cls := .type "list",data := .seq vs.toArray }) (hi:IntsAre vs ns) (hl:ns.length≤sizeLine) (hr:Room k callerA)
    (F:∀ base:Heap,K.In base→base.Ns mainGlobals mg→FnOk P w K mg base CX k fa fd [x] sp) (hbind:∀ (s:Shared) (u:Value),BindsTo s fd ⟨[u],[]⟩ [(x,u)])
    (hsp:∀ H:Hp,Only H→SqL K H a (ns.map V.int)→sp [.ref a] H (fun v _=>v = .bl true) fun _ _ _=>False)
    (hCX:∀ H e s',CX [] H s₁ (fun _ _ _=>False) e s'→False) :
    codeAny (model P w) callerA (.call (.ref fa) ⟨[.ref a],[]⟩) (fun r s'=>r = .ok (.ret (.bool true))∧OldK s₁.heap s'.heap∧s'.os=s₁.os∧AllBare s'.gens) s₁:=by
  have rv:=QeW hi
  have lenV:=hi.length
  -- from an abstract heap in which nothing but the script may be tracked
  have core:∀ H:Hp,Only H→SqL K H a (ns.map V.int)→HOk P w H s₁.heap→(∀ b,H b≠none→b=a)→(H a≠none→K.lookup a=none) →
      codeAny (model P w) callerA (.call (.ref fa) ⟨[.ref a],[]⟩) (fun r s'=>r = .ok (.ret (.bool true))∧OldK s₁.heap s'.heap∧s'.os=s₁.os∧AllBare s'.gens) s₁:=by
    intro H hO hS hok hA hK
    have base_of:∀ {b:Addr} {o:Obj},s₁.heap.get? b=some o→H b=none→(hidT s₁.heap H).get? b=some o:=fun e n=>hidT_get e n
    have noA:∀ {b:Addr} {o:Obj} {es:Array DictEntry} {ep:Nat},s₁.heap.get? b=some o→o.data = .dict es ep→H b=none:=fun {b o es ep} e d=>by
      cases q:H b with
      | none=>rfl
      | some u =>
        have e':b=a:=hA b (by rw [q];simp)
        subst e'
        rw [ha] at e;cases e
        have d':Data.seq vs.toArray _=Data.dict es ep:=d
        cases d'
    have nsK:∀ {b:Addr} {m:Str→Option Value},s₁.heap.Ns b m→(hidT s₁.heap H).Ns b m:=fun {b m} ⟨o,es,ep,e,d,r⟩=>⟨o,es,ep,base_of e (noA e d),d,r⟩
    have hKb:K.In (hidT s₁.heap H):=fun b o e=>base_of (KX b o e) (by
      cases q:H b with
      | none=>rfl
      | some u =>
        have e':b=a:=hA b (by rw [q];simp)
        subst e'
        rw [hK (by rw [q];simp)] at e;cases e)
    have hM:Mod K mg (hidT s₁.heap H):=⟨hKb,nsK hns,⟨mb,nsK hb,hbb⟩,let ⟨mc,h1,h2⟩:=hlim;⟨mc,nsK h1,h2⟩⟩
    have e0:Env0 P w K mg (hidT s₁.heap H) callerA [] s₁ H:=⟨rfl,hM,fun b o e=>of_hidT e,Nat.le_of_eq (QiZ _ _),trivial,fun b hb=>absurd (show b∈([]:List Addr) from hb) (by simp),hok,.of_eq hg⟩
    refine codeAny_mono ((F _ hKb (nsK hns)).run callerA [] s₁ H ⟨[.ref a],[]⟩ [.ref a] [.ref a] _ _ hr e0 (hbind s₁ (.ref a)) (.cons rfl .nil) (hsp H hO hS)) fun r s' h => ?_
    cases r with
    | error e=>exact (hCX H e s' h).elim
    | ok fl =>
      cases fl with
      | next=>exact False.elim h
      | brk=>exact False.elim h
      | cont=>exact False.elim h
      | ret u =>
        obtain ⟨v,H',os,bare,un,hok',r',q⟩:=h
        have q':v = .bl true:=q
        subst q'
        obtain rfl:u=Value.bool true:=r'
        refine ⟨rfl,OldK.of_keep fun b o e => ?_,os,bare⟩
        cases q:H b with
        | none=>exact un.keep b o e q (by intro z;exact absurd (show b∈([]:List Addr) from z) (by simp)) (by simp)
        | some u =>
          rcases hO b with z | ⟨ob,xs,z⟩
          · rw [q] at z;cases z
          · have z2:=un.frzs b ob _ z
            obtain ⟨e1,_⟩:=hok b _ z
            obtain ⟨e2,_⟩:=hok' b _ z2
            rw [e] at e1;cases e1
            exact e2
  cases hk:K.lookup a with
  | some o =>
    -- the script is one of the module's own objects
    have e:=KX a o hk
    rw [ha] at e
    cases e
    refine core (fun _=>none) (fun _ => .inl rfl) (.inr ⟨_,vs.toArray,_,hk,rfl,rfl,rfl,by rw [List.size_toArray,lenV];exact hl,by simpa using rv⟩) (fun b u z=>by have z':(none:Option HO)=some u:=z;cases z') (fun b z=>absurd rfl z) fun z=>absurd rfl z
  | none =>
    refine core (fun b=>if b=a then some (.frz { cls := .type "list",data := .seq vs.toArray } (.lst (ns.map V.int))) else none) (fun b => ?_) (.inl (.inr ⟨{ cls := .type "list",data := .seq vs.toArray },if_pos rfl⟩)) (fun b u z => ?_) (fun b z => ?_) fun _=>hk
    · by_cases hb:b=a
      · exact .inr ⟨_,_,if_pos hb⟩
      · exact .inl (if_neg hb)
    · by_cases hb:b=a
      · have z':=(if_pos hb).symm.trans z
        cases z'
        subst hb
        exact ⟨ha,by rw [List.length_map];exact hl,vs,_,rv,ha⟩
      · have z':=(if_neg hb).symm.trans z
        cases z'
    · by_cases hb:b=a
      · exact hb
      · exact absurd (if_neg hb) z
end L2

namespace L2
open PySem PySem.Spec PyProof.Rows

noncomputable abbrev KOf {K:PySem.W.Frag} {h:Heap} (_:K.In h):PySem.W.Frag:=K

theorem walk_of {l:PySem.W.OpenLaw} {n k:Nat} {q:Program} {loose:List Str} {XP:(Str→Option Value)→Heap→Prop} {YP:World→Heap→Prop} {d:DefRec} {K:Params→PySem.W.Frag} {CX:World→CXT} {sp:World→Sp} {x:Str}
    (hn:l.most=some n) (hn2:n≤sizeLine) (hdf:d.params.defaults=[]) (hr:Room k callerA)
    (hY:∀ (w:World) (h:Heap),YP w h→(K w.params).In h)
    (F:∀ (w:World) (mg:Str→Option Value) (fa:Addr) (h:Heap),(K w.params).In h→h.Ns mainGlobals mg→mg d.name=some (.ref fa) →
      ∃ fd:FuncData,(∀ (s:Shared) (u:Value),BindsTo s fd ⟨[u],[]⟩ [(x,u)]) ∧
        ∀ base:Heap,(K w.params).In base→base.Ns mainGlobals mg→FnOk l.prog w (K w.params) mg base (CX w) k fa fd [x] (sp w))
    (hsp:∀ (w:World) (H:Hp) (a:Addr) (ns:List Int),ns.length≤n→Only H→SqL (K w.params) H a (ns.map V.int)→sp w [.ref a] H (fun v _=>v = .bl true) fun _ _ _=>False)
    (hCX:∀ (w:World) (H:Hp) (s:Shared) (e:Value) (s':Shared),CX w [] H s (fun _ _ _=>False) e s'→False) :
    PySem.W.WalkO q loose XP YP l.row.toRowW d [] (fun f vs=>PySem.call f vs):=by
  refine Att.attach_call hn hdf fun w s₀ s₁ mg mb fa o pm cd doc a vs ns G Y ho hd hcd hmg hobj hints hlen hg => ?_
  have KX:=hY w _ Y
  obtain ⟨fd,hb,hF⟩:=F w mg fa _ KX G.T.g hmg
  exact law_call KX G.T.g G.T.b G.T.builtins G.T.nolimit hg hobj hints (Nat.le_trans hlen hn2) hr hF hb (fun H hO hS=>hsp w H a ns hlen hO hS) fun H e s'=>hCX w H s₁ e s'
end L2

/- THE LAST THEOREM (shape;LID,My.* are yours):
   My.Adr: a structure of the addresses that your layer names (classes,functions);My.Txt K t: a structure (Prop) of the equations over K;
   My.txt_mk:{K} {implicit addresses ..} (e1:nsIn K mainGlobals "law"=some (some (.ref f))) (e2:K.lookup f=some ⟨oc,od,.func (fnOf "law" "law" params body scope dV kV doc pm an cdv ct),sl⟩) (e3:codeIn K cdv "law"=true) ..:∃ t,My.Txt K t

set_option maxRecDepth 100000 in
set_option maxHeartbeats 0 in
theorem PySem.Challenge.cw_LID_holds : PySem.Challenge.rw_LID.Holds := by
  w_on;o_law;k_head;(case hw=>w_witness2)
  k_fill
  refine L2.walk_of (l:=PySem.Challenge.rw_LID) (n:=63) (k:=40) (x := "script") (CX:=fun w => ..) (sp:=fun _=>My.sp_law) rfl (by decide) rfl ⟨rfl,by decide,by decide⟩ (fun w h Y=>PySem.W.kIn_of Y) ?F ?S ?C
  case F =>
    intro w mg fa h KX G hmg
    have T:∃ t,My.Txt (L2.KOf KX) t:=by
      dsimp only [L2.KOf]                          -- K must stand as «<heap const> w.params» for k_is
      refine' My.txt_mk ?e1 ?e2 ?e3 ..
      (case e1=>PySem.W.k_is)                    -- in the order: a name -> its address -> its object -> its parts
      (case e2=>PySem.W.k_is)
      ..
    obtain ⟨t,T⟩:=T
    have e0:=hmg.symm.trans (PySem.W.mg_of KX G T.law)
    cases e0                                       -- fa is the law's own address
    exact ⟨_,fun s u => .of_eq rfl,fun base kb nb=>My.law_fn T kb nb⟩     -- if «.of_eq rfl» comes too early: refine' ⟨_,?b,fun base kb nb=>My.law_fn T kb nb⟩;exact fun s u => .of_eq rfl
  case S=>exact fun w H a ns hl hO hS => ..
  case C=>exact ..
(the tactic k_is has no namespace: write k_is) -/

namespace L2
open PySem PySem.Spec PyProof.Rows

noncomputable def Zd (s:Stmt) (j:Nat):Stmt:=match s with
  | .ClassDef _ _ _ body _ _ _ _ _ _ _=>body.getD j (.Pass ⟨0,0,0,0⟩)
  | _ => .Pass ⟨0,0,0,0⟩
noncomputable def Qq (s:Stmt):Arguments:=match s with
  | .FunctionDef _ a _ _ _ _ _ _ _ _=>a
  | _=>{ posonlyargs:=[],args:=[],vararg:=none,kwonlyargs:=[],kw_defaults:=[],kwarg:=none,defaults:=[] }
noncomputable def Qm (s:Stmt):List Stmt:=match s with
  | .FunctionDef _ _ b _ _ _ _ _ _ _=>b
  | _=>[]
noncomputable def Qe (s:Stmt):Scope:=match s with
  | .FunctionDef _ _ _ _ _ _ sc _ _ _=>sc
  | _=>{ kind := .function,names:=[],isGenerator:=false,isCoroutine:=false }

noncomputable abbrev CX0:CXT:=fun _ _ _ _ _ _=>False
noncomputable abbrev E0:XK:=fun _ _ _=>False
theorem Qew {X:Cx}:Qcm CX0 X E0:=fun _ _ _ _ _ _ _ h=>h.elim

structure Fun (K:PySem.W.Frag) (x qual:Str) (st:Stmt) (f:Addr) (fd:FuncData):Prop where
  ex:∃ (oc:Value) (od:Option Addr) (kV doc pm:Value) (an:Option Addr) (cdv ct:Value) (osl:Array (Option Value)),
    fd=PySem.W.fnOf x qual (Qq st) (Qm st) (Qe st) .none kV doc pm an cdv ct∧K.lookup f=some ⟨oc,od,.func fd,osl⟩∧PySem.W.codeIn K cdv qual=true
  kp:PySem.W.keepIn K (.ref f)=true
section
variable {P:Program} {w:World} {K:PySem.W.Frag} {mg:Str→Option Value} {base:Heap}
theorem Fun.ok {x qual:Str} {st:Stmt} {f:Addr} {fd:FuncData} {N ps:List Str} {k:Nat} {sp:Sp} (F:Fun K x qual st f fd) (S:FnScope N ps (Qe st)) (len:∀ vs H Q E,sp vs H Q E→vs.length=ps.length)
    (hbody:∀ (cdv:Value) (A:Around) (outer:List Env) (s:Shared) (H:Hp) (vs:List V) (Q:VK) (E:XK),Room k (A.deeper (envOfC qual (Qe st) s.heap.objs.size f cdv))→sp vs H Q E →
      ∃ t,PSs (cxOf CX0 P w K mg base N qual (Qe st) f cdv A outer s H E).nox (Qm st) t∧t { nx:=fun _ H'=>Q .non H',rt:=Q } (XL N vs) H):FnOk P w K mg base CX0 (k + 1) f fd ps sp:=by
  obtain ⟨oc,od,kV,doc,pm,an,cdv,ct,osl,rfl,lk,hcd⟩:=F.ex
  refine fn_of lk hcd S len fun A outer s H vs Q E hr hsp => ?_
  obtain ⟨t,h,q⟩:=hbody cdv A outer s H vs Q E hr hsp
  exact ⟨t,h.nox,q⟩
theorem Fun.binds {x qual:Str} {st:Stmt} {f:Addr} {fd:FuncData} {ps:List Str} (F:Fun K x qual st f fd)
    (h:∀ (kV doc pm:Value) (an:Option Addr) (cdv ct:Value) (us:List Value),us.length=ps.length→bindArgs (PySem.W.fnOf x qual (Qq st) (Qm st) (Qe st) .none kV doc pm an cdv ct) ⟨us,[]⟩=pure (ps.zip us)):YE K fd ps []:=by
  obtain ⟨oc,od,kV,doc,pm,an,cdv,ct,osl,rfl,lk,hcd⟩:=F.ex
  exact .all (h kV doc pm an cdv ct)
theorem QI {x qual:Str} {st:Stmt} {f:Addr} {oc:Value} {od an:Option Addr} {osl:Array (Option Value)} {kV doc pm cdv ct:Value} (l:K.lookup f=some ⟨oc,od,.func (PySem.W.fnOf x qual (Qq st) (Qm st) (Qe st) .none kV doc pm an cdv ct),osl⟩)
    (c:PySem.W.codeIn K cdv qual=true) (k:PySem.W.keepIn K (.ref f)=true):Fun K x qual st f (PySem.W.fnOf x qual (Qq st) (Qm st) (Qe st) .none kV doc pm an cdv ct):=⟨⟨oc,od,kV,doc,pm,an,cdv,ct,osl,rfl,l,c⟩,k⟩
end
section
variable {X:Cx}
theorem pv (i:Nat) {x:Str} {pos:Pos} (hN:X.N[i]?=some x:=by rfl) (hv:Vis X.env.scope x:=by first | exact Or.inl rfl | exact Or.inr (Or.inl rfl) | exact Or.inr (Or.inr rfl)) (hd:(x==("__debug__":Str))=false:=by decide)
    (hcd:(x==("__classdict__":Str))=false:=by decide):PE X (.Name x pos) (tVar i):=pe_var hN hv hd hcd
end

noncomputable def Same (H H':Hp):Prop:=∀ b o,H b=some o→H' b=some o
theorem Same.refl (H:Hp):Same H H:=fun _ _ h=>h
theorem Same.trans {H H1 H2:Hp} (a:Same H H1) (b:Same H1 H2):Same H H2:=fun c o h=>b c o (a c o h)
theorem Same.free {H H':Hp} (e:Same H H') {l:Addr} (h:H' l=Option.none):H l=Option.none:=by
  cases q:H l with
  | none=>rfl
  | some o =>
    rw [e l o q] at h
    cases h
theorem Same.seq {K:PySem.W.Frag} {H H':Hp} {a:Addr} {xs:List V} (e:Same H H') (h:SqL K H a xs):SqL K H' a xs:=by
  rcases h with (h | ⟨o,h⟩) | h
  · exact .inl (.inl (e _ _ h))
  · exact .inl (.inr ⟨o,e _ _ h⟩)
  · exact .inr h

end L2

noncomputable section
namespace L2.PM
open PySem PySem.Spec PyProof.Rows

noncomputable def clos (env:Env):List (Str×NameKind)→List (Str×Addr)→List (Str×Addr)
  | [],acc=>acc
  | (n,k) :: r,acc=>if k==NameKind.free then clos env r ((n,(env.cells.lookup n).getD 0) :: acc) else clos env r acc

theorem Qet {env:Env}:∀ (l:List (Str×NameKind)) (acc:List (Str×Addr)),(∀ x∈l,x.2=NameKind.free→∃ c,env.cells.lookup x.1=some c) →
    (forIn l acc fun (x:Str×NameKind) (cs:List (Str×Addr))=>if (x.2==NameKind.free)=true then (do let a ← cellOf env x.1;pure (ForInStep.yield ((x.1,a) :: cs)):Sem _) else pure (ForInStep.yield cs))=(pure (clos env l acc):Sem _)
  | [],acc,_=>rfl
  | (n,k) :: r,acc,h=>by
    have hr:∀ x∈r,x.2=NameKind.free→∃ c,env.cells.lookup x.1=some c:=fun x hx=>h x (List.mem_cons_of_mem _ hx)
    by_cases hk:k=NameKind.free
    · subst hk
      obtain ⟨c,hc⟩:=h (n,NameKind.free) List.mem_cons_self rfl
      have hcell:cellOf env n=pure c:=by unfold cellOf;rw [hc]
      simp only [List.forIn_cons,beq_self_eq_true,if_true,clos,hcell,hc,Option.getD_some]
      rw [show ((pure c:Sem Addr) >>= fun a=>(pure (ForInStep.yield ((n,a) :: acc)):Sem _))=pure (ForInStep.yield ((n,c) :: acc)) from rfl]
      exact Qet r ((n,c) :: acc) hr
    · have hb:(k==NameKind.free)=false:=by simpa using hk
      simp only [List.forIn_cons,hb,Bool.false_eq_true,if_false,clos]
      exact Qet r acc hr
theorem Qbl {scope:Scope} {env:Env} (h:∀ x∈scope.names,x.2=NameKind.free→∃ c,env.cells.lookup x.1=some c):closureFor scope env=pure (clos env scope.names []):=by
  have e:=Qet scope.names [] h
  have f:(fun (x:Str×NameKind) (cs:List (Str×Addr))=>(match x with
      | (name,kind)=>if (kind==NameKind.free)=true then (do let a ← cellOf env name;pure (ForInStep.yield ((name,a) :: cs)):Sem _) else pure (ForInStep.yield cs))) =
      (fun (x:Str×NameKind) (cs:List (Str×Addr))=>if (x.2==NameKind.free)=true then (do let a ← cellOf env x.1;pure (ForInStep.yield ((x.1,a) :: cs)):Sem _) else pure (ForInStep.yield cs)):=by
    funext x cs
    cases x
    rfl
  unfold closureFor
  dsimp only
  rw [f,e]
  rfl
theorem Qct {env:Env} {x:Str}:∀ (l:List (Str×NameKind)) (acc:List (Str×Addr)),(x,NameKind.free)∈l∨acc.lookup x=env.cells.lookup x→(∀ y∈l,y.2=NameKind.free→∃ c,env.cells.lookup y.1=some c) →
    (clos env l acc).lookup x=env.cells.lookup x
  | [],acc,h,_=>by
    rcases h with h | h
    · cases h
    · exact h
  | (n,k) :: r,acc,h,hc=>by
    have hr:∀ y∈r,y.2=NameKind.free→∃ c,env.cells.lookup y.1=some c:=fun y hy=>hc y (List.mem_cons_of_mem _ hy)
    by_cases hk:k=NameKind.free
    · subst hk
      obtain ⟨c,hcn⟩:=hc (n,NameKind.free) List.mem_cons_self rfl
      have hcn:env.cells.lookup n=some c:=hcn
      simp only [clos,beq_self_eq_true,if_true]
      refine Qct r _ ?_ hr
      by_cases hx:x=n
      · subst hx
        right
        simp [hcn]
      · have hb:(x==n)=false:=by simpa using hx
        rcases h with h | h
        · rcases List.mem_cons.mp h with h | h
          · injection h with h1 _
            exact absurd h1 hx
          · exact .inl h
        · right
          simp only [List.lookup_cons,hb]
          exact h
    · have hb:(k==NameKind.free)=false:=by simpa using hk
      simp only [clos,hb,Bool.false_eq_true,if_false]
      refine Qct r acc ?_ hr
      rcases h with h | h
      · rcases List.mem_cons.mp h with h | h
        · injection h with _ h2
          exact absurd h2.symm hk
        · exact .inl h
      · exact .inr h
theorem QfT {env:Env} {x:Str} {c:Addr}:∀ (l:List (Str×NameKind)) (acc:List (Str×Addr)),(acc.lookup x=some c→env.cells.lookup x=some c)→(∀ y∈l,y.2=NameKind.free→∃ c,env.cells.lookup y.1=some c) →
    (clos env l acc).lookup x=some c→env.cells.lookup x=some c
  | [],acc,h,_,e=>h e
  | (n,k) :: r,acc,h,hc,e=>by
    have hr:∀ y∈r,y.2=NameKind.free→∃ c,env.cells.lookup y.1=some c:=fun y hy=>hc y (List.mem_cons_of_mem _ hy)
    by_cases hk:k=NameKind.free
    · subst hk
      obtain ⟨d,hcn⟩:=hc (n,NameKind.free) List.mem_cons_self rfl
      have hcn:env.cells.lookup n=some d:=hcn
      simp only [clos,beq_self_eq_true,if_true] at e
      refine QfT r _ (fun q => ?_) hr e
      by_cases hx:x=n
      · subst hx
        simp [hcn] at q
        rw [hcn,q]
      · have hb:(x==n)=false:=by simpa using hx
        simp only [List.lookup_cons,hb] at q
        exact h q
    · have hb:(k==NameKind.free)=false:=by simpa using hk
      simp only [clos,hb,Bool.false_eq_true,if_false] at e
      exact QfT r acc h hr e

noncomputable def blkEnv (env:Env) (sc':Scope) (cl:List (Str×Addr)) (C:Addr):Env :=
  { scope:=sc',locals:=C,globals:=env.globals,cells:=cl,qual:=env.qual,func:=none,code:=env.code,frame:=env.frame,builtins:=env.builtins }
noncomputable def Qay (X:Cx) (pins:List (Addr×Obj)) (N':List Str) (sc':Scope) (cl:List (Str×Addr)) (C:Addr) (s:Shared) (H:Hp) (fp:List Addr):Cx where
  prog:=X.prog
  w:=X.w
  K:=X.K
  mg:=X.mg
  base:=X.base
  A:=X.A
  N:=N'
  s₀:=s
  H₀:=H
  env:=blkEnv X.env sc' cl C
  outer:=X.stack
  stack:=X.stack
  ex:=fp
  fn:=fun _=>false
  calm:=X.calm
  pn:=X.pn++pins
  xe:=fun _ _=>False

noncomputable def Zl (osc scope:Scope):Scope :=
  { scope with names:=scope.names.map fun (n,k)=>if (k == .free&&osc.kind == .function&&osc.names.lookup n==some .cell) then (n,.cell) else (n,k) }
structure CompOk (N:List Str) (osc scope:Scope) (N':List Str) (nt:Nat) (caps:List Nat):Prop where
  kind:scope.kind = .function
  nocell:∀ x∈scope.names,x.2≠NameKind.cell
  locs:∀ x∈scope.names,x.2=NameKind.local→scope.names.lookup x.1=some .local
  free:∀ x∈scope.names,x.2=NameKind.free→osc.names.lookup x.1=some .cell∨osc.names.lookup x.1=some .free
  len:N'.length=nt + caps.length
  cap:∀ p∈caps.zip (N'.drop nt),N[p.1]?=some p.2∧scope.names.lookup p.2=some NameKind.free

noncomputable def XQ (nt:Nat) (caps:List Nat) (σ:St):St:=List.replicate nt none++caps.map fun j=>(σ[j]?).getD none

section
variable {X:Cx} {pins:List (Addr×Obj)} {σ:St} {H:Hp} {s:Shared} {scope:Scope} {N':List Str} {nt:Nat} {caps:List Nat} {fp:List Addr}
theorem Qje (I:Inv X pins σ H s) (ck:CompOk X.N X.env.scope scope N' nt caps):∀ x∈scope.names,x.2=NameKind.free→∃ c,X.env.cells.lookup x.1=some c:=fun x hx hf =>
  I.ok.has x.1 (ck.free x hx hf)
theorem QbF {osc:Scope} {x:Str} {k:NameKind}:∀ {names:List (Str×NameKind)},names.lookup x=some NameKind.free →
    (names.map fun (p:Str×NameKind)=>if (p.2==NameKind.free&&osc.kind == .function&&osc.names.lookup p.1==some .cell) then (p.1,NameKind.cell) else (p.1,p.2)).lookup x=some k→k = .cell∨k = .free
  | [],h,_=>by cases h
  | (n,q) :: r,h,e=>by
    by_cases hx:x=n
    · subst hx
      simp at h
      subst h
      simp only [List.map_cons] at e
      split at e <;> simp at e <;> simp [e.symm]
    · have hb:(x==n)=false:=by simpa using hx
      simp only [List.lookup_cons,hb] at h
      simp only [List.map_cons] at e
      split at e
      · simp only [List.lookup_cons,hb] at e
        exact QbF h e
      · simp only [List.lookup_cons,hb] at e
        exact QbF h e

end
end L2.PM

noncomputable section
namespace L2.PM
open PySem PySem.Spec PyProof.Rows

noncomputable def PIfs (X:Cx) (ifs:List Expr) (t:TT):Prop :=
  ∀ (pins:List (Addr×Obj)) (s:Shared) (σ:St) (H:Hp) (Q:Bool→Hp→Prop),Inv X pins σ H s→t σ H Q →
    wpAny (model X.prog X.w) X.A (forIn ifs true fun c r=>if r=true then do let ok ← isTrue c X.env (eval c X.env);pure (ForInStep.yield ok) else pure (ForInStep.yield r)) (TP X pins σ Q) X.xe s
noncomputable def tYes:TT:=fun _ H Q=>Q true H
theorem pifs_nil {X:Cx}:PIfs X [] tYes:=fun _ _ _ H _ I h=>wpAny_tests_nil ⟨H,I,h⟩
theorem pifs_one {X:Cx} {c:Expr} {t:TT} (h:PT X c t):PIfs X [c] t:=fun pins s σ H Q I hq=>wpAny_tests_one (h pins s σ H Q I hq)

theorem QgA {prog:Program} {w:World} {A:Around} {R:Result→Shared→Prop} {s:Shared} {elt target iter:Expr} {ifs:List Expr} {scope:Scope} {pos:Pos} {it acc:Value} {env:Env} (I:Nat→Shared→Prop)
    (turn:∀ n s,I n s→wpAny (model prog w) A (pyNext it) (fun r s₁=>match r with
      | none=>R (.ok .next) s₁
      | some v=>wpAny (model prog w) A (letOwnedTupleGo target it v) (fun _ s₁'=>wpAny (model prog w) A (assign target env v) (fun _ s₂ =>
          wpAny (model prog w) A (forIn ifs true fun c r=>if r=true then do let ok ← isTrue c env (eval c env);pure (ForInStep.yield ok) else pure (ForInStep.yield r)) (fun ok s₃ =>
            if ok=true then wpAny (model prog w) A (eval elt env) (fun x s₄ =>
              wpAny (model prog w) A (call (.builtin "list.append") [acc,x]) (fun _ s₅=>∃ m,m < n∧I m s₅) (fun _ _=>False) s₄) (fun _ _=>False) s₃
            else ∃ m,m < n∧I m s₃) (fun _ _=>False) s₂) (fun _ _=>False) s₁') (fun _ _=>False) s₁) (fun _ _=>False) s)
    (n:Nat) (h:I n s) :
    codeAny (model prog w) A (.compLoop (.ListComp elt [⟨target,iter,ifs,0⟩] scope pos) 0 it acc env) R s:=by
  refine codeAny_loop rfl I (fun n s hI => ?_) n h
  show wpAny _ A ((compTurn (.ListComp elt [⟨target,iter,ifs,0⟩] scope pos) 0 it acc env).onRaise (fun x=>do noteFrame x env;theTreesLotGoes x)) _ _ s
  refine wpAny_noted ?_
  rw [compTurn_list]
  refine wpAny_bind (wpAny_standAt (wpAny_bind (wpAny_mono (turn n s hI) (fun r s₁ h₁ => ?_) fun _ _ h'=>h'.elim)))
  cases r with
  | none=>exact wpAny_pure h₁
  | some v =>
    refine wpAny_bind (wpAny_mono h₁ (fun _ s₁' h₁' => ?_) fun _ _ h'=>h'.elim)
    refine wpAny_bind (wpAny_mono h₁' (fun _ s₂ h₂=>wpAny_bind (wpAny_mono h₂ (fun ok s₃ h₃ => ?_) fun _ _ h'=>h'.elim)) fun _ _ h'=>h'.elim)
    cases ok with
    | false=>exact wpAny_pure ⟨rfl,h₃⟩
    | true =>
      exact wpAny_bind (wpAny_bind (wpAny_mono h₃ (fun x s₄ h₄=>wpAny_bind (wpAny_mono h₄ (fun _ s₅ h₅=>wpAny_pure (wpAny_pure ⟨rfl,h₅⟩)) fun _ _ h'=>h'.elim)) fun _ _ h'=>h'.elim))

noncomputable def StExt (σ σ':St):Prop:=σ'.length=σ.length∧∀ (i:Nat) (v:V),σ[i]?=some (some v)→σ'[i]?=some (some v)
noncomputable def QeV (J:It) (nt:Nat) (caps:List Nat) (g:TG) (tc:TT) (te:TE) (σ:St) (H1:Hp) (Qd:Addr→Hp→Prop):Prop :=
  ∀ D,H1 D=none→∃ W:Nat→Nat→List V→Hp→Prop,(∃ m,W 0 m [] (upd H1 D (.lst []))) ∧
    ∀ i m xs H2,W i m xs H2→(J.stop i H2∧Qd D H2)∨(J.go i H2∧∀ x H3,J.yld i H2 x H3→g x (XQ nt caps σ) H3 fun σ4 H4=>StExt (XQ nt caps σ) σ4 ∧
      tc σ4 H4 fun b H5=>if b=true then te σ4 H5 fun v H6=>H6 D=some (.lst xs)∧xs.length < sizeLine∧∃ m',m' < m∧W (i + 1) m' (xs++[v]) (upd H6 D (.lst (xs++[v]))) else ∃ m',m' < m∧W (i + 1) m' xs H5)

theorem QhZ {x:Str}:∀ (names:List (Str×NameKind)) (n:Nat) (acc:List (Str×Addr)),(x,NameKind.cell)∉names→(cellsFrom n names acc).lookup x=acc.lookup x
  | [],_,_,_=>rfl
  | (y,k) :: r,n,acc,h=>by
    have hr:(x,NameKind.cell)∉r:=fun z=>h (List.mem_cons_of_mem _ z)
    unfold cellsFrom
    split
    · rename_i hk
      have hk:k=NameKind.cell:=beq_iff_eq.mp hk
      subst hk
      rw [QhZ r _ _ hr,List.lookup_cons]
      have:(x==y)=false:=by
        rw [beq_eq_false_iff_ne]
        rintro rfl
        exact h List.mem_cons_self
      rw [this]
    · exact QhZ r _ _ hr
theorem Qib {x:Str} {c:Addr}:∀ (names:List (Str×NameKind)) (h:Heap) (acc:List (Str×Addr)),(cellsFrom h.objs.size names acc).lookup x=some c→acc.lookup x=some c∨(h.objs.size≤c∧(pushCells h names).IsCell c none)
  | [],_,_,e => .inl e
  | (y,k) :: r,h,acc,e=>by
    unfold cellsFrom at e
    unfold pushCells
    split at e
    · rename_i hk
      rw [if_pos hk]
      have e:(cellsFrom (h.push { cls := .type "cell",data := .cell none }).objs.size r ((y,h.objs.size) :: acc)).lookup x=some c:=by rw [Heap.size_push];exact e
      rcases Qib r _ _ e with z | ⟨z1,z2⟩
      · rw [List.lookup_cons] at z
        cases q:x==y with
        | true =>
          rw [q] at z
          cases z
          exact .inr ⟨Nat.le_refl _,_,pushCells_keeps r _ _ _ (Heap.get?_push_size _ rfl),rfl⟩
        | false=>rw [q] at z;exact .inl z
      · rw [Heap.size_push] at z1
        exact .inr ⟨by omega,z2⟩
    · rename_i hk
      rw [if_neg hk]
      exact Qib r h acc e
theorem Qia:∀ (names:List (Str×NameKind)) (n:Nat) (acc:List (Str×Addr)),(∀ x c,acc.lookup x=some c→c < n)→(∀ x y c,acc.lookup x=some c→acc.lookup y=some c→x=y)→∀ x y c,(cellsFrom n names acc).lookup x=some c→(cellsFrom n names acc).lookup y=some c→x=y
  | [],_,_,_,h2,x,y,c,e1,e2=>h2 x y c e1 e2
  | (z,k) :: r,n,acc,h1,h2,x,y,c,e1,e2=>by
    unfold cellsFrom at e1 e2
    split at e1
    · rename_i hk
      rw [if_pos hk] at e2
      refine Qia r (n + 1) ((z,n) :: acc) (fun x c e => ?_) (fun x y c e1 e2 => ?_) x y c e1 e2
      · rw [List.lookup_cons] at e
        cases q:x==z with
        | true=>rw [q] at e;cases e;exact Nat.lt_succ_self _
        | false=>rw [q] at e;exact Nat.lt_succ_of_lt (h1 x c e)
      · rw [List.lookup_cons] at e1 e2
        cases q1:x==z with
        | true =>
          cases q2:y==z with
          | true=>rw [beq_iff_eq.mp q1,beq_iff_eq.mp q2]
          | false =>
            rw [q1] at e1;rw [q2] at e2
            cases e1
            exact absurd (h1 y _ e2) (Nat.lt_irrefl _)
        | false =>
          cases q2:y==z with
          | true =>
            rw [q1] at e1;rw [q2] at e2
            cases e2
            exact absurd (h1 x _ e1) (Nat.lt_irrefl _)
          | false =>
            rw [q1] at e1;rw [q2] at e2
            exact h2 x y c e1 e2
    · rename_i hk
      rw [if_neg hk] at e2
      exact Qia r n acc h1 h2 x y c e1 e2
theorem newEnvC {M:Model} {A:Around} {E:Value→Shared→Prop} {s:Shared} {scope:Scope} {globals:Addr} {closure:List (Str×Addr)} {qual:Str} {func:Option Addr} {code:Value} {outer:Env} {builtins:Addr} {Q:Env→Shared→Prop}
    (hQ:Q (newEnv scope s.heap.objs.size globals (cellsFrom (s.heap.objs.size + 1) scope.names closure) qual func code (some outer) builtins) { s with heap:=pushCells (s.heap.push { cls := .type "dict",data := .dict #[] }) scope.names }) :
    wpAny M A (newFunctionEnv scope globals closure [] qual func code (some outer) builtins) Q E s:=by
  simp only [newFunctionEnv,Option.isSome_some,if_true]
  refine wpAny_bind (wpAny_alloc ?_)
  refine wpAny_bind (wpAny_layCells _ (fun name kind cells=>by cases hkc:kind==NameKind.cell <;> simp [hkc]) _ _ _ _ ?_)
  rw [show ({ s with heap:=s.heap.push { cls := .type "dict",data := .dict #[] } }:Shared).heap.objs.size=s.heap.objs.size + 1 from Heap.size_push ..]
  simp only [List.forIn_nil]
  exact wpAny_bind (wpAny_pure (wpAny_pure hQ))
noncomputable def ownC (scope:Scope):Str→Bool:=fun x=>scope.names.lookup x==some NameKind.cell
noncomputable def Xv (X:Cx) (fn:Str→Bool) (pins:List (Addr×Obj)) (N':List Str) (sc':Scope) (cl:List (Str×Addr)) (C:Addr) (s:Shared) (H:Hp) (fp:List Addr):Cx:={ Qay X pins N' sc' cl C s H fp with fn:=fn }
structure CompOkC (N:List Str) (osc scope:Scope) (N':List Str) (nt:Nat) (caps:List Nat):Prop where
  kind:scope.kind = .function
  nd:∀ x,(x,NameKind.cell)∈scope.names→(x,NameKind.free)∉scope.names
  locs:∀ x∈scope.names,x.2=NameKind.local→scope.names.lookup x.1=some .local
  free:∀ x∈scope.names,x.2=NameKind.free→osc.names.lookup x.1=some .cell∨osc.names.lookup x.1=some .free
  len:N'.length=nt + caps.length
  cap:∀ p∈caps.zip (N'.drop nt),N[p.1]?=some p.2∧scope.names.lookup p.2=some NameKind.free
section
variable {X:Cx} {pins:List (Addr×Obj)} {σ:St} {H:Hp} {s:Shared} {scope:Scope} {N':List Str} {nt:Nat} {caps:List Nat} {fp:List Addr}
theorem QdV (I:Inv X pins σ H s) (ck:CompOkC X.N X.env.scope scope N' nt caps):∀ x∈scope.names,x.2=NameKind.free→∃ c,X.env.cells.lookup x.1=some c:=fun x hx hf =>
  I.ok.has x.1 (ck.free x hx hf)
theorem Qeu {env:Env} {x:Str} {c:Addr}:∀ (l:List (Str×NameKind)) (acc:List (Str×Addr)),(clos env l acc).lookup x=some c→(x,NameKind.free)∈l∨acc.lookup x=some c
  | [],_,e => .inr e
  | (n,k) :: r,acc,e=>by
    by_cases hk:k=NameKind.free
    · subst hk
      simp only [clos,beq_self_eq_true,if_true] at e
      rcases Qeu r _ e with z | z
      · exact .inl (List.mem_cons_of_mem _ z)
      · rw [List.lookup_cons] at z
        cases q:x==n with
        | true=>exact .inl (by rw [beq_iff_eq.mp q];exact List.mem_cons_self)
        | false=>rw [q] at z;exact .inr z
    · have hb:(k==NameKind.free)=false:=by simpa using hk
      simp only [clos,hb,Bool.false_eq_true,if_false] at e
      rcases Qeu r acc e with z | z
      · exact .inl (List.mem_cons_of_mem _ z)
      · exact .inr z
theorem QcP {osc:Scope} {x:Str}:∀ (names:List (Str×NameKind)) (k:NameKind),(k=NameKind.cell∨k=NameKind.free) →
    (names.map fun (p:Str×NameKind)=>if (p.2==NameKind.free&&osc.kind == .function&&osc.names.lookup p.1==some .cell) then (p.1,NameKind.cell) else (p.1,p.2)).lookup x=some k→names.lookup x=some NameKind.cell∨names.lookup x=some NameKind.free
  | [],_,_,e=>by cases e
  | (n,q) :: r,k,hk,e=>by
    by_cases hx:x=n
    · subst hx
      simp only [List.map_cons] at e
      split at e
      · rename_i hcnd
        simp only [Bool.and_eq_true,beq_iff_eq] at hcnd
        exact .inr (by simp [hcnd.1.1])
      · simp at e
        subst e
        rcases hk with hk | hk
        · exact .inl (by simp [hk])
        · exact .inr (by simp [hk])
    · have hb:(x==n)=false:=by simpa using hx
      simp only [List.lookup_cons,hb]
      refine QcP (osc:=osc) r k hk ?_
      simp only [List.map_cons] at e
      split at e <;> (simp only [List.lookup_cons,hb] at e;exact e)
theorem blk_invC (I:Inv X pins σ H s) (hc:X.calm=true) (ck:CompOkC X.N X.env.scope scope N' nt caps) (hf:∀ b∈fp,FpOk X pins H b) (hlt:∀ b∈fp,b < s.heap.objs.size) {tk:Nat} :
    Inv (Xv X (ownC scope) pins N' (Zl X.env.scope scope) (cellsFrom (s.heap.objs.size + 1) scope.names (clos X.env scope.names [])) s.heap.objs.size s H fp) [] (XQ nt caps σ) H { s with heap:=pushCells (s.heap.push { cls := .type "dict",data := .dict #[] }) scope.names,toks:=tk }:=by
  have fc:=QdV I ck
  have cof:∀ x c,(clos X.env scope.names []).lookup x=some c→X.env.cells.lookup x=some c:=fun x c e=>QfT scope.names [] (fun q=>by cases q) fc e
  have old:∀ b u,s.heap.get? b=some u→(pushCells (s.heap.push { cls := .type "dict",data := .dict #[] }) scope.names).get? b=some u:=fun b u e=>pushCells_keeps _ _ b u (Heap.get?_push_of_some _ e)
  have hn:(pushCells (s.heap.push { cls := .type "dict",data := .dict #[] }) scope.names).Ns s.heap.objs.size (fun _=>none):=(Heap.Ns.new s.heap (.type "dict")).keeps (pushCells_keeps _ _)
  have clt:∀ x c,(clos X.env scope.names []).lookup x=some c→c < s.heap.objs.size:=fun x c e=>by
    obtain ⟨v,hv⟩:=I.cell x c (cof x c e)
    exact hv.lt
  have getC:∀ x c,(cellsFrom (s.heap.objs.size + 1) scope.names (clos X.env scope.names [])).lookup x=some c→(clos X.env scope.names []).lookup x=some c∨(s.heap.objs.size + 1≤c∧(pushCells (s.heap.push { cls := .type "dict",data := .dict #[] }) scope.names).IsCell c none):=fun x c e=>by
    have:=Qib (x:=x) (c:=c) scope.names (s.heap.push { cls := .type "dict",data := .dict #[] }) (clos X.env scope.names [])
    rw [Heap.size_push] at this
    exact this e
  have injC:=Qia scope.names (s.heap.objs.size + 1) (clos X.env scope.names []) (fun x c e=>Nat.lt_succ_of_lt (clt x c e)) (fun x y c h1 h2=>I.ok.inj x y c (cof x c h1) (cof y c h2))
  have fsub:∀ b∈frs X.stack,b∈X.env.locals :: X.fs:=I.stkSub
  refine ⟨⟨I.ok.mod,ck.kind,I.ok.glob,I.ok.blt,Nat.le_refl _,injC,fun x hx => ?_,fun x c hx e => ?_,fun z=>I.ok.hd z,I.ok.frames,.inl rfl,fun b hb => ?_,I.bs,Nat.le_trans I.ok.bsz I.sz,fun b u e hb => ?_,fun b hb z => ?_,I.stack,I.stkFree⟩,
    rfl,I.bare,Un.kept old,⟨_,hn,fun i x v h1 h2 h3 => ?_⟩,fun x c e => ?_,I.hok.fresh (Nat.le_refl _),fun x c e => ?_,fun p hp => ?_,I.hok.kept old,?_⟩
  · -- has
    have hx:(Zl X.env.scope scope).names.lookup x=some .cell∨(Zl X.env.scope scope).names.lookup x=some .free:=hx
    have hm:scope.names.lookup x=some NameKind.cell∨scope.names.lookup x=some NameKind.free:=by
      rcases hx with hx | hx
      · exact QcP scope.names _ (.inl rfl) hx
      · exact QcP scope.names _ (.inr rfl) hx
    rcases hm with hm | hm
    · exact Option.isSome_iff_exists.mp (PySem.W.cellsFrom_some scope.names _ _ (.inl hm))
    · have hmem:=PySem.mem_of_lookup hm
      obtain ⟨c,hcx⟩:=fc _ hmem rfl
      exact Option.isSome_iff_exists.mp (PySem.W.cellsFrom_some scope.names _ _ (.inr (by rw [Qct scope.names [] (.inl hmem) fc,hcx];rfl)))
  · -- cab
    have hx:(scope.names.lookup x==some NameKind.cell)=true:=hx
    have hx:=beq_iff_eq.mp hx
    rcases getC x c e with z | z
    · exfalso
      rcases Qeu scope.names [] z with q | q
      · exact ck.nd _ (PySem.mem_of_lookup hx) q
      · cases q
    · exact Nat.le_of_succ_le z.1
  · -- exf
    obtain ⟨_,f1,f2,f3,f4,_⟩:=hf b hb
    refine ⟨Nat.ne_of_lt (hlt b hb),fun x c e => ?_⟩
    rcases getC x c e with z | z
    · exact f4 x c (cof x c z)
    · exact fun q=>by
        have:=hlt b hb
        rw [← q] at this
        exact absurd (Nat.lt_of_lt_of_le (Nat.lt_succ_self _) z.1) (Nat.not_lt.mpr (Nat.le_of_lt this))
  · -- noex
    obtain ⟨_,f1,f2,f3,f4,_⟩:=hf b hb
    rcases f3 with z | z
    · exact I.ok.noex b u e z
    · exact absurd (Nat.lt_of_lt_of_le (Heap.lt_size e) (Nat.le_trans I.ok.bsz z)) (Nat.lt_irrefl _)
  · -- exfs
    obtain ⟨_,f1,f2,_⟩:=hf b hb
    rcases List.mem_cons.mp (fsub b z) with q | q
    · exact f1 q
    · exact f2 q
  · -- loc
    have h2:(XQ nt caps σ)[i]?=some (some v):=h2
    have h1:N'[i]?=some x:=h1
    unfold XQ at h2
    by_cases hi:i < nt
    · rw [List.getElem?_append_left (by simpa using hi),List.getElem?_replicate,if_pos hi] at h2
      cases h2
    · rw [List.getElem?_append_right (by simpa using hi),List.length_replicate,List.getElem?_map] at h2
      cases ej:caps[i - nt]? with
      | none=>rw [ej] at h2;cases h2
      | some j =>
        rw [ej] at h2
        have h2:(σ[j]?).getD none=some v:=Option.some.inj h2
        have h2':σ[j]?=some (some v):=by
          cases eq:σ[j]? with
          | none=>rw [eq] at h2;cases h2
          | some y=>rw [eq] at h2;exact congrArg some h2
        have hz:(j,x)∈caps.zip (N'.drop nt):=by
          refine List.mem_of_getElem? (i:=i - nt) ?_
          rw [List.getElem?_zip_eq_some]
          refine ⟨ej,?_⟩
          rw [List.getElem?_drop,show nt + (i - nt)=i by omega]
          exact h1
        obtain ⟨hN,hfr⟩:=ck.cap _ hz
        have hfr:scope.names.lookup x=some NameKind.free:=hfr
        have hmem:=PySem.mem_of_lookup hfr
        have hk:=ck.free _ hmem rfl
        have hk:X.env.scope.names.lookup x=some .cell∨X.env.scope.names.lookup x=some .free:=hk
        have hnc:(x,NameKind.cell)∉scope.names:=fun q=>ck.nd _ q hmem
        obtain ⟨m0,hn0,hl0⟩:=I.loc
        obtain ⟨u,ru,lk⟩:=hl0 j x v hN h2' (.inr hk)
        refine ⟨u,ru,?_⟩
        rcases lk with ⟨k0,_⟩ | ⟨_,c,ec,zc⟩
        · have k0:X.env.scope.names.lookup x=some .local:=k0
          rcases hk with hk | hk <;> (rw [k0] at hk;cases hk)
        · refine .inr ⟨?_,c,((QhZ scope.names _ _ hnc).trans (Qct scope.names [] (.inl hmem) fc)).trans ec,?_⟩
          · have h3:(Zl X.env.scope scope).names.lookup x=some .local∨(Zl X.env.scope scope).names.lookup x=some .cell∨(Zl X.env.scope scope).names.lookup x=some .free:=h3
            rcases h3 with h3 | h3 | h3
            · rcases QbF hfr h3 with z | z <;> cases z
            · exact .inl h3
            · exact .inr h3
          · obtain ⟨ob,ho,hd⟩:=zc
            exact ⟨ob,old c ob ho,hd⟩
  · -- cell
    rcases getC x c e with z | z
    · obtain ⟨v,ob,ho,hd⟩:=I.cell x c (cof x c z)
      exact ⟨v,ob,old c ob ho,hd⟩
    · exact ⟨none,z.2⟩
  · -- freeC
    rcases getC x c e with z | z
    · exact I.freeC x c (cof x c z)
    · exact I.hok.fresh (Nat.le_of_succ_le z.1)
  · -- pin
    have hp':p∈X.pn++pins:=by
      rcases List.mem_append.mp hp with z | z
      · exact z
      · cases z
    obtain ⟨e,n,ne,nf,d⟩:=I.pin p hp'
    refine ⟨old _ _ e,n,Nat.ne_of_lt (Heap.lt_size e),fun z => ?_,d⟩
    rcases List.mem_cons.mp (fsub p.1 z) with q | q
    · exact ne q
    · exact nf q
  · -- len
    show (XQ nt caps σ).length=N'.length
    unfold XQ
    rw [ck.len]
    simp
end
section
variable {X:Cx} {pins:List (Addr×Obj)} {σ:St} {H:Hp} {s:Shared} {scope:Scope} {N':List Str} {nt:Nat} {caps:List Nat} {fp:List Addr} {tg iter elt:Expr} {ifs:List Expr} {pos:Pos}
theorem Qfi {J:It} {it:Addr} {tn:Nat→Heap→Prop} {g:TG} {tc:TT} {te:TE} {Qd:Addr→Hp→Prop} {RR:Value→Addr→Result→Shared→Prop} {E:Value→Shared→Prop}
    (I:Inv X pins σ H s) (hc:X.calm=true) (ck:CompOkC X.N X.env.scope scope N' nt caps) (hrel:relabel scope X.env=Zl X.env.scope scope)
    (T:Turn X.prog X.w X.K tg J fp it tn) (h0:tn 0 s.heap) (hf:∀ b∈fp,FpOk X pins H b)
    (hg:∀ pins cl C s H fp,PG (Xv X (ownC scope) pins N' (Zl X.env.scope scope) cl C s H fp) tg g)
    (ht:∀ pins cl C s H fp,PIfs (Xv X (ownC scope) pins N' (Zl X.env.scope scope) cl C s H fp) ifs tc)
    (he:∀ pins cl C s H fp,PE (Xv X (ownC scope) pins N' (Zl X.env.scope scope) cl C s H fp) elt te)
    (rd:QeV J nt caps g tc te σ H Qd)
    (hRR:∀ D C s' H',Inv X pins σ H' s'→(∃ m,s'.heap.Ns C m)→FpOk X pins H' C→Qd D H'→RR (.ref D) C (.ok .next) s') :
    wpAny (model X.prog X.w) X.A (newList []) (fun acc s₃=>wpAny (model X.prog X.w) X.A (newFunctionEnv scope X.env.globals (clos X.env scope.names []) [] X.env.qual none .none (some X.env)) (fun cenv s₄ =>
      codeAny (model X.prog X.w) X.A (.compStart (.ListComp elt [⟨tg,iter,ifs,0⟩] scope pos) 0 (.ref it) acc { cenv with scope:=relabel scope X.env }) (RR acc cenv.locals) s₄) E s₃) E s:=by
  have hD:H s.heap.objs.size=none:=I.fresh
  obtain ⟨W,⟨m0,w0⟩,turn⟩:=rd s.heap.objs.size hD
  refine wpAny_newObj_type (newEnvC ?_)
  rw [hrel]
  dsimp only
  have I3:Inv X pins σ (upd H s.heap.objs.size (.lst [])) { s with heap:=s.heap.push { cls := .type "list",data := .seq ([]:List Value).toArray } }:=I.lnew (t':=s.toks) .nil (Nat.zero_le _)
  have hlt:∀ b∈fp,b < s.heap.objs.size:=fun b hb=>by
    obtain ⟨o,e,_⟩:=T.obj 0 _ h0 b hb
    exact Heap.lt_size e
  have hf3:∀ b∈fp,FpOk X pins (upd H s.heap.objs.size (.lst [])) b:=fun b hb=>by
    obtain ⟨f0,f⟩:=hf b hb
    exact ⟨by rw [Ql (Nat.ne_of_lt (hlt b hb))];exact f0,f⟩
  have hlt3:∀ b∈fp,b < (s.heap.push { cls := .type "list",data := .seq ([]:List Value).toArray }).objs.size:=fun b hb=>by
    rw [Heap.size_push]
    exact Nat.lt_succ_of_lt (hlt b hb)
  have IB:=blk_invC (tk:=s.toks) I3 hc ck hf3 hlt3
  have keep1:∀ b o,s.heap.get? b=some o→(pushCells ((s.heap.push { cls := .type "list",data := .seq ([]:List Value).toArray }).push { cls := .type "dict",data := .dict #[] }) scope.names).get? b=some o:=fun b o e=>pushCells_keeps _ _ b o (Heap.get?_push_of_some _ (Heap.get?_push_of_some _ e))
  have st1:tn 0 (pushCells ((s.heap.push { cls := .type "list",data := .seq ([]:List Value).toArray }).push { cls := .type "dict",data := .dict #[] }) scope.names):=T.keep _ _ _ h0 fun b _ o e=>keep1 b o e
  have hg':=hg pins (cellsFrom ((s.heap.push { cls := .type "list",data := .seq ([]:List Value).toArray }).objs.size + 1) scope.names (clos X.env scope.names [])) (s.heap.push { cls := .type "list",data := .seq ([]:List Value).toArray }).objs.size { s with heap:=s.heap.push { cls := .type "list",data := .seq ([]:List Value).toArray } } (upd H s.heap.objs.size (.lst [])) fp
  have ht':=ht pins (cellsFrom ((s.heap.push { cls := .type "list",data := .seq ([]:List Value).toArray }).objs.size + 1) scope.names (clos X.env scope.names [])) (s.heap.push { cls := .type "list",data := .seq ([]:List Value).toArray }).objs.size { s with heap:=s.heap.push { cls := .type "list",data := .seq ([]:List Value).toArray } } (upd H s.heap.objs.size (.lst [])) fp
  have he':=he pins (cellsFrom ((s.heap.push { cls := .type "list",data := .seq ([]:List Value).toArray }).objs.size + 1) scope.names (clos X.env scope.names [])) (s.heap.push { cls := .type "list",data := .seq ([]:List Value).toArray }).objs.size { s with heap:=s.heap.push { cls := .type "list",data := .seq ([]:List Value).toArray } } (upd H s.heap.objs.size (.lst [])) fp
  have hY:∃ Y:Cx,Y=Xv X (ownC scope) pins N' (Zl X.env.scope scope) (cellsFrom ((s.heap.push { cls := .type "list",data := .seq ([]:List Value).toArray }).objs.size + 1) scope.names (clos X.env scope.names [])) (s.heap.push { cls := .type "list",data := .seq ([]:List Value).toArray }).objs.size { s with heap:=s.heap.push { cls := .type "list",data := .seq ([]:List Value).toArray } } (upd H s.heap.objs.size (.lst [])) fp:=⟨_,rfl⟩
  obtain ⟨Y,eY⟩:=hY
  have eP:Y.prog=X.prog:=by rw [eY];rfl
  have eW:Y.w=X.w:=by rw [eY];rfl
  have eK:Y.K=X.K:=by rw [eY];rfl
  have eA:Y.A=X.A:=by rw [eY];rfl
  have eC:Y.calm=true:=by rw [eY];exact hc
  have eE:Y.xe=fun _ _=>False:=by rw [eY];rfl
  have eEnv:Y.env=blkEnv X.env (Zl X.env.scope scope) (cellsFrom ((s.heap.push { cls := .type "list",data := .seq ([]:List Value).toArray }).objs.size + 1) scope.names (clos X.env scope.names [])) (s.heap.push { cls := .type "list",data := .seq ([]:List Value).toArray }).objs.size:=by rw [eY];rfl
  have back:∀ {H':Hp} {s':Shared},Inv Y [] (XQ nt caps σ) H' s'→Inv X pins σ H' s'∧(∃ m,s'.heap.Ns (s.heap.push { cls := .type "list",data := .seq ([]:List Value).toArray }).objs.size m)∧FpOk X pins H' (s.heap.push { cls := .type "list",data := .seq ([]:List Value).toArray }).objs.size:=by
    intro H' s' IY
    subst eY
    refine ⟨I3.call' (ch:=fp) IY.os IY.base IY.hok IY.bare fun b hb => ?_,?_,I3.fpOk (Nat.le_refl _) IY.free⟩
    · obtain ⟨_,f1,_,f3,f4,f5⟩:=hf b hb
      exact ⟨f3,f1,f4,f5⟩
    · obtain ⟨m,hn,_⟩:=IY.loc
      exact ⟨m,hn⟩
  have fpY:∀ {H':Hp},(∀ b∈fp,H' b=none)→∀ b∈fp,FpOk Y [] H' b:=by
    intro H' hn b hb
    subst eY
    obtain ⟨_,f1,f2,f3,f4,f5⟩:=hf b hb
    refine ⟨hn b hb,Nat.ne_of_lt (hlt3 b hb),IB.ok.exfs b hb,.inl hb,(IB.ok.exf b hb).2,fun p hp => ?_⟩
    rcases List.mem_append.mp hp with z | z
    · exact f5 p z
    · cases z
  have IB:Inv Y [] (XQ nt caps σ) (upd H s.heap.objs.size (.lst [])) { s with heap:=(pushCells ((s.heap.push { cls := .type "list",data := .seq ([]:List Value).toArray }).push { cls := .type "dict",data := .dict #[] }) scope.names),toks:=s.toks }:=by rw [eY];exact IB
  rw [← eY] at hg' ht' he'
  have loop:∀ s₃:Shared,s₃={ s with heap:=(pushCells ((s.heap.push { cls := .type "list",data := .seq ([]:List Value).toArray }).push { cls := .type "dict",data := .dict #[] }) scope.names),toks:=s.toks } →
      codeAny (model X.prog X.w) X.A (.compLoop (.ListComp elt [⟨tg,iter,ifs,0⟩] scope pos) 0 (.ref it) (.ref s.heap.objs.size) Y.env) (RR (.ref s.heap.objs.size) (s.heap.push { cls := .type "list",data := .seq ([]:List Value).toArray }).objs.size) s₃:=by
    rintro s₃ rfl
    refine QgA (fun n s'=>∃ i xs H',Inv Y [] (XQ nt caps σ) H' s'∧tn i s'.heap∧(∀ b∈fp,H' b=none)∧W i n xs H') ?_ m0 ⟨0,[],_,IB,st1,fun b hb=>(hf3 b hb).1,w0⟩
    rintro n s4 ⟨i,xs,H4,I4,st4,fr4,w4⟩
    rcases turn i n xs H4 w4 with ⟨stop,q⟩ | ⟨go,step⟩
    · have z:=T.done Y eP eW eK eC i [] s4 _ H4 (fun _ _=>False) I4 (fpY fr4) st4 stop
      rw [eA] at z
      refine thn z fun r s5 ⟨hr,I5⟩ => ?_
      subst hr
      obtain ⟨a1,a2,a3⟩:=back I5
      exact hRR _ _ s5 H4 a1 a2 a3 q
    · have z:=T.item Y eP eW eK eC i [] s4 _ H4 (fun _ _=>False) I4 (fpY fr4) st4 go
      rw [eA] at z
      refine thn z fun r s5 ⟨u,hr,h5⟩ => ?_
      subst hr
      refine thn h5 fun _ s6 ⟨x,H6,I6,r6,y6,st6,fr6⟩ => ?_
      have I6':=I6.pinned (fpY fr6) (T.obj _ _ st6)
      have again:∀ {σ7:St} {H7:Hp} {s7:Shared} {xs':List V},Inv Y ([]++QeP fp s6.heap) σ7 H7 s7→StExt (XQ nt caps σ) σ7→(∃ m',m' < n∧W (i + 1) m' xs' H7) →
          ∃ m,m < n∧∃ i xs H',Inv Y [] (XQ nt caps σ) H' s7∧tn i s7.heap∧(∀ b∈fp,H' b=none)∧W i m xs H':=fun {σ7 H7 s7 xs'} I7 ex ⟨m',hm,w7⟩=>by
        refine ⟨m',hm,i + 1,xs',H7,(I7.unpinned).weak ex.1.symm ex.2,T.keep _ _ _ st6 fun b hb o e=>(I7.pin (b,o) (List.mem_append_right _ (List.mem_append_right _ (Qau hb e)))).1,fun b hb => ?_,w7⟩
        obtain ⟨o,e,d⟩:=T.obj _ _ st6 b hb
        exact (I7.pin (b,o) (List.mem_append_right _ (List.mem_append_right _ (Qau hb e)))).2.1
      have z2:=hg' _ s6 _ H6 x u _ I6' r6 (step x H6 y6)
      rw [eP,eW,eA,eE] at z2
      refine thn z2 fun _ s7 ⟨σ7,H7,I7,ex7,q7⟩ => ?_
      have z3:=ht' _ s7 σ7 H7 _ I7 q7
      rw [eP,eW,eA,eE] at z3
      refine thn z3 fun b s8 ⟨H8,I8,q8⟩ => ?_
      cases b with
      | false =>
        rw [if_neg Bool.false_ne_true] at q8 ⊢
        exact again I8 ex7 q8
      | true =>
        rw [if_pos rfl] at q8 ⊢
        have z4:=he' _ s8 σ7 H8 _ I8 q8
        rw [eP,eW,eA,eE] at z4
        refine thn z4 fun xv s9 ⟨v,H9,I9,r9,hD9,hl9,q9⟩ => ?_
        have z5:=Ze (X:=Y) _ s9 σ7 H9 (.ref s.heap.objs.size) [v] (.ref s.heap.objs.size) [xv] (fun _ H'=>∃ m',m' < n∧W (i + 1) m' (xs++[v]) H') I9 rfl (.cons r9 .nil) ⟨_,xs,v,rfl,rfl,hD9,hl9,q9⟩
        rw [eP,eW,eA,eE] at z5
        refine thn z5 fun _ s10 ⟨_,H10,I10,_,q10⟩ => ?_
        exact again I10 ex7 q10
  rw [eEnv] at loop
  refine codeAny_compStart_list (loop _ rfl) (T.self _ 0 _ _ _ st1 (loop _ rfl))

end
theorem CompOk.C {N:List Str} {osc scope:Scope} {N':List Str} {nt:Nat} {caps:List Nat} (ck:CompOk N osc scope N' nt caps):CompOkC N osc scope N' nt caps:=⟨ck.kind,fun x q=>absurd rfl (ck.nocell _ q),ck.locs,ck.free,ck.len,ck.cap⟩
theorem CompOk.eqC {N:List Str} {osc scope:Scope} {N':List Str} {nt:Nat} {caps:List Nat} (ck:CompOk N osc scope N' nt caps) (X:Cx):Xv X (ownC scope)=Qay X:=by
  have own:ownC scope=fun _=>false:=funext fun x=>by
    show (scope.names.lookup x==some NameKind.cell)=false
    rw [beq_eq_false_iff_ne]
    exact fun q=>ck.nocell _ (PySem.mem_of_lookup q) rfl
  rw [own];rfl
section
variable {X:Cx} {pins:List (Addr×Obj)} {σ:St} {H:Hp} {s:Shared} {scope:Scope} {N':List Str} {nt:Nat} {caps:List Nat} {fp:List Addr} {tg iter elt:Expr} {ifs:List Expr} {pos:Pos}
theorem comp_run {J:It} {it:Addr} {tn:Nat→Heap→Prop} {g:TG} {tc:TT} {te:TE} {Qd:Addr→Hp→Prop} {RR:Value→Addr→Result→Shared→Prop} {E:Value→Shared→Prop}
    (I:Inv X pins σ H s) (hc:X.calm=true) (ck:CompOk X.N X.env.scope scope N' nt caps) (hrel:relabel scope X.env=Zl X.env.scope scope)
    (T:Turn X.prog X.w X.K tg J fp it tn) (h0:tn 0 s.heap) (hf:∀ b∈fp,FpOk X pins H b)
    (hg:∀ pins cl C s H fp,PG (Qay X pins N' (Zl X.env.scope scope) cl C s H fp) tg g)
    (ht:∀ pins cl C s H fp,PIfs (Qay X pins N' (Zl X.env.scope scope) cl C s H fp) ifs tc)
    (he:∀ pins cl C s H fp,PE (Qay X pins N' (Zl X.env.scope scope) cl C s H fp) elt te)
    (rd:QeV J nt caps g tc te σ H Qd)
    (hRR:∀ D C s' H',Inv X pins σ H' s'→(∃ m,s'.heap.Ns C m)→FpOk X pins H' C→Qd D H'→RR (.ref D) C (.ok .next) s') :
    wpAny (model X.prog X.w) X.A (newList []) (fun acc s₃=>wpAny (model X.prog X.w) X.A (newFunctionEnv scope X.env.globals (clos X.env scope.names []) [] X.env.qual none .none (some X.env)) (fun cenv s₄ =>
      codeAny (model X.prog X.w) X.A (.compStart (.ListComp elt [⟨tg,iter,ifs,0⟩] scope pos) 0 (.ref it) acc { cenv with scope:=relabel scope X.env }) (RR acc cenv.locals) s₄) E s₃) E s:=by
  have e:=ck.eqC X
  exact Qfi I hc ck.C hrel T h0 hf (by rw [e];exact hg) (by rw [e];exact ht) (by rw [e];exact he) rd hRR
theorem FpOk.turn {H':Hp} {s':Shared} {C:Addr} {h':Heap} (I:Inv X pins σ H' s') (f:FpOk X pins H' C) (hs:Heap.SameBut C s'.heap h'):Inv X pins σ H' { s' with heap:=h' }:=by
  obtain ⟨f0,f1,f2,f3,f4,f5⟩:=f
  exact I.turned (t':=s'.toks) (fun b o hb e=>hs.extBut b o hb e) f0 f1 f3 f4 f5
noncomputable def tComp (wi:TI) (nt:Nat) (caps:List Nat) (g:TG) (tc:TT) (te:TE):TE:=fun σ H Q=>wi σ H fun J H1=>QeV J nt caps g tc te σ H1 fun D H2=>Q (.ref D) H2
variable {wi:TI} {g:TG} {tc:TT} {te:TE}
theorem pe_comp (hc:X.calm=true) (ck:CompOk X.N X.env.scope scope N' nt caps) (hi:PI X tg iter wi)
    (hg:∀ pins cl C s H fp,PG (Qay X pins N' (Zl X.env.scope scope) cl C s H fp) tg g)
    (ht:∀ pins cl C s H fp,PIfs (Qay X pins N' (Zl X.env.scope scope) cl C s H fp) ifs tc)
    (he:∀ pins cl C s H fp,PE (Qay X pins N' (Zl X.env.scope scope) cl C s H fp) elt te)
    (hs:∀ x,foldedSetIterable iter X.env x=pure x:=by intro _;rfl) (hrel:relabel scope X.env=Zl X.env.scope scope:=by rfl) :
    PE X (.ListComp elt [⟨tg,iter,ifs,0⟩] scope pos) (tComp wi nt caps g tc te):=by
  intro pins s σ H Q I h
  rw [eval_ListComp]
  refine wpAny_comprehension_free (use:=none) rfl hs (Qbl (Qje I ck)) ck.kind ck.locs (thn (hi pins s σ H _ I h) fun xv s₁ h₁=>thn h₁ fun itv s₂ h₂ => ?_)
  obtain ⟨it,fp,tn,J,H2,e,I2,T,st2,f2,rd⟩:=h₂
  subst e
  refine comp_run (RR:=fun acc C=>compPost (model X.prog X.w) X.A X.xe none (EP X pins σ Q) acc C) I2 hc ck hrel T st2 f2 hg ht he rd ?_
  intro D C s' H' I' hm f q
  obtain ⟨m,hm⟩:=hm
  exact ⟨m,hm,fun h' hs'=>⟨.ref D,H',FpOk.turn I' f hs',rfl,q⟩⟩
noncomputable def sSetComp (i:Nat) (wi:TI) (nt:Nat) (caps:List Nat) (g:TG) (tc:TT) (te:TE):TS:=fun D σ H=>wi σ H fun J H1=>QeV J nt caps g tc te σ H1 fun d H2=>D.nx (σ.set i (some (.ref d))) H2
theorem Qgn {i:Nat} {y:Str} {py spos:Pos} (hN:X.N.Nodup) (hi':X.N[i]?=some y) (hy:X.env.scope.names.lookup y=some .local) (hc:X.calm=true) (ck:CompOkC X.N X.env.scope scope N' nt caps) (hi:PI X tg iter wi)
    (hg:∀ pins cl C s H fp,PG (Xv X (ownC scope) pins N' (Zl X.env.scope scope) cl C s H fp) tg g)
    (ht:∀ pins cl C s H fp,PIfs (Xv X (ownC scope) pins N' (Zl X.env.scope scope) cl C s H fp) ifs tc)
    (he:∀ pins cl C s H fp,PE (Xv X (ownC scope) pins N' (Zl X.env.scope scope) cl C s H fp) elt te)
    (hsw:swapsWith (.ListComp elt [⟨tg,iter,ifs,0⟩] scope pos) (some (.Name y py)) spos.line X.env=pure true:=by rfl)
    (hs:∀ x,foldedSetIterable iter X.env x=pure x:=by intro _;rfl) (hrel:relabel scope X.env=Zl X.env.scope scope:=by rfl) :
    PS X (.Assign [.Name y py] (.ListComp elt [⟨tg,iter,ifs,0⟩] scope pos) spos) (sSetComp i wi nt caps g tc te):=by
  intro pins s σ H D I h
  rw [exec_Assign_Name_used _ _ _ _ hsw]
  refine wpAny_bind (wpAny_standAt (wpAny_bind ?_))
  show wpAny _ X.A (do let _ ← comprehension (.ListComp elt [⟨tg,iter,ifs,0⟩] scope pos) scope X.env _ (newList []) false (eval iter X.env) (some (assign (.Name y py) X.env))) _ _ s
  refine wpAny_bind (wpAny_mono (wpAny_comprehension_free (use:=some (assign (.Name y py) X.env)) (Q:=fun _ s'=>SP X pins D .next s') rfl hs (Qbl (QdV I ck)) ck.kind ck.locs
    (thn (hi pins s σ H _ I h) fun xv s₁ h₁=>thn h₁ fun itv s₂ h₂ => ?_)) (fun _ s' hq=>wpAny_pure (wpAny_pure hq)) fun _ _ e=>e)
  obtain ⟨it,fp,tn,J,H2,e,I2,T,st2,f2,rd⟩:=h₂
  subst e
  refine Qfi (RR:=fun acc C=>compPost (model X.prog X.w) X.A X.xe (some (assign (.Name y py) X.env)) (fun _ s'=>SP X pins D .next s') acc C) I2 hc ck hrel T st2 f2 hg ht he rd ?_
  intro d C s' H' I' hm f q
  obtain ⟨m,hm⟩:=hm
  show wpAny _ X.A (assign (.Name y py) X.env (.ref d)) _ _ s'
  refine wpAny_assign_Name (QeX I' hN hi' (.inl hy) (show RelV (.ref d) (.ref d) from rfl) (fun s'' I'' hs'' => ?_) (.inr hy))
  obtain ⟨a,sb,ha⟩:=hs''
  have hCa:C≠a:=by
    rcases ha with ha | ha
    · rw [ha];exact f.2.1
    · exact fun z=>f.2.2.2.2.1 _ _ ha z.symm
  exact ⟨m,hm.sameBut sb hCa,fun h' hs'=>⟨_,H',FpOk.turn I'' f hs',q⟩⟩
end
end L2.PM

noncomputable section
namespace L2.PM
open PySem PySem.Spec PyProof.Rows

inductive PV where
  | non | bl (b:Bool) | int (i:Int) | str (x:Str) | tup (xs:List PV) | lst (xs:List PV) | obj (C:Addr) (ks:List Str) (ps:List PV) | opq (a:Addr)

mutual
noncomputable def Rep (K:PySem.W.Frag) (F:Hp):PV→V→Prop
  | .non,v=>v = .non
  | .bl b,v=>v = .bl b
  | .int i,v=>v = .int i
  | .str x,v=>v = .str x
  | .tup xs,v=>∃ a vs,v = .ref a∧SqT K F a vs∧RepL K F xs vs
  | .lst xs,v=>∃ a vs,v = .ref a∧SqL K F a vs∧RepL K F xs vs
  | .obj C ks ps,v=>∃ a dx vs,v = .ref a∧F a=some (.ins C dx (ks.zip vs))∧F dx=some (.own a)∧ks.length=vs.length∧RepL K F ps vs
  | .opq a,v=>v = .ref a
noncomputable def RepL (K:PySem.W.Frag) (F:Hp):List PV→List V→Prop
  | [],vs=>vs=[]
  | x :: xs,vs=>∃ v r,vs=v :: r∧Rep K F x v∧RepL K F xs r
end

theorem _root_.L2.Same.seqT {K:PySem.W.Frag} {H H':Hp} {a:Addr} {xs:List V} (e:Same H H') (h:SqT K H a xs):SqT K H' a xs:=by
  rcases h with (h | ⟨o,h⟩) | h
  · exact .inl (.inl (e _ _ h))
  · exact .inl (.inr ⟨o,e _ _ h⟩)
  · exact .inr h

section
variable {K:PySem.W.Frag} {F F':Hp}
mutual
theorem Rep.mono (e:Same F F'):∀ {p:PV} {v:V},Rep K F p v→Rep K F' p v
  | .non,_,h=>h
  | .bl _,_,h=>h
  | .int _,_,h=>h
  | .str _,_,h=>h
  | .tup xs,_,h=>by
    unfold Rep at h ⊢
    obtain ⟨a,vs,h1,h2,h3⟩:=h
    exact ⟨a,vs,h1,e.seqT h2,RepL.mono e h3⟩
  | .lst xs,_,h=>by
    unfold Rep at h ⊢
    obtain ⟨a,vs,h1,h2,h3⟩:=h
    exact ⟨a,vs,h1,e.seq h2,RepL.mono e h3⟩
  | .obj C ks ps,_,h=>by
    unfold Rep at h ⊢
    obtain ⟨a,dx,vs,h1,h2,h3,h4,h5⟩:=h
    exact ⟨a,dx,vs,h1,e _ _ h2,e _ _ h3,h4,RepL.mono e h5⟩
  | .opq _,_,h=>h
theorem RepL.mono (e:Same F F'):∀ {ps:List PV} {vs:List V},RepL K F ps vs→RepL K F' ps vs
  | [],_,h=>h
  | x :: xs,_,h=>by
    unfold RepL at h ⊢
    obtain ⟨v,r,h1,h2,h3⟩:=h
    exact ⟨v,r,h1,Rep.mono e h2,RepL.mono e h3⟩
end
theorem RepL.nil:RepL K F [] []:=by unfold RepL;rfl
theorem RepL.cons {p:PV} {v:V} {ps:List PV} {vs:List V} (h:Rep K F p v) (t:RepL K F ps vs):RepL K F (p :: ps) (v :: vs):=by
  unfold RepL
  exact ⟨v,vs,rfl,h,t⟩
theorem RepL.length:∀ {ps:List PV} {vs:List V},RepL K F ps vs→vs.length=ps.length
  | [],_,h=>by unfold RepL at h;subst h;rfl
  | x :: xs,_,h=>by
    unfold RepL at h
    obtain ⟨v,r,rfl,_,h3⟩:=h
    simp [RepL.length h3]
theorem RepL.get:∀ {ps:List PV} {vs:List V} {i:Nat} {p:PV},RepL K F ps vs→ps[i]?=some p→∃ v,vs[i]?=some v∧Rep K F p v
  | [],_,_,_,_,e=>by simp at e
  | x :: xs,_,i,p,h,e=>by
    unfold RepL at h
    obtain ⟨v,r,rfl,h2,h3⟩:=h
    cases i with
    | zero=>simp at e;subst e;exact ⟨v,rfl,h2⟩
    | succ i =>
      obtain ⟨u,e1,e2⟩:=RepL.get (i:=i) h3 (by simpa using e)
      exact ⟨u,by simpa using e1,e2⟩
theorem RepL.back {ps:List PV} {vs:List V} {i:Nat} {v:V} (h:RepL K F ps vs) (e:vs[i]?=some v):∃ p,ps[i]?=some p∧Rep K F p v:=by
  cases q:ps[i]? with
  | none =>
    have h1:ps.length≤i:=List.getElem?_eq_none_iff.mp q
    have h2:i < vs.length:=(List.getElem?_eq_some_iff.mp e).1
    rw [h.length] at h2
    omega
  | some p =>
    obtain ⟨u,e1,e2⟩:=h.get q
    rw [e] at e1
    cases e1
    exact ⟨p,rfl,e2⟩
theorem RepL.append:∀ {ps qs:List PV} {vs us:List V},RepL K F ps vs→RepL K F qs us→RepL K F (ps++qs) (vs++us)
  | [],_,_,_,h,t=>by unfold RepL at h;subst h;exact t
  | x :: xs,_,_,_,h,t=>by
    unfold RepL at h
    obtain ⟨v,r,rfl,h2,h3⟩:=h
    exact .cons h2 (RepL.append h3 t)
theorem RepL.snoc {ps:List PV} {vs:List V} {p:PV} {v:V} (h:RepL K F ps vs) (t:Rep K F p v):RepL K F (ps++[p]) (vs++[v]):=h.append (.cons t .nil)
theorem RepL.take:∀ {ps:List PV} {vs:List V} (n:Nat),RepL K F ps vs→RepL K F (ps.take n) (vs.take n)
  | _,_,0,_=>by simpa using RepL.nil
  | [],_,n + 1,h=>by unfold RepL at h;subst h;exact .nil
  | x :: xs,_,n + 1,h=>by
    unfold RepL at h
    obtain ⟨v,r,rfl,h2,h3⟩:=h
    exact .cons h2 (RepL.take n h3)
theorem RepL.drop:∀ {ps:List PV} {vs:List V} (n:Nat),RepL K F ps vs→RepL K F (ps.drop n) (vs.drop n)
  | _,_,0,h=>by simpa using h
  | [],_,n + 1,h=>by unfold RepL at h;subst h;exact .nil
  | x :: xs,_,n + 1,h=>by
    unfold RepL at h
    obtain ⟨v,r,rfl,h2,h3⟩:=h
    simpa using RepL.drop n h3
theorem RepL.set:∀ {ps:List PV} {vs:List V} (i:Nat) {p:PV} {v:V},RepL K F ps vs→Rep K F p v→RepL K F (ps.set i p) (vs.set i v)
  | [],_,_,_,_,h,_=>by unfold RepL at h;subst h;exact .nil
  | x :: xs,_,0,_,_,h,q=>by
    unfold RepL at h
    obtain ⟨v,r,rfl,h2,h3⟩:=h
    exact .cons q h3
  | x :: xs,_,i + 1,_,_,h,q=>by
    unfold RepL at h
    obtain ⟨v,r,rfl,h2,h3⟩:=h
    exact .cons h2 (RepL.set i h3 q)
theorem RepL.reverse {ps:List PV} {vs:List V} (h:RepL K F ps vs):RepL K F ps.reverse vs.reverse:=by
  induction ps generalizing vs with
  | nil=>unfold RepL at h;subst h;exact .nil
  | cons x xs ih =>
    unfold RepL at h
    obtain ⟨v,r,rfl,h2,h3⟩:=h
    rw [List.reverse_cons,List.reverse_cons]
    exact (ih h3).append (.cons h2 .nil)
end

structure Grow (F H F' H':Hp):Prop where
  ext:Same F F'
  sub:Same F' H'
  same:Same H H'
  new:∀ a o,F' a=some o→F a=some o∨H a=none
theorem Grow.refl {F H:Hp} (h:Same F H):Grow F H F H:=⟨Same.refl _,h,Same.refl _,fun _ _ e => .inl e⟩
theorem Grow.trans {F H F1 H1 F2 H2:Hp} (a:Grow F H F1 H1) (b:Grow F1 H1 F2 H2):Grow F H F2 H2 :=
  ⟨a.ext.trans b.ext,b.sub,a.same.trans b.same,fun c o e=>by
    rcases b.new c o e with z | z
    · exact a.new c o z
    · exact .inr (a.same.free z)⟩
theorem Grow.laid {F H:Hp} {p:Addr} {o:HO} (h:Same F H) (n:H p=none):Grow F H (upd F p o) (upd H p o):=by
  have nF:F p=none:=by
    cases q:F p with
    | none=>rfl
    | some u=>rw [h p u q] at n;cases n
  refine ⟨fun a u e => ?_,fun a u e => ?_,fun a u e => ?_,fun a u e => ?_⟩
  · rw [Ql (Qo e nF)];exact e
  · by_cases z:a=p
    · subst z;rw [Qp] at e ⊢;exact e
    · rw [Ql z] at e ⊢;exact h a u e
  · rw [Ql (Qo e n)];exact e
  · by_cases z:a=p
    · subst z;exact .inr n
    · rw [Ql z] at e;exact .inl e
theorem Grow.side {F H:Hp} {p:Addr} {o:HO} (h:Same F H) (n:H p=none):Grow F H F (upd H p o):=by
  refine ⟨Same.refl _,fun a u e => ?_,fun a u e => ?_,fun a u e => .inl e⟩
  · rw [Ql (Qo (h a u e) n)];exact h a u e
  · rw [Ql (Qo e n)];exact e

inductive Slot where
  | un | fz (p:PV) | ow (xs:List PV)
noncomputable abbrev PEnv:=List Slot
noncomputable def Slot.val:Slot→Option PV
  | .un=>none
  | .fz p=>some p
  | .ow xs=>some (.lst xs)
noncomputable def getV (γ:PEnv) (i:Nat):Option PV:=(γ[i]?).bind Slot.val
noncomputable def ERep (K:PySem.W.Frag) (F:Hp) (σ:St) (γ:PEnv) (ms:List Nat):Prop:=∀ i∈ms,∀ p,getV γ i=some p→∃ v,σ[i]?=some (some v)∧Rep K F p v
theorem ERep.mono {K:PySem.W.Frag} {F F':Hp} {σ:St} {γ:PEnv} {ms:List Nat} (h:ERep K F σ γ ms) (e:Same F F'):ERep K F' σ γ ms:=fun i hi p hp=>by
  obtain ⟨v,h1,h2⟩:=h i hi p hp
  exact ⟨v,h1,h2.mono e⟩
theorem ERep.left {K:PySem.W.Frag} {F:Hp} {σ:St} {γ:PEnv} {ms ns:List Nat} (h:ERep K F σ γ (ms++ns)):ERep K F σ γ ms:=fun i hi=>h i (List.mem_append_left _ hi)
theorem ERep.right {K:PySem.W.Frag} {F:Hp} {σ:St} {γ:PEnv} {ms ns:List Nat} (h:ERep K F σ γ (ms++ns)):ERep K F σ γ ns:=fun i hi=>h i (List.mem_append_right _ hi)

noncomputable def Wv (K:PySem.W.Frag) (F H:Hp) (r:PV) (Q:VK):Prop:=∀ v H' F',Grow F H F' H'→Rep K F' r v→Q v H'
noncomputable def Wo (K:PySem.W.Frag) (F H:Hp) (xs:List PV) (Q:VK):Prop:=∀ a vs H' F',Grow F H F' H'→H a=none→F' a=none→H' a=some (.lst vs)→RepL K F' xs vs→Q (.ref a) H'
theorem Wv.go {K:PySem.W.Frag} {F H F' H':Hp} {r:PV} {Q:VK} (w:Wv K F H r Q) (g:Grow F H F' H'):Wv K F' H' r Q:=fun v H2 F2 g2=>w v H2 F2 (g.trans g2)
theorem Wo.go {K:PySem.W.Frag} {F H F' H':Hp} {r:List PV} {Q:VK} (w:Wo K F H r Q) (g:Grow F H F' H'):Wo K F' H' r Q:=fun a vs H2 F2 g2 n=>w a vs H2 F2 (g.trans g2) (g.same.free n)
theorem Wv.of_lst {K:PySem.W.Frag} {F H:Hp} {xs:List PV} {Q:VK} (w:Wv K F H (.lst xs) Q):Wo K F H xs Q:=by
  intro a vs H' F' g n nF e r
  have gx:Same F' (upd F' a (.lst vs)):=fun b u q=>by rw [Ql (Qo q nF)];exact q
  refine w (.ref a) H' (upd F' a (.lst vs)) ⟨g.ext.trans gx,fun b u q => ?_,g.same,fun b u q => ?_⟩ ?_
  · by_cases z:b=a
    · subst z;rw [Qp] at q;rw [e];exact q
    · rw [Ql z] at q;exact g.sub b u q
  · by_cases z:b=a
    · subst z;exact .inr n
    · rw [Ql z] at q;exact g.new b u q
  · unfold Rep
    exact ⟨a,vs,rfl,.of Qp,r.mono gx⟩
theorem Wv.here {K:PySem.W.Frag} {F H:Hp} {r:PV} {Q:VK} {v:V} (w:Wv K F H r Q) (h:Same F H) (q:Rep K F r v):Q v H:=w v H F (.refl h) q

noncomputable abbrev MEx:=PEnv→Option PV
noncomputable def tM (K:PySem.W.Frag) (ms:List Nat) (m:MEx):TE:=fun σ H Q=>∃ F γ r,Same F H∧ERep K F σ γ ms∧m γ=some r∧Wv K F H r Q
noncomputable def tMO (K:PySem.W.Frag) (ms:List Nat) (m:PEnv→Option (List PV)):TE:=fun σ H Q=>∃ F γ r,Same F H∧ERep K F σ γ ms∧m γ=some r∧Wo K F H r Q
noncomputable def tMT (K:PySem.W.Frag) (ms:List Nat) (m:PEnv→Option Bool):TT:=fun σ H Q=>∃ F γ r,Same F H∧ERep K F σ γ ms∧m γ=some r∧∀ H' F',Grow F H F' H'→Q r H'
noncomputable def tMA (K:PySem.W.Frag) (ms:List Nat) (m:PEnv→Option (List PV)):TA:=fun σ H Q=>∃ F γ r,Same F H∧ERep K F σ γ ms∧m γ=some r∧∀ vs H' F',Grow F H F' H'→RepL K F' r vs→Q vs H'
noncomputable def EM (X:Cx) (ms:List Nat) (e:Expr) (m:MEx):Prop:=PE X e (tM X.K ms m)
noncomputable def EO (X:Cx) (ms:List Nat) (e:Expr) (m:PEnv→Option (List PV)):Prop:=PE X e (tMO X.K ms m)
noncomputable def TM (X:Cx) (ms:List Nat) (e:Expr) (m:PEnv→Option Bool):Prop:=PT X e (tMT X.K ms m)
noncomputable def AM (X:Cx) (ms:List Nat) (es:List Expr) (m:PEnv→Option (List PV)):Prop:=PA X es (tMA X.K ms m)

section
variable {X:Cx} {e a b:Expr} {es:List Expr} {ms ns:List Nat} {m m1 m2:MEx} {pos:Pos}
theorem _root_.L2.PE.imp {t t':TE} (h:PE X e t) (i:∀ σ H Q,t' σ H Q→t σ H Q):PE X e t':=fun pins s σ H Q I q=>h pins s σ H Q I (i σ H Q q)
theorem _root_.L2.PT.imp {t t':TT} (h:PT X e t) (i:∀ σ H Q,t' σ H Q→t σ H Q):PT X e t':=fun pins s σ H Q I q=>h pins s σ H Q I (i σ H Q q)
theorem _root_.L2.PA.imp {t t':TA} (h:PA X es t) (i:∀ σ H Q,t' σ H Q→t σ H Q):PA X es t':=fun pos pins s σ H Q I q=>h pos pins s σ H Q I (i σ H Q q)
theorem _root_.L2.PS.imp {st:Stmt} {t t':TS} (h:PS X st t) (i:∀ D σ H,t' D σ H→t D σ H):PS X st t':=fun pins s σ H D I q=>h pins s σ H D I (i D σ H q)

noncomputable def mLst (m:PEnv→Option (List PV)):MEx:=fun γ=>(m γ).map PV.lst
theorem EO.em {m:PEnv→Option (List PV)} (h:EO X ms e m):EM X ms e (mLst m):=PE.imp h fun σ H Q ⟨F,γ,r,h1,h2,h3,w⟩=>by
  unfold mLst at h3
  cases q:m γ with
  | none=>rw [q] at h3;cases h3
  | some xs =>
    rw [q] at h3
    cases h3
    exact ⟨F,γ,xs,h1,h2,q,w.of_lst⟩

noncomputable def mVar (i:Nat):MEx:=fun γ=>getV γ i
noncomputable def mC (p:PV):MEx:=fun _=>some p
theorem Qa (i:Nat) {x:Str} (h:PE X (.Name x pos) (tVar i)):EM X [i] (.Name x pos) (mVar i):=PE.imp h fun σ H Q ⟨F,γ,r,h1,h2,h3,w⟩=>by
  obtain ⟨v,e1,e2⟩:=h2 i (by simp) r h3
  exact ⟨v,e1,w.here h1 e2⟩
theorem Qf {i j pos}:EM X [] (.Constant (.int i) j pos) (mC (.int i)):=PE.imp pe_int fun σ H Q ⟨F,γ,r,h1,h2,h3,w⟩=>by
  cases h3;exact w.here h1 (by unfold Rep;rfl)
theorem Xm {i j pos}:EM X [] (.Constant (.bool i) j pos) (mC (.bl i)):=PE.imp pe_bl fun σ H Q ⟨F,γ,r,h1,h2,h3,w⟩=>by
  cases h3;exact w.here h1 (by unfold Rep;rfl)
theorem Yl {j pos}:EM X [] (.Constant .none j pos) (mC .non):=PE.imp pe_non fun σ H Q ⟨F,γ,r,h1,h2,h3,w⟩=>by
  cases h3;exact w.here h1 (by unfold Rep;rfl)
theorem Qai {i j pos}:EM X [] (.Constant (.str i) j pos) (mC (.str i)):=PE.imp pe_str fun σ H Q ⟨F,γ,r,h1,h2,h3,w⟩=>by
  cases h3;exact w.here h1 (by unfold Rep;rfl)

noncomputable def rM2 (K:PySem.W.Frag) (f:PV→PV→Option PV):R2:=fun x y H Q=>∃ F p q r,Same F H∧Rep K F p x∧Rep K F q y∧f p q=some r∧Wv K F H r Q
noncomputable def rM2O (K:PySem.W.Frag) (f:PV→PV→Option (List PV)):R2:=fun x y H Q=>∃ F p q r,Same F H∧Rep K F p x∧Rep K F q y∧f p q=some r∧Wo K F H r Q
noncomputable def bin2 (f:PV→PV→Option α) (m1 m2:MEx):PEnv→Option α:=fun γ=>(m1 γ).bind fun x=>(m2 γ).bind fun y=>f x y
theorem QfX {K:PySem.W.Frag} {f:PV→PV→Option PV} {σ:St} {H:Hp} {Q:VK} (h:tM K (ms++ns) (bin2 f m1 m2) σ H Q):tOp (rM2 K f) (tM K ms m1) (tM K ns m2) σ H Q:=by
  obtain ⟨F,γ,r,h1,h2,h3,w⟩:=h
  unfold bin2 at h3
  cases e1:m1 γ with
  | none=>rw [e1] at h3;cases h3
  | some x =>
    cases e2:m2 γ with
    | none=>rw [e1,e2] at h3;cases h3
    | some y =>
      rw [e1,e2] at h3
      refine ⟨F,γ,x,h1,h2.left,e1,fun vx H1 F1 g1 r1=>⟨F1,γ,y,g1.sub,h2.right.mono g1.ext,e2,fun vy H2 F2 g2 r2 => ?_⟩⟩
      exact ⟨F2,x,y,r,g2.sub,r1.mono g2.ext,r2,h3,w.go (g1.trans g2)⟩
theorem tOpO_of {K:PySem.W.Frag} {f:PV→PV→Option (List PV)} {σ:St} {H:Hp} {Q:VK} (h:tMO K (ms++ns) (bin2 f m1 m2) σ H Q):tOp (rM2O K f) (tM K ms m1) (tM K ns m2) σ H Q:=by
  obtain ⟨F,γ,r,h1,h2,h3,w⟩:=h
  unfold bin2 at h3
  cases e1:m1 γ with
  | none=>rw [e1] at h3;cases h3
  | some x =>
    cases e2:m2 γ with
    | none=>rw [e1,e2] at h3;cases h3
    | some y =>
      rw [e1,e2] at h3
      refine ⟨F,γ,x,h1,h2.left,e1,fun vx H1 F1 g1 r1=>⟨F1,γ,y,g1.sub,h2.right.mono g1.ext,e2,fun vy H2 F2 g2 r2 => ?_⟩⟩
      exact ⟨F2,x,y,r,g2.sub,r1.mono g2.ext,r2,h3,w.go (g1.trans g2)⟩
noncomputable def OpM (X:Cx) (g:Value→Value→Sem Value) (f:PV→PV→Option PV):Prop:=OpR X g (rM2 X.K f)
noncomputable def OpO (X:Cx) (g:Value→Value→Sem Value) (f:PV→PV→Option (List PV)):Prop:=OpR X g (rM2O X.K f)
theorem Qj {op:Operator} {f:PV→PV→Option PV} (ho:OpM X (binaryOp op) f) (ha:EM X ms a m1) (hb:EM X ns b m2):EM X (ms++ns) (.BinOp a op b pos) (bin2 f m1 m2) :=
  PE.imp (pe_op ho ha hb) fun _ _ _ h=>QfX h
theorem eo_op {op:Operator} {f:PV→PV→Option (List PV)} (ho:OpO X (binaryOp op) f) (ha:EM X ms a m1) (hb:EM X ns b m2):EO X (ms++ns) (.BinOp a op b pos) (bin2 f m1 m2) :=
  PE.imp (pe_op ho ha hb) fun _ _ _ h=>tOpO_of h
theorem YB {op:CmpOp} {f:PV→PV→Option PV} (ho:OpM X (compareOp op) f) (ha:EM X ms a m1) (hb:EM X ns b m2) (hm:behindInMarks op b=false):EM X (ms++ns) (.Compare a [op] [b] pos) (bin2 f m1 m2) :=
  PE.imp (pe_cmpR ho ha hb hm) fun _ _ _ h=>QfX h
theorem QN {f:PV→PV→Option PV} (ho:IxR X (rM2 X.K f)) (ha:EM X ms a m1) (hb:EM X ns b m2) (hs:QiG b):EM X (ms++ns) (.Subscript a b pos) (bin2 f m1 m2) :=
  PE.imp (pe_ix ho ha hb hs) fun _ _ _ h=>QfX h

noncomputable def isB:PV→Option Bool
  | .bl b=>some b
  | _=>none
noncomputable def truB (m:MEx):PEnv→Option Bool:=fun γ=>(m γ).bind isB
theorem tTest_of {K:PySem.W.Frag} {t:TE} {σ:St} {H:Hp} {Q:Bool→Hp→Prop} (ht:∀ Q,tM K ms m σ H Q→t σ H Q) (h:tMT K ms (truB m) σ H Q):tTest t σ H Q:=by
  obtain ⟨F,γ,r,h1,h2,h3,w⟩:=h
  unfold truB at h3
  cases e1:m γ with
  | none=>rw [e1] at h3;cases h3
  | some x =>
    rw [e1] at h3
    cases x with
    | bl b =>
      obtain rfl:b=r:=Option.some.inj h3
      refine ht _ ⟨F,γ,.bl b,h1,h2,e1,fun v H' F' g q => ?_⟩
      unfold Rep at q
      exact ⟨b,q,w H' F' g⟩
    | _=>cases h3
theorem Qw {op:CmpOp} {f:PV→PV→Option PV} (ho:OpM X (compareOp op) f) (ha:EM X ms a m1) (hb:EM X ns b m2) (hm:behindInMarks op b=false):TM X (ms++ns) (.Compare a [op] [b] pos) (truB (bin2 f m1 m2)) :=
  PT.imp (pt_cmpR ho ha hb hm) fun _ _ _ h=>tTest_of (fun _=>QfX) h
end
end L2.PM

noncomputable section
namespace L2.PM
open PySem PySem.Spec PyProof.Rows

noncomputable abbrev LIM:Nat:=1000000
theorem Yu:LIM≤sizeLine:=by decide
theorem QD {α:Type} {c:Prop} [Decidable c] {a r:α} (h:(if c then some a else none)=some r):c∧a=r:=by
  by_cases k:c
  · rw [if_pos k] at h;exact ⟨k,Option.some.inj h⟩
  · rw [if_neg k] at h;cases h

section
variable {X:Cx}
noncomputable def iop (C:Int→Int→Bool) (g:Int→Int→PV):PV→PV→Option PV
  | .int i,.int j=>if C i j=true then some (g i j) else none
  | _,_=>none
theorem Qix {C:Int→Int→Bool} {g:Int→Int→PV} {p q r:PV} (h:iop C g p q=some r):∃ i j,p = .int i∧q = .int j∧C i j=true∧r=g i j:=by
  cases p <;> cases q <;> first
    | (exfalso;cases h;done)
    | (rename_i i j
       have h:(if C i j=true then some (g i j) else none)=some r:=h
       obtain ⟨c,e⟩:=QD h
       exact ⟨i,j,rfl,rfl,c,e.symm⟩)
theorem Qgq {f:Value→Value→Sem Value} {C':Int→Int→Prop} {C:Int→Int→Bool} {g:Int→Int→PV} {gv:Int→Int→V} (ho:OpR X f (rI C' gv)) (hc:∀ i j,C i j=true→C' i j) (hg:∀ i j K F,Rep K F (g i j) (gv i j)):OpM X f (iop C g):=by
  intro pins s σ H x y v u Q I rx ry h
  obtain ⟨F,p,q,r,h1,h2,h3,h4,w⟩:=h
  obtain ⟨i,j,rfl,rfl,c,rfl⟩:=Qix h4
  unfold Rep at h2 h3
  exact ho pins s σ H x y v u Q I rx ry ⟨i,j,h2,h3,hc i j c,w.here h1 (hg i j _ _)⟩
theorem Qcg {f:Value→Value→Sem Value} {g:Int→Int→PV} {gv:Int→Int→V} (ho:OpR X f (rI0 gv)) (hg:∀ i j K F,Rep K F (g i j) (gv i j)):OpM X f (iop (fun _ _=>true) g):=by
  intro pins s σ H x y v u Q I rx ry h
  obtain ⟨F,p,q,r,h1,h2,h3,h4,w⟩:=h
  obtain ⟨i,j,rfl,rfl,c,rfl⟩:=Qix h4
  unfold Rep at h2 h3
  exact ho pins s σ H x y v u Q I rx ry ⟨i,j,h2,h3,w.here h1 (hg i j _ _)⟩
theorem Za {K:PySem.W.Frag} {F:Hp} (i:Int):Rep K F (.int i) (.int i):=by unfold Rep;rfl
theorem Yc {K:PySem.W.Frag} {F:Hp} (i:Bool):Rep K F (.bl i) (.bl i):=by unfold Rep;rfl
theorem Qij {K:PySem.W.Frag} {F:Hp} (i:Str):Rep K F (.str i) (.str i):=by unfold Rep;rfl
theorem rep_non {K:PySem.W.Frag} {F:Hp}:Rep K F .non .non:=by unfold Rep;rfl
noncomputable def pSub:=iop (fun _ _=>true) fun i j => .int (i - j)
noncomputable def cls (p:Prop):Bool := @decide p (Classical.propDecidable p)
theorem Qbw {p:Prop} (h:cls p=true):p := @of_decide_eq_true p (Classical.propDecidable p) h
theorem QdG {p:Prop} (h:p):cls p=true := @decide_eq_true p (Classical.propDecidable p) h
noncomputable def cMul (i j:Int):Bool:=cls (-(2 ^ 64) < i∧i < 2 ^ 64)||cls (-(2 ^ 64) < j∧j < 2 ^ 64)
noncomputable def cDiv (_ j:Int):Bool:=cls (0 < j∧j < 2 ^ 200)
noncomputable def cPos (_ j:Int):Bool:=decide (0 < j)
noncomputable def cNn (_ j:Int):Bool:=decide (0≤j)
noncomputable def cPow (i j:Int):Bool:=cls (0≤j∧j≤1000000∧i.natAbs < 2 ^ 64)
noncomputable def pMul:=iop cMul fun i j => .int (i * j)
noncomputable def pDiv:=iop cDiv fun i j => .int (i / j)
noncomputable def pMod:=iop cPos fun i j => .int (i % j)
noncomputable def pPow:=iop cPow fun i j => .int (i ^ j.toNat)
noncomputable def pShl:=iop cPow fun i j => .int (i * 2 ^ j.toNat)
noncomputable def pShr:=iop cNn fun i j => .int (i / 2 ^ j.toNat)
noncomputable def pAnd:=iop (fun _ _=>true) fun i j => .int (Builtin.bitAnd i j)
noncomputable def pOr:=iop (fun _ _=>true) fun i j => .int (Builtin.bitOr i j)
noncomputable def pLt:=iop (fun _ _=>true) fun i j => .bl (decide (i < j))
noncomputable def pLe:=iop (fun _ _=>true) fun i j => .bl (decide (i≤j))
noncomputable def pGt:=iop (fun _ _=>true) fun i j => .bl (decide (j < i))
theorem Qch:OpM X (binaryOp .Sub) pSub:=Qcg op_sub fun _ _ _ _=>Za _
theorem cMul_ok {i j:Int} (h:cMul i j=true):CMul i j:=by
  unfold cMul at h
  rw [Bool.or_eq_true] at h
  exact h.imp Qbw Qbw
theorem QbC:OpM X (binaryOp .Mult) pMul:=Qgq op_mul (fun _ _ h=>cMul_ok h) fun _ _ _ _=>Za _
theorem div_log {j:Int} (h0:0 < j) (h:j < 2 ^ 200):j.natAbs.log2 < 9000:=by
  have h1:j.natAbs < 2 ^ 200:=by omega
  have h2:j.natAbs.log2 < 200:=(Nat.log2_lt (by omega)).mpr h1
  omega
theorem op_fdivL:OpR X (binaryOp .FloorDiv) (rI (fun _ j=>0 < j∧j < 2 ^ 200) fun i j => .int (i / j)):=opI fun i j _ _ _ _ _ hc q=>by
  have h1:(0:Int) < j:=hc.1
  exact floordiv_int (by omega) (by rw [Int.fdiv_eq_ediv_of_nonneg i (by omega)];exact q) (.inl (PyProof.noPylong_of_log2 (div_log h1 hc.2)))
theorem ZR:OpM X (binaryOp .FloorDiv) pDiv:=Qgq op_fdivL (fun _ _ h=>Qbw h) fun _ _ _ _=>Za _
theorem QF:OpM X (binaryOp .Mod) pMod:=Qgq op_mod (fun _ _ h=>of_decide_eq_true h) fun _ _ _ _=>Za _
theorem om_pow:OpM X (binaryOp .Pow) pPow:=Qgq op_pow (fun i j h=>Qbw (p:=0≤j∧j≤1000000∧i.natAbs < 2 ^ 64) h) fun _ _ _ _=>Za _
theorem QbB:OpM X (binaryOp .LShift) pShl:=Qgq op_shl (fun i j h=>Qbw (p:=0≤j∧j≤1000000∧i.natAbs < 2 ^ 64) h) fun _ _ _ _=>Za _
theorem Qga:OpM X (binaryOp .RShift) pShr:=Qgq op_shr (fun _ _ h=>of_decide_eq_true h) fun _ _ _ _=>Za _
theorem QbD:OpM X (binaryOp .BitAnd) pAnd:=Qcg op_and fun _ _ _ _=>Za _
theorem om_or:OpM X (binaryOp .BitOr) pOr:=Qcg op_or fun _ _ _ _=>Za _
theorem om_ior:OpM X (inplaceOp .BitOr) pOr:=Qcg iop_or fun _ _ _ _=>Za _
theorem Qjw:OpM X (compareOp .Lt) pLt:=Qcg op_lt fun _ _ _ _=>Yc _
theorem om_le:OpM X (compareOp .LtE) pLe:=Qcg op_le fun _ _ _ _=>Yc _
theorem om_gt:OpM X (compareOp .Gt) pGt:=Qcg op_gt fun _ _ _ _=>Yc _
theorem op_catS:OpR X (binaryOp .Add) (fun x y H Q=>∃ l b xs zs,x = .ref l∧y = .ref b∧SqL X.K H l xs∧SqL X.K H b zs∧xs.length + zs.length≤sizeLine∧∀ p,H p=none→Q (.ref p) (upd H p (.lst (xs++zs)))):=by
  intro pins s σ H x y v u Q I rx ry h
  obtain ⟨l,b,xs,zs,rfl,rfl,hH,hB,hz,q⟩:=h
  cases rx
  cases ry
  obtain ⟨its,r,⟨⟨cls,dd,data,sl⟩,n,e,c,_,d⟩,_⟩:=I.list hH
  obtain ⟨its2,r2,⟨⟨cls2,dd2,data2,sl2⟩,n2,e2,c2,_,d2⟩,_⟩:=I.list hB
  simp only at c d c2 d2
  subst c d c2 d2
  have hsz:its.toArray.size + its2.toArray.size≤sizeLine:=by rw [List.size_toArray,List.size_toArray,← r.length,← r2.length];exact hz
  have ea:its.toArray++its2.toArray=(its++its2).toArray:=by simp
  refine concat_meets ⟨_,e,rfl⟩ ⟨_,e2,rfl⟩ noFill_list_add seq_list_add PySem.F.slot_list_add PySem.F.entry_list_add (PySem.F.args_list_add_2 _ _)
    (list_addW l b its.toArray its2.toArray n n2 dd dd2 sl sl2 hsz) ⟨e,e2,?_⟩
  rw [ea]
  exact ⟨.ref _,_,I.lnew (t':=s.toks) (r.append r2) (by rw [List.length_append];omega),rfl,q _ I.fresh⟩
noncomputable def pCat:PV→PV→Option (List PV)
  | .lst a,.lst b=>if a.length + b.length≤LIM then some (a++b) else none
  | _,_=>none
theorem oo_cat:OpO X (binaryOp .Add) pCat:=by
  intro pins s σ H x y v u Q I rx ry h
  obtain ⟨F,p,q,r,h1,h2,h3,h4,w⟩:=h
  cases p <;> cases q <;> first
    | (exfalso;cases h4;done)
    | skip
  rename_i xs ys
  have h4:(if xs.length + ys.length≤LIM then some (xs++ys) else none)=some r:=h4
  obtain ⟨c,rfl⟩:=QD h4
  unfold Rep at h2 h3
  obtain ⟨a,vs,rfl,sa,ra⟩:=h2
  obtain ⟨b,us,rfl,sb,rb⟩:=h3
  refine op_catS pins s σ H _ _ v u Q I rx ry ⟨a,b,vs,us,rfl,rfl,h1.seq sa,h1.seq sb,by rw [ra.length,rb.length];exact Nat.le_trans c Yu,fun p hp => ?_⟩
  have nF:F p=none:=h1.free hp
  exact w p _ _ F (.side h1 hp) hp nF Qp (ra.append rb)
noncomputable def pAdd:PV→PV→Option PV
  | .int i,.int j=>some (.int (i + j))
  | .str a,.str b=>if a.length + b.length≤LIM then some (.str (a++b)) else none
  | _,_=>none
theorem Yd:OpM X (binaryOp .Add) pAdd:=by
  intro pins s σ H x y v u Q I rx ry h
  obtain ⟨F,p,q,r,h1,h2,h3,h4,w⟩:=h
  cases p <;> cases q <;> first
    | (exfalso;cases h4;done)
    | skip
  · cases h4
    unfold Rep at h2 h3
    exact op_add pins s σ H x y v u Q I rx ry ⟨_,_,h2,h3,w.here h1 (Za _)⟩
  · rename_i a b
    have h4:(if a.length + b.length≤LIM then some (PV.str (a++b)) else none)=some r:=h4
    obtain ⟨c,rfl⟩:=QD h4
    unfold Rep at h2 h3
    exact Qht pins s σ H x y v u Q I rx ry ⟨_,_,h2,h3,Nat.le_trans c Yu,w.here h1 (Qij _)⟩
end
end L2.PM

noncomputable section
namespace L2.PM
open PySem PySem.Spec PyProof.Rows

mutual
noncomputable def peq:PV→PV→Bool
  | .non,.non=>true
  | .bl a,.bl b=>a==b
  | .bl a,.int b=>(if a then 1 else 0)==b
  | .int a,.bl b=>a==(if b then 1 else 0)
  | .int a,.int b=>a==b
  | .str a,.str b=>a==b
  | .tup xs,.tup ys=>peqL xs ys
  | .lst xs,.lst ys=>peqL xs ys
  | .obj C ks ps,.obj D ls qs=>(C==D&&ks==ls)&&peqL ps qs
  | .opq a,.opq b=>a==b
  | _,_=>false
noncomputable def peqL:List PV→List PV→Bool
  | [],[]=>true
  | x :: xs,y :: ys=>peq x y&&peqL xs ys
  | _,_=>false
end
mutual
noncomputable def dep:PV→Nat
  | .tup xs=>depL xs + 1
  | .lst xs=>depL xs + 1
  | .obj _ _ _=>1000
  | .opq _=>1000
  | _=>0
noncomputable def depL:List PV→Nat
  | []=>0
  | x :: xs=>max (dep x) (depL xs)
end
theorem QaW:∀ {xs:List PV} {j:Nat} {p:PV},xs[j]?=some p→dep p≤depL xs
  | [],_,_,e=>by simp at e
  | x :: xs,0,p,e=>by
    simp at e;subst e
    unfold depL
    exact Nat.le_max_left _ _
  | x :: xs,j + 1,p,e=>by
    have:=QaW (xs:=xs) (j:=j) (by simpa using e)
    unfold depL
    exact Nat.le_trans this (Nat.le_max_right _ _)
mutual
theorem Qcq:∀ p:PV,peq p p=true
  | .non=>rfl
  | .bl a=>by show (a==a)=true;simp
  | .int a=>by show (a==a)=true;simp
  | .str a=>by show (a==a)=true;simp
  | .tup xs=>Xr xs
  | .lst xs=>Xr xs
  | .obj C ks ps=>by show ((C==C&&ks==ks)&&peqL ps ps)=true;rw [Xr ps];simp
  | .opq a=>by show (a==a)=true;simp
theorem Xr:∀ xs:List PV,peqL xs xs=true
  | []=>by first | rfl | simp [peqL]
  | x :: xs=>by
    first | rw [show peqL (x :: xs) (y :: ys)=(peq x y&&peqL xs ys) from rfl] | rw [show peqL (x :: xs) (x :: xs)=(peq x x&&peqL xs xs) from rfl]
    rw [Qcq x,Xr xs]
    rfl
end
noncomputable def eAt (xs ys:List PV) (j:Nat):Bool:=match xs[j]?,ys[j]? with
  | some p,some q=>peq p q
  | _,_=>true
theorem QdH (n:Nat) (e:Nat→Bool):(List.range (n + 1)).all e=(e 0&&(List.range n).all fun j=>e (j + 1)):=by
  rw [List.range_succ_eq_map,List.all_cons,List.all_map]
  rfl
theorem Qat:∀ (xs ys:List PV),((List.range (min xs.length ys.length)).all (eAt xs ys)&&(xs.length==ys.length))=peqL xs ys
  | [],[]=>by first | rfl | simp [peqL]
  | [],y :: ys=>by first | rfl | simp [peqL]
  | x :: xs,[]=>by first | rfl | simp [peqL]
  | x :: xs,y :: ys=>by
    have ih:=Qat xs ys
    first | rw [show peqL (x :: xs) (y :: ys)=(peq x y&&peqL xs ys) from rfl] | rw [show peqL (x :: xs) (x :: xs)=(peq x x&&peqL xs xs) from rfl]
    rw [← ih]
    have e1:min (x :: xs).length (y :: ys).length=min xs.length ys.length + 1:=by
      simp only [List.length_cons];omega
    rw [e1,QdH]
    have e2:eAt (x :: xs) (y :: ys) 0=peq x y:=by simp [eAt]
    have e3:(fun j=>eAt (x :: xs) (y :: ys) (j + 1))=eAt xs ys:=by
      funext j
      simp [eAt]
    have e4:((x :: xs).length==(y :: ys).length)=(xs.length==ys.length):=by
      rw [Bool.eq_iff_iff];simp
    rw [e2,e3,e4,Bool.and_assoc]

section
variable {X:Cx} {pins:List (Addr×Obj)} {σ:St} {H F:Hp} {s:Shared}
mutual
theorem Rep.inj (I:Inv X pins σ H s) (hF:Same F H):∀ {p q:PV} {v:V},dep p < 1000→dep q < 1000→Rep X.K F p v→Rep X.K F q v→p=q
  | .non,q,v,_,dq,h,k=>by
    unfold Rep at h;subst h
    cases q <;> unfold Rep at k <;> first | rfl | (cases k;done) | (obtain ⟨_,_,k,_⟩:=k;cases k;done) | (obtain ⟨_,_,_,k,_⟩:=k;cases k;done)
  | .bl b,q,v,_,dq,h,k=>by
    unfold Rep at h;subst h
    cases q <;> unfold Rep at k <;> first | (cases k;done) | (cases k;rfl) | (obtain ⟨_,_,k,_⟩:=k;cases k;done) | (obtain ⟨_,_,_,k,_⟩:=k;cases k;done)
  | .int b,q,v,_,dq,h,k=>by
    unfold Rep at h;subst h
    cases q <;> unfold Rep at k <;> first | (cases k;done) | (cases k;rfl) | (obtain ⟨_,_,k,_⟩:=k;cases k;done) | (obtain ⟨_,_,_,k,_⟩:=k;cases k;done)
  | .str b,q,v,_,dq,h,k=>by
    unfold Rep at h;subst h
    cases q <;> unfold Rep at k <;> first | (cases k;done) | (cases k;rfl) | (obtain ⟨_,_,k,_⟩:=k;cases k;done) | (obtain ⟨_,_,_,k,_⟩:=k;cases k;done)
  | .tup xs,q,v,dp,dq,h,k=>by
    unfold Rep at h
    obtain ⟨a,vs,rfl,h2,h3⟩:=h
    cases q with
    | tup ys =>
      unfold Rep at k
      obtain ⟨b,us,e,k2,k3⟩:=k
      cases e
      have e:=I.tuple_inj (hF.seqT h2) (hF.seqT k2)
      subst e
      unfold dep at dp dq
      rw [RepL.inj I hF (by omega) (by omega) h3 k3]
    | lst ys =>
      unfold Rep at k
      obtain ⟨b,us,e,k2,k3⟩:=k
      cases e
      obtain ⟨its,_,p1,_⟩:=I.tuple (hF.seqT h2)
      obtain ⟨its2,_,p2,_⟩:=I.list (hF.seq k2)
      exact absurd rfl (PySem.SeqAt.ne_of_list_tuple p2.isList p1)
    | obj C ks ps=>unfold dep at dq;omega
    | opq b=>unfold dep at dq;omega
    | _=>unfold Rep at k;cases k
  | .lst xs,q,v,dp,dq,h,k=>by
    unfold Rep at h
    obtain ⟨a,vs,rfl,h2,h3⟩:=h
    cases q with
    | lst ys =>
      unfold Rep at k
      obtain ⟨b,us,e,k2,k3⟩:=k
      cases e
      have e:=I.list_inj (hF.seq h2) (hF.seq k2)
      subst e
      unfold dep at dp dq
      rw [RepL.inj I hF (by omega) (by omega) h3 k3]
    | tup ys =>
      unfold Rep at k
      obtain ⟨b,us,e,k2,k3⟩:=k
      cases e
      obtain ⟨its,_,p1,_⟩:=I.list (hF.seq h2)
      obtain ⟨its2,_,p2,_⟩:=I.tuple (hF.seqT k2)
      exact absurd rfl (PySem.SeqAt.ne_of_list_tuple p1.isList p2)
    | obj C ks ps=>unfold dep at dq;omega
    | opq b=>unfold dep at dq;omega
    | _=>unfold Rep at k;cases k
  | .obj C ks ps,q,v,dp,dq,h,k=>by unfold dep at dp;omega
  | .opq a,q,v,dp,dq,h,k=>by unfold dep at dp;omega
theorem RepL.inj (I:Inv X pins σ H s) (hF:Same F H):∀ {ps qs:List PV} {vs:List V},depL ps < 1000→depL qs < 1000→RepL X.K F ps vs→RepL X.K F qs vs→ps=qs
  | [],qs,vs,dp,dq,h,k=>by
    unfold RepL at h;subst h
    cases qs with
    | nil=>rfl
    | cons q qs=>unfold RepL at k;obtain ⟨_,_,k,_⟩:=k;cases k
  | p :: ps,qs,vs,dp,dq,h,k=>by
    unfold RepL at h
    obtain ⟨v,r,rfl,h2,h3⟩:=h
    cases qs with
    | nil=>unfold RepL at k;cases k
    | cons q qs =>
      unfold RepL at k
      obtain ⟨v',r',e,k2,k3⟩:=k
      cases e
      unfold depL at dp dq
      rw [Rep.inj I hF (by omega) (by omega) h2 k2,RepL.inj I hF (by omega) (by omega) h3 k3]
end

theorem eqAt_rep (I:Inv X pins σ H s) (hF:Same F H):∀ (n:Nat) (A:Around) (p q:PV) (v u:V) (x y:Value),dep p≤n→n≤900→dep q < 1000→A.units + n < cLine→Rep X.K F p v→Rep X.K F q u→RelV v x→RelV u y→SeqAt.EqAt A s x y (peq p q):=by
  intro n
  induction n with
  | zero =>
    intro A p q v u x y hd hn hdq hu hp hq rx ry
    cases p with
    | tup xs=>unfold dep at hd;omega
    | lst xs=>unfold dep at hd;omega
    | obj C ks ps=>unfold dep at hd;omega
    | opq b=>unfold dep at hd;omega
    | non =>
      unfold Rep at hp;subst hp;cases rx
      cases q with
      | obj D ls qs=>unfold dep at hdq;omega
      | opq b=>unfold dep at hdq;omega
      | non=>unfold Rep at hq;subst hq;cases ry;exact SeqAt.EqAt.same _
      | bl b=>unfold Rep at hq;subst hq;cases ry;exact SeqAt.EqAt.none_bool b
      | int b=>unfold Rep at hq;subst hq;obtain ⟨t,rfl⟩:=ry;exact SeqAt.EqAt.none_int b t
      | str b=>unfold Rep at hq;subst hq;obtain ⟨t,rfl⟩:=ry;exact SeqAt.EqAt.none_str b t
      | tup ys =>
        unfold Rep at hq;obtain ⟨b,us,rfl,k2,k3⟩:=hq;cases ry
        obtain ⟨its,_,p1,_⟩:=I.tuple (hF.seqT k2)
        exact SeqAt.EqAt.none_tuple p1 (by omega)
      | lst ys =>
        unfold Rep at hq;obtain ⟨b,us,rfl,k2,k3⟩:=hq;cases ry
        obtain ⟨its,_,p1,_⟩:=I.list (hF.seq k2)
        exact SeqAt.EqAt.none_list p1.isList (by omega)
    | bl a =>
      unfold Rep at hp;subst hp;cases rx
      cases q with
      | obj D ls qs=>unfold dep at hdq;omega
      | opq b=>unfold dep at hdq;omega
      | non=>unfold Rep at hq;subst hq;cases ry;exact SeqAt.EqAt.bool_none a
      | bl b=>unfold Rep at hq;subst hq;cases ry;exact SeqAt.EqAt.bool_bool a b
      | int b=>unfold Rep at hq;subst hq;obtain ⟨t,rfl⟩:=ry;exact SeqAt.EqAt.bool_int a b t
      | str b=>unfold Rep at hq;subst hq;obtain ⟨t,rfl⟩:=ry;exact SeqAt.EqAt.bool_str a b t
      | tup ys =>
        unfold Rep at hq;obtain ⟨b,us,rfl,k2,k3⟩:=hq;cases ry
        obtain ⟨its,_,p1,_⟩:=I.tuple (hF.seqT k2)
        exact SeqAt.EqAt.bool_tuple a p1 (by omega)
      | lst ys =>
        unfold Rep at hq;obtain ⟨b,us,rfl,k2,k3⟩:=hq;cases ry
        obtain ⟨its,_,p1,_⟩:=I.list (hF.seq k2)
        exact SeqAt.EqAt.bool_list a p1.isList (by omega)
    | int a =>
      unfold Rep at hp;subst hp;obtain ⟨t',rfl⟩:=rx
      cases q with
      | obj D ls qs=>unfold dep at hdq;omega
      | opq b=>unfold dep at hdq;omega
      | non=>unfold Rep at hq;subst hq;cases ry;exact SeqAt.EqAt.int_none a t'
      | bl b=>unfold Rep at hq;subst hq;cases ry;exact SeqAt.EqAt.int_bool a t' b
      | int b=>unfold Rep at hq;subst hq;obtain ⟨t,rfl⟩:=ry;exact SeqAt.EqAt.int_int a t' b t
      | str b=>unfold Rep at hq;subst hq;obtain ⟨t,rfl⟩:=ry;exact SeqAt.EqAt.int_str a t' b t
      | tup ys =>
        unfold Rep at hq;obtain ⟨b,us,rfl,k2,k3⟩:=hq;cases ry
        obtain ⟨its,_,p1,_⟩:=I.tuple (hF.seqT k2)
        exact SeqAt.EqAt.int_tuple a t' p1 (by omega)
      | lst ys =>
        unfold Rep at hq;obtain ⟨b,us,rfl,k2,k3⟩:=hq;cases ry
        obtain ⟨its,_,p1,_⟩:=I.list (hF.seq k2)
        exact SeqAt.EqAt.int_list a t' p1.isList (by omega)
    | str a =>
      unfold Rep at hp;subst hp;obtain ⟨t',rfl⟩:=rx
      cases q with
      | obj D ls qs=>unfold dep at hdq;omega
      | opq b=>unfold dep at hdq;omega
      | non=>unfold Rep at hq;subst hq;cases ry;exact SeqAt.EqAt.str_none a t'
      | bl b=>unfold Rep at hq;subst hq;cases ry;exact SeqAt.EqAt.str_bool a t' b
      | int b=>unfold Rep at hq;subst hq;obtain ⟨t,rfl⟩:=ry;exact SeqAt.EqAt.str_int a t' b t
      | str b=>unfold Rep at hq;subst hq;obtain ⟨t,rfl⟩:=ry;exact SeqAt.EqAt.str_str a t' b t
      | tup ys =>
        unfold Rep at hq;obtain ⟨b,us,rfl,k2,k3⟩:=hq;cases ry
        obtain ⟨its,_,p1,_⟩:=I.tuple (hF.seqT k2)
        exact SeqAt.EqAt.str_tuple a t' p1 (by omega)
      | lst ys =>
        unfold Rep at hq;obtain ⟨b,us,rfl,k2,k3⟩:=hq;cases ry
        obtain ⟨its,_,p1,_⟩:=I.list (hF.seq k2)
        exact SeqAt.EqAt.str_list a t' p1.isList (by omega)
  | succ n ih =>
    intro A p q v u x y hd hn hdq hu hp hq rx ry
    by_cases hd0:dep p≤n
    · exact ih A p q v u x y hd0 (by omega) hdq (by omega) hp hq rx ry
    · have hN:A.units < cLine:=by omega
      cases p with
      | tup xs =>
        unfold Rep at hp
        obtain ⟨a,vs,rfl,h2,h3⟩:=hp
        cases rx
        have hdx:depL xs≤n:=by unfold dep at hd;omega
        obtain ⟨its,rv,p1,z1⟩:=I.tuple (hF.seqT h2)
        cases q with
        | obj D ls qs=>unfold dep at hdq;omega
        | opq b=>unfold dep at hdq;omega
        | non=>unfold Rep at hq;subst hq;cases ry;exact SeqAt.EqAt.tuple_none p1 hN
        | bl b=>unfold Rep at hq;subst hq;cases ry;exact SeqAt.EqAt.tuple_bool b p1 hN
        | int b=>unfold Rep at hq;subst hq;obtain ⟨t,rfl⟩:=ry;exact SeqAt.EqAt.tuple_int b t p1 hN
        | str b=>unfold Rep at hq;subst hq;obtain ⟨t,rfl⟩:=ry;exact SeqAt.EqAt.tuple_str b t p1 hN
        | lst ys =>
          unfold Rep at hq;obtain ⟨b,us,rfl,k2,k3⟩:=hq;cases ry
          obtain ⟨its2,_,p2,_⟩:=I.list (hF.seq k2)
          exact SeqAt.EqAt.tuple_list p1 p2.isList hN
        | tup ys =>
          unfold Rep at hq;obtain ⟨b,us,rfl,k2,k3⟩:=hq;cases ry
          obtain ⟨its2,ru,p2,z2⟩:=I.tuple (hF.seqT k2)
          change SeqAt.EqAt _ _ _ _ (peqL xs ys)
          by_cases hab:a=b
          · subst hab
            have e:=I.tuple_inj (hF.seqT h2) (hF.seqT k2)
            subst e
            rw [RepL.inj I hF (by omega) (by unfold dep at hdq;omega) h3 k3,Xr]
            exact SeqAt.EqAt.same _
          · have l1:its.toArray.size=xs.length:=by rw [List.size_toArray,← rv.length,h3.length]
            have l2:its2.toArray.size=ys.length:=by rw [List.size_toArray,← ru.length,k3.length]
            have key:=SeqAt.RcAt.tuples (A:=A) (s:=s) (e:=eAt xs ys) p1 p2 hN fun j j1 j2 => ?_
            · rw [l1,l2,Qat] at key
              exact SeqAt.EqAt.of_refs hab key
            · have j1':j < xs.length:=by rw [← l1];exact j1
              have j2':j < ys.length:=by rw [← l2];exact j2
              have e1:xs[j]?=some xs[j]:=by simp [j1']
              have e2:ys[j]?=some ys[j]:=by simp [j2']
              obtain ⟨v1,ev1,rp1⟩:=h3.get e1
              obtain ⟨v2,ev2,rp2⟩:=k3.get e2
              obtain ⟨w1,ew1,rw1⟩:=rv.get ev1
              obtain ⟨w2,ew2,rw2⟩:=ru.get ev2
              have q1:its.toArray[j]=w1:=by simpa using (List.getElem?_eq_some_iff.mp ew1).2
              have q2:its2.toArray[j]=w2:=by simpa using (List.getElem?_eq_some_iff.mp ew2).2
              have e3:eAt xs ys j=peq xs[j] ys[j]:=by unfold eAt;rw [e1,e2]
              rw [q1,q2,e3]
              exact ih A.in1 _ _ v1 v2 w1 w2 (Nat.le_trans (QaW e1) hdx) (by omega) (by have:=QaW e2;unfold dep at hdq;omega) (by show A.units + 1 + n < cLine;omega) rp1 rp2 rw1 rw2
      | lst xs =>
        unfold Rep at hp
        obtain ⟨a,vs,rfl,h2,h3⟩:=hp
        cases rx
        have hdx:depL xs≤n:=by unfold dep at hd;omega
        obtain ⟨its,rv,p1,z1⟩:=I.list (hF.seq h2)
        cases q with
        | obj D ls qs=>unfold dep at hdq;omega
        | opq b=>unfold dep at hdq;omega
        | non=>unfold Rep at hq;subst hq;cases ry;exact SeqAt.EqAt.list_none p1.isList hN
        | bl b=>unfold Rep at hq;subst hq;cases ry;exact SeqAt.EqAt.list_bool b p1.isList hN
        | int b=>unfold Rep at hq;subst hq;obtain ⟨t,rfl⟩:=ry;exact SeqAt.EqAt.list_int b t p1.isList hN
        | str b=>unfold Rep at hq;subst hq;obtain ⟨t,rfl⟩:=ry;exact SeqAt.EqAt.list_str b t p1.isList hN
        | tup ys =>
          unfold Rep at hq;obtain ⟨b,us,rfl,k2,k3⟩:=hq;cases ry
          obtain ⟨its2,_,p2,_⟩:=I.tuple (hF.seqT k2)
          exact SeqAt.EqAt.list_tuple p1.isList p2 hN
        | lst ys =>
          unfold Rep at hq;obtain ⟨b,us,rfl,k2,k3⟩:=hq;cases ry
          obtain ⟨its2,ru,p2,z2⟩:=I.list (hF.seq k2)
          change SeqAt.EqAt _ _ _ _ (peqL xs ys)
          by_cases hab:a=b
          · subst hab
            have e:=I.list_inj (hF.seq h2) (hF.seq k2)
            subst e
            rw [RepL.inj I hF (by omega) (by unfold dep at hdq;omega) h3 k3,Xr]
            exact SeqAt.EqAt.same _
          · have l1:its.toArray.size=xs.length:=by rw [List.size_toArray,← rv.length,h3.length]
            have l2:its2.toArray.size=ys.length:=by rw [List.size_toArray,← ru.length,k3.length]
            by_cases hl:xs.length=ys.length
            · have key:=SeqAt.RcAt.lists (A:=A) (s:=s) (e:=eAt xs ys) p1.isList p2.isList (by rw [l1,l2,hl]) hN fun j j1 j2 => ?_
              · have e5:=Qat xs ys
                rw [← hl,Nat.min_self,beq_self_eq_true,Bool.and_true] at e5
                rw [l1,e5] at key
                exact SeqAt.EqAt.of_refs hab key
              · have j1':j < xs.length:=by rw [← l1];exact j1
                have j2':j < ys.length:=by rw [← l2];exact j2
                have e1:xs[j]?=some xs[j]:=by simp [j1']
                have e2:ys[j]?=some ys[j]:=by simp [j2']
                obtain ⟨v1,ev1,rp1⟩:=h3.get e1
                obtain ⟨v2,ev2,rp2⟩:=k3.get e2
                obtain ⟨w1,ew1,rw1⟩:=rv.get ev1
                obtain ⟨w2,ew2,rw2⟩:=ru.get ev2
                have q1:its.toArray[j]=w1:=by simpa using (List.getElem?_eq_some_iff.mp ew1).2
                have q2:its2.toArray[j]=w2:=by simpa using (List.getElem?_eq_some_iff.mp ew2).2
                have e3:eAt xs ys j=peq xs[j] ys[j]:=by unfold eAt;rw [e1,e2]
                rw [q1,q2,e3]
                exact ih A.in1 _ _ v1 v2 w1 w2 (Nat.le_trans (QaW e1) hdx) (by omega) (by have:=QaW e2;unfold dep at hdq;omega) (by show A.units + 1 + n < cLine;omega) rp1 rp2 rw1 rw2
            · have e5:=Qat xs ys
              rw [(beq_eq_false_iff_ne (a:=xs.length) (b:=ys.length)).mpr hl,Bool.and_false] at e5
              rw [← e5]
              exact SeqAt.EqAt.of_refs hab (SeqAt.RcAt.lists_lengths p1.isList p2.isList (by rw [l1,l2];simpa using hl) hN)
      | obj C ks ps=>unfold dep at hd;omega
      | opq b=>unfold dep at hd;omega
      | _=>unfold dep at hd0;omega

mutual
noncomputable def toD:PV→PyData
  | .non => .none
  | .bl b => .bool b
  | .int i => .int i
  | .str x => .str x
  | .tup xs => .tuple (toDL xs)
  | .lst xs => .list (toDL xs)
  | .obj _ _ _ => .none
  | .opq _ => .none
noncomputable def toDL:List PV→List PyData
  | []=>[]
  | x :: xs=>toD x :: toDL xs
end
mutual
noncomputable def okS:PV→Bool
  | .str x=>PyData.strOk x
  | .tup xs=>okSL xs
  | .lst xs=>okSL xs
  | _=>true
noncomputable def okSL:List PV→Bool
  | []=>true
  | x :: xs=>okS x&&okSL xs
end
noncomputable def okv (p:PV):Bool:=decide (dep p≤50)&&okS p
mutual
theorem QdX:∀ p:PV,okS p=true→(toD p).canLay0=true
  | .non,_=>by simp [toD,PyData.canLay0]
  | .bl _,_=>by simp [toD,PyData.canLay0]
  | .int _,_=>by simp [toD,PyData.canLay0]
  | .str x,h=>by simpa [toD,PyData.canLay0,okS] using h
  | .tup xs,h=>by
    unfold toD PyData.canLay0
    exact QaT xs (by simpa [okS] using h)
  | .lst xs,h=>by
    unfold toD PyData.canLay0
    exact QaT xs (by simpa [okS] using h)
  | .obj _ _ _,_=>by simp [toD,PyData.canLay0]
  | .opq _,_=>by simp [toD,PyData.canLay0]
theorem QaT:∀ xs:List PV,okSL xs=true→PyData.canLayAll0 (toDL xs)=true
  | [],_=>by simp [toDL,PyData.canLayAll0]
  | x :: xs,h=>by
    unfold okSL at h
    rw [Bool.and_eq_true] at h
    unfold toDL PyData.canLayAll0
    rw [QdX x h.1,QaT xs h.2]
    rfl
end
mutual
theorem Qff:∀ p:PV,(toD p).depth≤dep p + 1
  | .non=>by simp [toD,PyData.depth]
  | .bl _=>by simp [toD,PyData.depth]
  | .int _=>by simp [toD,PyData.depth]
  | .str x=>by simp [toD,PyData.depth]
  | .tup xs=>by
    have:=QbI xs
    simp only [toD,PyData.depth,dep]
    omega
  | .lst xs=>by
    have:=QbI xs
    simp only [toD,PyData.depth,dep]
    omega
  | .obj _ _ _=>by simp [toD,PyData.depth]
  | .opq _=>by simp [toD,PyData.depth]
theorem QbI:∀ xs:List PV,PyData.depthAll (toDL xs)≤depL xs + 1
  | []=>by simp [toDL,PyData.depthAll]
  | x :: xs=>by
    have h1:=Qff x
    have h2:=QbI xs
    simp only [toDL,PyData.depthAll,depL]
    omega
end
theorem Qas {p:PV} (h:okv p=true):SeqAt.shaped (toD p)=true:=by
  unfold okv at h
  rw [Bool.and_eq_true,decide_eq_true_iff] at h
  have h1:=Qff p
  unfold SeqAt.shaped
  rw [QdX p h.2,Bool.true_and,decide_eq_true_iff]
  omega
mutual
theorem QfQ:∀ p q:PV,dep p < 1000→dep q < 1000→PyData.eqv (toD p) (toD q)=peq p q
  | .non,q,_,hq=>by cases q <;> first | (rfl;done) | (exfalso;unfold dep at hq;omega)
  | .bl _,q,_,hq=>by cases q <;> first | (rfl;done) | (exfalso;unfold dep at hq;omega)
  | .int _,q,_,hq=>by cases q <;> first | (rfl;done) | (exfalso;unfold dep at hq;omega)
  | .str _,q,_,hq=>by cases q <;> first | (rfl;done) | (exfalso;unfold dep at hq;omega)
  | .tup xs,q,hp,hq=>by
    cases q with
    | tup ys=>exact Qeq xs ys (by unfold dep at hp;omega) (by unfold dep at hq;omega)
    | obj=>exfalso;unfold dep at hq;omega
    | opq=>exfalso;unfold dep at hq;omega
    | _=>rfl
  | .lst xs,q,hp,hq=>by
    cases q with
    | lst ys=>exact Qeq xs ys (by unfold dep at hp;omega) (by unfold dep at hq;omega)
    | obj=>exfalso;unfold dep at hq;omega
    | opq=>exfalso;unfold dep at hq;omega
    | _=>rfl
  | .obj _ _ _,q,hp,_=>by exfalso;unfold dep at hp;omega
  | .opq _,q,hp,_=>by exfalso;unfold dep at hp;omega
theorem Qeq:∀ xs ys:List PV,depL xs < 1000→depL ys < 1000→PyData.eqvAll (toDL xs) (toDL ys)=peqL xs ys
  | [],[],_,_=>rfl
  | [],_ :: _,_,_=>rfl
  | _ :: _,[],_,_=>rfl
  | x :: xs,y :: ys,h1,h2=>by
    show (PyData.eqv (toD x) (toD y)&&PyData.eqvAll (toDL xs) (toDL ys))=(peq x y&&peqL xs ys)
    unfold depL at h1 h2
    rw [QfQ x y (by omega) (by omega),Qeq xs ys (by omega) (by omega)]
end
mutual
theorem Rep.reads (I:Inv X pins σ H s) (hF:Same F H):∀ {p:PV} {v:V} {u:Value},dep p < 1000→Rep X.K F p v→RelV v u→∃ as,Reads s.heap u (toD p) as
  | .non,v,u,_,h,r=>by unfold Rep at h;subst h;cases r;exact ⟨_,by unfold toD;exact .none⟩
  | .bl b,v,u,_,h,r=>by unfold Rep at h;subst h;cases r;exact ⟨_,by unfold toD;exact .bool b⟩
  | .int b,v,u,_,h,r=>by unfold Rep at h;subst h;obtain ⟨t,rfl⟩:=r;exact ⟨_,by unfold toD;exact .int b t⟩
  | .str b,v,u,_,h,r=>by unfold Rep at h;subst h;obtain ⟨t,rfl⟩:=r;exact ⟨_,by unfold toD;exact .str b t⟩
  | .tup xs,v,u,hd',h,r=>by
    unfold Rep at h
    obtain ⟨a,vs,rfl,h2,h3⟩:=h
    cases r
    obtain ⟨its,rv,⟨o,ho,hc,n,hd⟩,_⟩:=I.tuple (hF.seqT h2)
    obtain ⟨as,ra⟩:=RepL.reads I hF (by unfold dep at hd';omega) h3 rv
    unfold toD
    exact ⟨_,.tuple ho hc hd (by simpa using ra)⟩
  | .lst xs,v,u,hd',h,r=>by
    unfold Rep at h
    obtain ⟨a,vs,rfl,h2,h3⟩:=h
    cases r
    obtain ⟨its,rv,⟨o,n,ho,hc,_,hd⟩,_⟩:=I.list (hF.seq h2)
    obtain ⟨as,ra⟩:=RepL.reads I hF (by unfold dep at hd';omega) h3 rv
    unfold toD
    exact ⟨_,.list ho hc hd (by simpa using ra)⟩
  | .obj _ _ _,v,u,hd',_,_=>by exfalso;unfold dep at hd';omega
  | .opq _,v,u,hd',_,_=>by exfalso;unfold dep at hd';omega
theorem RepL.reads (I:Inv X pins σ H s) (hF:Same F H):∀ {ps:List PV} {vs:List V} {us:List Value},depL ps < 1000→RepL X.K F ps vs→Vals vs us→∃ as,ReadsAll s.heap us (toDL ps) as
  | [],vs,us,_,h,r=>by
    unfold RepL at h;subst h;cases r
    exact ⟨[],by unfold toDL;exact .nil⟩
  | p :: ps,vs,us,hd',h,r=>by
    unfold depL at hd'
    unfold RepL at h
    obtain ⟨v,t,rfl,h2,h3⟩:=h
    cases r with
    | cons r1 r2 =>
      obtain ⟨a1,q1⟩:=Rep.reads I hF (by omega) h2 r1
      obtain ⟨a2,q2⟩:=RepL.reads I hF (by omega) h3 r2
      unfold toDL
      exact ⟨_,.cons q1 q2⟩
end
theorem QaP {p:PV} (h:okv p=true):dep p < 1000:=by
  unfold okv at h
  rw [Bool.and_eq_true,decide_eq_true_iff] at h
  omega
noncomputable def pEq (p q:PV):Option PV:=if okv p=true∧okv q=true then some (.bl (peq p q)) else none
noncomputable def pNe (p q:PV):Option PV:=if okv p=true∧okv q=true then some (.bl (!peq p q)) else none
theorem Yr (hu:X.A.units + 64 < cLine):OpM X (compareOp .Eq) pEq:=by
  intro pins s σ H x y v u Q I rx ry h
  obtain ⟨F,p,q,r,h1,h2,h3,h4,w⟩:=h
  obtain ⟨⟨c1,c2⟩,rfl⟩:=QD h4
  obtain ⟨as,ra⟩:=Rep.reads I h1 (QaP c1) h2 rx
  obtain ⟨bs,rb⟩:=Rep.reads I h1 (QaP c2) h3 ry
  refine eq_dataH ra rb (Qas c1) (Qas c2) hu ?_
  rw [QfQ _ _ (QaP c1) (QaP c2)]
  exact ⟨.bl _,H,I,rfl,w.here h1 (Yc _)⟩
theorem QcI (hu:X.A.units + 64 < cLine):OpM X (compareOp .NotEq) pNe:=by
  intro pins s σ H x y v u Q I rx ry h
  obtain ⟨F,p,q,r,h1,h2,h3,h4,w⟩:=h
  obtain ⟨⟨c1,c2⟩,rfl⟩:=QD h4
  obtain ⟨as,ra⟩:=Rep.reads I h1 (QaP c1) h2 rx
  obtain ⟨bs,rb⟩:=Rep.reads I h1 (QaP c2) h3 ry
  refine ne_dataH ra rb (Qas c1) (Qas c2) hu ?_
  rw [QfQ _ _ (QaP c1) (QaP c2)]
  exact ⟨.bl _,H,I,rfl,w.here h1 (Yc _)⟩
end
end L2.PM

noncomputable section
namespace L2.PM
open PySem PySem.Spec PyProof.Rows

section
variable {X:Cx} {e a b c:Expr} {es:List Expr} {ms ns ls:List Nat} {m m1 m2 m3:MEx} {pos:Pos}
theorem QiF:∀ {its:List Value} {xs:List PV} (f:PV→Bool),its.length=xs.length→∀ g:Value→Bool,(∀ (j:Nat) (u:Value) (p:PV),its[j]?=some u→xs[j]?=some p→g u=f p)→its.any g=xs.any f
  | [],[],_,_,_,_=>rfl
  | [],_ :: _,_,h,_,_=>by simp at h
  | _ :: _,[],_,h,_,_=>by simp at h
  | u :: us,p :: ps,f,h,g,k=>by
    rw [List.any_cons,List.any_cons,k 0 u p rfl rfl,QiF f (by simpa using h) g fun j u p h1 h2=>k (j + 1) u p (by simpa using h1) (by simpa using h2)]
open Classical in
noncomputable def gOf (its:List Value) (xs:List PV) (x:PV) (u:Value):Bool:=if h:∃ (j:Nat) (p:PV),its[j]?=some u∧xs[j]?=some p then peq (Classical.choose (Classical.choose_spec h)) x else false
noncomputable def pIn:PV→PV→Option PV
  | x,.lst xs=>if okv x=true∧xs.all okv=true then some (.bl (xs.any fun y=>peq y x)) else none
  | x,.tup xs=>if okv x=true∧xs.all okv=true then some (.bl (xs.any fun y=>peq y x)) else none
  | _,_=>none
noncomputable def Qag (x y:PV):Option PV:=(pIn x y).bind fun r=>match r with
  | .bl b=>some (.bl (!b))
  | _=>none
theorem okv_dep {p:PV} (h:okv p=true):dep p≤50:=by
  unfold okv at h
  rw [Bool.and_eq_true,decide_eq_true_iff] at h
  exact h.1
theorem Qgb {pins:List (Addr×Obj)} {σ:St} {H F:Hp} {s:Shared} {A:Around} (I:Inv X pins σ H s) (hF:Same F H) (hu:A.units + 60 < cLine) {x:PV} {xv:V} {xu:Value} {xs:List PV} {vs:List V} {its:List Value}
    (ok:xs.all okv=true) (okx:okv x=true) (hx:Rep X.K F x xv) (rx:RelV xv xu) (hxs:RepL X.K F xs vs) (rv:Vals vs its) :
    (∀ u∈its,SeqAt.EqAt A s u xu (gOf its xs x u))∧its.any (gOf its xs x)=xs.any fun y=>peq y x:=by
  have len:its.length=xs.length:=by rw [← rv.length,hxs.length]
  have inj:∀ (j k:Nat) (u:Value) (p q:PV),its[j]?=some u→xs[j]?=some p→its[k]?=some u→xs[k]?=some q→p=q:=fun j k u p q h1 h2 h3 h4=>by
    obtain ⟨v1,e1,r1⟩:=hxs.get h2
    obtain ⟨v2,e2,r2⟩:=hxs.get h4
    obtain ⟨w1,f1,t1⟩:=rv.get e1
    obtain ⟨w2,f2,t2⟩:=rv.get e2
    rw [h1] at f1;rw [h3] at f2
    cases f1;cases f2
    have ev:=t1.inj t2
    subst ev
    have hd:∀ (j:Nat) (p:PV),xs[j]?=some p→dep p < 1000:=fun j p h=>by
      have z:=List.all_eq_true.mp ok p (List.mem_of_getElem? h)
      unfold okv at z
      rw [Bool.and_eq_true,decide_eq_true_iff] at z
      omega
    exact Rep.inj I hF (hd _ _ h2) (hd _ _ h4) r1 r2
  have val:∀ (j:Nat) (u:Value) (p:PV),its[j]?=some u→xs[j]?=some p→gOf its xs x u=peq p x:=fun j u p h1 h2=>by
    have h:∃ (j:Nat) (p:PV),its[j]?=some u∧xs[j]?=some p:=⟨j,p,h1,h2⟩
    unfold gOf
    rw [dif_pos h]
    have hs:=Classical.choose_spec (Classical.choose_spec h)
    rw [inj _ _ u _ _ hs.1 hs.2 h1 h2]
  refine ⟨fun u hu' => ?_,QiF (fun y=>peq y x) len _ fun j u p h1 h2=>val j u p h1 h2⟩
  obtain ⟨j,hj⟩:=List.mem_iff_getElem?.mp hu'
  have hjl:j < xs.length:=by rw [← len];exact (List.getElem?_eq_some_iff.mp hj).1
  have e1:xs[j]?=some xs[j]:=by simp [hjl]
  rw [val j u _ hj e1]
  obtain ⟨v1,f1,r1⟩:=hxs.get e1
  obtain ⟨w1,g1,t1⟩:=rv.get f1
  rw [hj] at g1;cases g1
  have okj:okv xs[j]=true:=List.all_eq_true.mp ok _ (List.getElem_mem hjl)
  exact eqAt_rep I hF 50 A _ _ v1 xv _ _ (okv_dep okj) (by omega) (QaP okx) (by omega) r1 hx t1 rx
theorem Qip {x y r:PV} (h:pIn x y=some r):∃ xs,(y = .lst xs∨y = .tup xs)∧okv x=true∧xs.all okv=true∧r = .bl (xs.any fun y=>peq y x):=by
  cases y with
  | lst xs =>
    have h:(if okv x=true∧xs.all okv=true then some (PV.bl (xs.any fun y=>peq y x)) else none)=some r:=h
    obtain ⟨⟨c1,c2⟩,rfl⟩:=QD h
    exact ⟨xs,.inl rfl,c1,c2,rfl⟩
  | tup xs =>
    have h:(if okv x=true∧xs.all okv=true then some (PV.bl (xs.any fun y=>peq y x)) else none)=some r:=h
    obtain ⟨⟨c1,c2⟩,rfl⟩:=QD h
    exact ⟨xs,.inr rfl,c1,c2,rfl⟩
  | _=>cases h
theorem Qgr (hu:X.A.units + 64 < cLine):OpM X (compareOp .In) pIn:=by
  intro pins s σ H x y v u Q I rx ry h
  obtain ⟨F,p,q,r,h1,h2,h3,h4,w⟩:=h
  obtain ⟨xs,hk,c1,c2,rfl⟩:=Qip h4
  have hu1:X.A.in1.units + 60 < cLine:=by show X.A.units + 1 + 60 < cLine;omega
  rcases hk with rfl | rfl
  · unfold Rep at h3
    obtain ⟨a,vs,rfl,k2,k3⟩:=h3
    cases ry
    obtain ⟨its,rv,pl,_⟩:=I.list (h1.seq k2)
    obtain ⟨he,hany⟩:=Qgb (A:=X.A.in1) I h1 hu1 c2 c1 h2 rx k3 rv
    refine SeqAt.in_listAt (gOf its xs p) pl.isList (fun y hy=>he y (by simpa using hy)) ⟨.bl _,H,I,rfl,?_⟩
    rw [show its.toArray.any (gOf its xs p)=its.any (gOf its xs p) by simp,hany]
    exact w.here h1 (Yc _)
  · unfold Rep at h3
    obtain ⟨a,vs,rfl,k2,k3⟩:=h3
    cases ry
    obtain ⟨its,rv,pl,_⟩:=I.tuple (h1.seqT k2)
    obtain ⟨he,hany⟩:=Qgb (A:=X.A.in1) I h1 hu1 c2 c1 h2 rx k3 rv
    refine SeqAt.in_tupleAt (gOf its xs p) pl (fun y hy=>he y (by simpa using hy)) ⟨.bl _,H,I,rfl,?_⟩
    rw [show its.toArray.any (gOf its xs p)=its.any (gOf its xs p) by simp,hany]
    exact w.here h1 (Yc _)
theorem Qel (hu:X.A.units + 64 < cLine):OpM X (compareOp .NotIn) Qag:=by
  intro pins s σ H x y v u Q I rx ry h
  obtain ⟨F,p,q,r,h1,h2,h3,h4,w⟩:=h
  unfold Qag at h4
  cases e:pIn p q with
  | none=>rw [e] at h4;cases h4
  | some r0 =>
    rw [e] at h4
    obtain ⟨xs,hk,c1,c2,rfl⟩:=Qip e
    have h4:some (PV.bl (!(xs.any fun y=>peq y p)))=some r:=h4
    cases h4
    have hu1:X.A.in1.units + 60 < cLine:=by show X.A.units + 1 + 60 < cLine;omega
    rcases hk with rfl | rfl
    · unfold Rep at h3
      obtain ⟨a,vs,rfl,k2,k3⟩:=h3
      cases ry
      obtain ⟨its,rv,pl,_⟩:=I.list (h1.seq k2)
      obtain ⟨he,hany⟩:=Qgb (A:=X.A.in1) I h1 hu1 c2 c1 h2 rx k3 rv
      refine SeqAt.notIn_listAt (gOf its xs p) pl.isList (fun y hy=>he y (by simpa using hy)) ⟨.bl _,H,I,rfl,?_⟩
      rw [show its.toArray.any (gOf its xs p)=its.any (gOf its xs p) by simp,hany]
      exact w.here h1 (Yc _)
    · unfold Rep at h3
      obtain ⟨a,vs,rfl,k2,k3⟩:=h3
      cases ry
      obtain ⟨its,rv,pl,_⟩:=I.tuple (h1.seqT k2)
      obtain ⟨he,hany⟩:=Qgb (A:=X.A.in1) I h1 hu1 c2 c1 h2 rx k3 rv
      refine SeqAt.notIn_tupleAt (gOf its xs p) pl (fun y hy=>he y (by simpa using hy)) ⟨.bl _,H,I,rfl,?_⟩
      rw [show its.toArray.any (gOf its xs p)=its.any (gOf its xs p) by simp,hany]
      exact w.here h1 (Yc _)
noncomputable def isN:PV→Bool
  | .non=>true
  | _=>false
noncomputable def pIs:PV→PV→Option PV
  | p,.non=>some (.bl (isN p))
  | .bl a,.bl b=>some (.bl (a==b))
  | _,_=>none
noncomputable def Qdz:PV→PV→Option PV
  | p,.non=>some (.bl (!isN p))
  | .bl a,.bl b=>some (.bl (a != b))
  | _,_=>none
theorem op_isB:OpR X (compareOp .Is) (fun x y H Q=>∃ a b,x = .bl a∧y = .bl b∧Q (.bl (a==b)) H):=by
  intro pins s σ H x y v u Q I rx ry h
  obtain ⟨a,b,rfl,rfl,q⟩:=h
  cases rx
  cases ry
  exact is_bool (Qge I q rfl)
theorem op_notB:OpR X (compareOp .IsNot) (fun x y H Q=>∃ a b,x = .bl a∧y = .bl b∧Q (.bl (a != b)) H):=by
  intro pins s σ H x y v u Q I rx ry h
  obtain ⟨a,b,rfl,rfl,q⟩:=h
  cases rx
  cases ry
  exact isnot_bool (Qge I q rfl)
theorem Qiu {K:PySem.W.Frag} {F:Hp} {p:PV} {v:V} (h:Rep K F p v):decide (v = .non)=isN p:=by
  cases p <;> unfold Rep at h <;> first
    | (subst h;simp [isN];done)
    | (obtain ⟨a,vs,rfl,_⟩:=h;simp [isN];done)
    | (obtain ⟨a,dx,vs,rfl,_⟩:=h;simp [isN])
theorem Qex:OpM X (compareOp .Is) pIs:=by
  intro pins s σ H x y v u Q I rx ry h
  obtain ⟨F,p,q,r,h1,h2,h3,h4,w⟩:=h
  cases q with
  | non =>
    have h4:some (PV.bl (isN p))=some r:=h4
    cases h4
    unfold Rep at h3
    exact op_isN pins s σ H x y v u Q I rx ry ⟨h3,by rw [Qiu h2];exact w.here h1 (Yc _)⟩
  | bl b =>
    cases p with
    | bl a =>
      cases h4
      unfold Rep at h2 h3
      exact op_isB pins s σ H x y v u Q I rx ry ⟨a,b,h2,h3,w.here h1 (Yc _)⟩
    | _=>cases h4
  | _=>cases p <;> cases h4
theorem Qem:OpM X (compareOp .IsNot) Qdz:=by
  intro pins s σ H x y v u Q I rx ry h
  obtain ⟨F,p,q,r,h1,h2,h3,h4,w⟩:=h
  cases q with
  | non =>
    have h4:some (PV.bl (!isN p))=some r:=h4
    cases h4
    unfold Rep at h3
    exact op_notN pins s σ H x y v u Q I rx ry ⟨h3,by rw [Qiu h2];exact w.here h1 (Yc _)⟩
  | bl b =>
    cases p with
    | bl a =>
      cases h4
      unfold Rep at h2 h3
      exact op_notB pins s σ H x y v u Q I rx ry ⟨a,b,h2,h3,w.here h1 (Yc _)⟩
    | _=>cases h4
  | _=>cases p <;> cases h4
noncomputable def pIx:PV→PV→Option PV
  | .lst xs,.int i=>atI xs i
  | .tup xs,.int i=>atI xs i
  | .str z,.int i=>if z.length≤LIM then (atI z.cps.toList i).map fun c => .str ⟨#[c]⟩ else none
  | _,_=>none
theorem QiE {K:PySem.W.Frag} {F:Hp} {xs:List PV} {vs:List V} {i:Int} {r:PV} (h:RepL K F xs vs) (e:atI xs i=some r):∃ v,atI vs i=some v∧Rep K F r v:=by
  unfold atI at e ⊢
  rw [h.length]
  cases q:ixN xs.length i with
  | none=>rw [q] at e;cases e
  | some j =>
    rw [q] at e
    exact h.get e
theorem QM:IxR X (rM2 X.K pIx):=by
  intro value slice pins s σ H x y v u Q I rx ry h hs
  obtain ⟨F,p,q,r,h1,h2,h3,h4,w⟩:=h
  cases p <;> cases q <;> first
    | (exfalso;cases h4;done)
    | skip
  · rename_i z i
    have h4:(if z.length≤LIM then (atI z.cps.toList i).map fun c=>PV.str ⟨#[c]⟩ else none)=some r:=h4
    by_cases c:z.length≤LIM
    · rw [if_pos c] at h4
      cases e:atI z.cps.toList i with
      | none=>rw [e] at h4;cases h4
      | some k =>
        rw [e] at h4
        cases h4
        unfold Rep at h2 h3
        exact ix_str value slice pins s σ H x y v u Q I rx ry ⟨z,i,k,h2,h3,Nat.le_trans c Yu,e,w.here h1 (Qij _)⟩ hs
    · rw [if_neg c] at h4;cases h4
  · rename_i xs i
    have h4:atI xs i=some r:=h4
    unfold Rep at h2 h3
    obtain ⟨a,vs,rfl,k2,k3⟩:=h2
    obtain ⟨rv,e1,e2⟩:=QiE k3 h4
    exact ix_tup value slice pins s σ H _ y v u Q I rx ry ⟨a,vs,i,rv,rfl,h3,h1.seqT k2,e1,w.here h1 e2⟩ hs
  · rename_i xs i
    have h4:atI xs i=some r:=h4
    unfold Rep at h2 h3
    obtain ⟨a,vs,rfl,k2,k3⟩:=h2
    obtain ⟨rv,e1,e2⟩:=QiE k3 h4
    exact ix_list value slice pins s σ H _ y v u Q I rx ry ⟨a,vs,i,rv,rfl,h3,h1.seq k2,e1,w.here h1 e2⟩ hs
end
end L2.PM

noncomputable section
namespace L2.PM
open PySem PySem.Spec PyProof.Rows

section
variable {X:Cx} {e a b c:Expr} {es:List Expr} {ms ns ls:List Nat} {m m1 m2 m3:MEx} {pos p2:Pos}

theorem Qh {α β:Type} {x:Option α} {f:α→Option β} {r:β} (h:x.bind f=some r):∃ y,x=some y∧f y=some r:=by
  cases x with
  | none=>cases h
  | some y=>exact ⟨y,rfl,h⟩
theorem Yh {α β:Type} {x:Option α} {f:α→β} {r:β} (h:x.map f=some r):∃ y,x=some y∧f y=r:=by
  cases x with
  | none=>cases h
  | some y=>exact ⟨y,rfl,Option.some.inj h⟩

noncomputable def OM (X:Cx) (ms:List Nat) (e:Option Expr) (m:PEnv→Option (Option Int)):Prop :=
  PO X e fun σ H Q=>∃ F γ r,Same F H∧ERep X.K F σ γ ms∧m γ=some r∧∀ H' F',Grow F H F' H'→Q r H'
noncomputable def mNo:PEnv→Option (Option Int):=fun _=>some none
noncomputable def pInt:PV→Option (Option Int)
  | .int i=>some (some i)
  | _=>none
noncomputable def mSo (m:MEx):PEnv→Option (Option Int):=fun γ=>(m γ).bind pInt
theorem Qef (h:EM X ms e m):OM X ms (some e) (mSo m):=fun pins s σ H Q I ⟨F,γ,r,h1,h2,h3,w⟩=>po_some h pins s σ H Q I (by
  obtain ⟨p,e1,e2⟩:=Qh h3
  refine ⟨F,γ,p,h1,h2,e1,fun v H' F' g q => ?_⟩
  cases p with
  | int i =>
    unfold Rep at q
    cases e2
    exact ⟨i,q,w H' F' g⟩
  | _=>cases e2)
noncomputable def cutP (xs:List α) (lo hi:Option Int):List α:=(xs.drop (HT.sIx xs.length 0 lo)).take (HT.sIx xs.length xs.length hi - HT.sIx xs.length 0 lo)
noncomputable def pCut:PV→Option Int→Option Int→Option (List PV)
  | .lst xs,lo,hi=>some (cutP xs lo hi)
  | _,_,_=>none
noncomputable def sl3 (f:PV→Option Int→Option Int→Option α) (m:MEx) (ml mh:PEnv→Option (Option Int)):PEnv→Option α:=fun γ=>(m γ).bind fun x=>(ml γ).bind fun l=>(mh γ).bind fun h=>f x l h
variable {lo hi:Option Expr} {ml mh:PEnv→Option (Option Int)}
theorem eo_cut (he:EM X ms e m) (hl:OM X ns lo ml) (hh:OM X ls hi mh):EO X (ms++(ns++ls)) (.Subscript e (.Slice lo hi none p2) pos) (sl3 pCut m ml mh):=by
  refine PE.imp (pe_slice sl_list he hl hh) fun σ H Q ⟨F,γ,r,h1,h2,h3,w⟩ => ?_
  obtain ⟨x,e1,h3⟩:=Qh h3
  obtain ⟨l,e2,h3⟩:=Qh h3
  obtain ⟨h,e3,h3⟩:=Qh h3
  refine ⟨F,γ,x,h1,h2.left,e1,fun vx H1 F1 g1 r1=>⟨F1,γ,l,g1.sub,h2.right.left.mono g1.ext,e2,fun H2 F2 g2=>⟨F2,γ,h,g2.sub,h2.right.right.mono (g1.ext.trans g2.ext),e3,fun H3 F3 g3 => ?_⟩⟩⟩
  have g:=g1.trans (g2.trans g3)
  cases x with
  | lst xs =>
    cases h3
    unfold Rep at r1
    obtain ⟨a,vs,rfl,k2,k3⟩:=r1
    have gg:=g2.ext.trans g3.ext
    refine ⟨a,vs,rfl,g3.sub.seq (gg.seq k2),fun p hp => ?_⟩
    have nF:F3 p=none:=g3.sub.free hp
    refine w p _ _ F3 (g.trans (.side g3.sub hp)) (g.same.free hp) nF Qp ?_
    unfold cutV cutP
    rw [k3.length]
    exact ((k3.drop _).take _).mono gg
  | _=>cases h3
variable {t1 t2:PEnv→Option Bool} {rest:List Expr}
noncomputable def WM (X:Cx) (ms:List Nat) (e:Expr) (m:PEnv→Option Bool):Prop:=PW X e (tMT X.K ms m)
theorem WM.tm {e:Expr} (h:WM X ms e t1):TM X ms e t1:=PW.pt h
theorem _root_.L2.PW.imp {t t':TT} (h:PW X e t) (i:∀ σ H Q,t' σ H Q→t σ H Q):PW X e t':=fun whole pins s σ H Q I q=>h whole pins s σ H Q I (i σ H Q q)
theorem Xy (h:TM X ms a t1):WM X ms (.BoolOp .And [a] pos) t1:=pw_and1 h
theorem QaM (h:TM X ms a t1):WM X ms (.BoolOp .Or [a] pos) t1:=pw_or1 h
noncomputable def bAnd (t1 t2:PEnv→Option Bool):PEnv→Option Bool:=fun γ=>(t1 γ).bind fun x=>if x=true then t2 γ else some false
noncomputable def bOr (t1 t2:PEnv→Option Bool):PEnv→Option Bool:=fun γ=>(t1 γ).bind fun x=>if x=true then some true else t2 γ
noncomputable def bNot (t1:PEnv→Option Bool):PEnv→Option Bool:=fun γ=>(t1 γ).map not
theorem Qaf (h1:TM X ms a t1) (h2:WM X ns (.BoolOp .And (b :: rest) pos) t2):WM X (ms++ns) (.BoolOp .And (a :: b :: rest) pos) (bAnd t1 t2) :=
  PW.imp (pw_and h1 h2) fun σ H Q ⟨F,γ,r,k1,k2,k3,w⟩=>by
    obtain ⟨x,e1,k3⟩:=Qh k3
    refine ⟨F,γ,x,k1,k2.left,e1,fun H1 F1 g1 => ?_⟩
    cases x with
    | true =>
      rw [if_pos rfl] at k3 ⊢
      exact ⟨F1,γ,r,g1.sub,k2.right.mono g1.ext,k3,fun H2 F2 g2=>w H2 F2 (g1.trans g2)⟩
    | false =>
      rw [if_neg Bool.false_ne_true] at k3 ⊢
      cases k3
      exact w H1 F1 g1
theorem Qbq (h1:TM X ms a t1) (h2:WM X ns (.BoolOp .Or (b :: rest) pos) t2):WM X (ms++ns) (.BoolOp .Or (a :: b :: rest) pos) (bOr t1 t2) :=
  PW.imp (pw_or h1 h2) fun σ H Q ⟨F,γ,r,k1,k2,k3,w⟩=>by
    obtain ⟨x,e1,k3⟩:=Qh k3
    refine ⟨F,γ,x,k1,k2.left,e1,fun H1 F1 g1 => ?_⟩
    cases x with
    | false =>
      rw [if_neg Bool.false_ne_true] at k3 ⊢
      exact ⟨F1,γ,r,g1.sub,k2.right.mono g1.ext,k3,fun H2 F2 g2=>w H2 F2 (g1.trans g2)⟩
    | true =>
      rw [if_pos rfl] at k3 ⊢
      cases k3
      exact w H1 F1 g1
theorem Yb (h:TM X ms a t1):TM X ms (.UnaryOp .Not a pos) (bNot t1) :=
  PT.imp (pt_not h) fun σ H Q ⟨F,γ,r,k1,k2,k3,w⟩=>by
    obtain ⟨x,e1,k3⟩:=Yh k3
    subst k3
    exact ⟨F,γ,x,k1,k2,e1,w⟩
noncomputable def tru:PV→Option Bool
  | .non=>some false
  | .bl b=>some b
  | .int i=>some (i != 0)
  | .str y=>if y.length≤LIM then some ((y.length:Int) != 0) else none
  | .tup xs=>some (!xs.isEmpty)
  | .lst xs=>some (!xs.isEmpty)
  | .obj _ _ _=>none
  | .opq _=>none
noncomputable def mTru (m:MEx):PEnv→Option Bool:=fun γ=>(m γ).bind tru
theorem Qda {K:PySem.W.Frag} {F:Hp} {xs:List PV} {vs:List V} (h:RepL K F xs vs):vs.isEmpty=xs.isEmpty:=by
  have:=h.length
  cases vs <;> cases xs <;> simp_all
theorem tru_rep {K:PySem.W.Frag} {F H:Hp} {p:PV} {v:V} {k:Bool} (hs:Same F H) (h:Rep K F p v) (e:tru p=some k):TruV K v H k:=by
  cases p <;> unfold Rep at h
  · subst h;cases e;rfl
  · subst h;cases e;rfl
  · subst h;cases e;rfl
  · subst h
    rename_i y
    have e:(if y.length≤LIM then some ((y.length:Int) != 0) else none)=some k:=e
    obtain ⟨c,rfl⟩:=QD e
    exact ⟨Nat.le_trans c Yu,rfl⟩
  · obtain ⟨a,vs,rfl,k2,k3⟩:=h
    cases e
    exact .inr (.inl ⟨vs,hs.seqT k2,by rw [Qda k3]⟩)
  · obtain ⟨a,vs,rfl,k2,k3⟩:=h
    cases e
    exact .inl ⟨vs,hs.seq k2,by rw [Qda k3]⟩
  · cases e
  · cases e
theorem Qu (h:EM X ms e m) (he:∀ whole,isTrue e X.env whole=(do let v ← whole;standAt e.pos;holding [v] (truthy v)):=by intro _;rfl):TM X ms e (mTru m) :=
  PT.imp (pt_truth h he) fun σ H Q ⟨F,γ,r,k1,k2,k3,w⟩=>by
    obtain ⟨p,e1,e2⟩:=Qh k3
    exact ⟨F,γ,p,k1,k2,e1,fun v H' F' g q=>⟨r,tru_rep g.sub q e2,w H' F' g⟩⟩
noncomputable def vAnd (m1 m2:MEx):MEx:=fun γ=>(m1 γ).bind fun x=>(isB x).bind fun k=>if k=true then m2 γ else some (.bl false)
noncomputable def vNot (m1:MEx):MEx:=fun γ=>(m1 γ).bind fun x=>(isB x).map fun k => .bl (!k)
theorem Qiw {K:PySem.W.Frag} {F:Hp} {p:PV} {v:V} {k:Bool} (h:Rep K F p v) (e:isB p=some k):v = .bl k:=by
  cases p with
  | bl b=>unfold Rep at h;cases e;exact h
  | _=>cases e
theorem QeS {op} (h:EM X ms a m):EM X ms (.BoolOp op [a] pos) m:=pe_one h
theorem QdE (h1:EM X ms a m1) (h2:EM X ns (.BoolOp .And (b :: rest) pos) m2):EM X (ms++ns) (.BoolOp .And (a :: b :: rest) pos) (vAnd m1 m2) :=
  PE.imp (pe_and h1 h2) fun σ H Q ⟨F,γ,r,k1,k2,k3,w⟩=>by
    obtain ⟨x,e1,k3⟩:=Qh k3
    obtain ⟨k,e2,k3⟩:=Qh k3
    refine ⟨F,γ,x,k1,k2.left,e1,fun v H1 F1 g1 q=>⟨k,Qiw q e2,?_⟩⟩
    cases k with
    | true =>
      rw [if_pos rfl] at k3 ⊢
      exact ⟨F1,γ,r,g1.sub,k2.right.mono g1.ext,k3,w.go g1⟩
    | false =>
      rw [if_neg Bool.false_ne_true] at k3 ⊢
      cases k3
      exact (w.go g1).here g1.sub (Yc _)
theorem em_not (h1:EM X ms a m1):EM X ms (.UnaryOp .Not a pos) (vNot m1) :=
  PE.imp (pe_not h1) fun σ H Q ⟨F,γ,r,k1,k2,k3,w⟩=>by
    obtain ⟨x,e1,k3⟩:=Qh k3
    obtain ⟨k,e2,k3⟩:=Yh k3
    subst k3
    exact ⟨F,γ,x,k1,k2,e1,fun v H1 F1 g1 q=>⟨k,Qiw q e2,(w.go g1).here g1.sub (Yc _)⟩⟩
noncomputable def mIfE (t:PEnv→Option Bool) (m1 m2:MEx):MEx:=fun γ=>(t γ).bind fun k=>if k=true then m1 γ else m2 γ
theorem em_if (hc:TM X ls c t1) (ha:EM X ms a m1) (hb:EM X ns b m2):EM X (ls++(ms++ns)) (.IfExp c a b pos) (mIfE t1 m1 m2) :=
  PE.imp (pe_ifExp hc ha hb) fun σ H Q ⟨F,γ,r,k1,k2,k3,w⟩=>by
    obtain ⟨k,e1,k3⟩:=Qh k3
    refine ⟨F,γ,k,k1,k2.left,e1,fun H1 F1 g1 => ?_⟩
    cases k with
    | true =>
      rw [if_pos rfl] at k3 ⊢
      exact ⟨F1,γ,r,g1.sub,k2.right.left.mono g1.ext,k3,w.go g1⟩
    | false =>
      rw [if_neg Bool.false_ne_true] at k3 ⊢
      exact ⟨F1,γ,r,g1.sub,k2.right.right.mono g1.ext,k3,w.go g1⟩
noncomputable def un1 (f:PV→Option PV) (m:MEx):MEx:=fun γ=>(m γ).bind f
noncomputable def pNeg:PV→Option PV
  | .int i=>some (.int (-i))
  | _=>none
noncomputable def pInv:PV→Option PV
  | .int i=>some (.int (Builtin.bitNot i))
  | _=>none
theorem em_neg (h:EM X ms a m):EM X ms (.UnaryOp .USub a pos) (un1 pNeg m) :=
  PE.imp (pe_un un_neg h) fun σ H Q ⟨F,γ,r,k1,k2,k3,w⟩=>by
    obtain ⟨x,e1,k3⟩:=Qh k3
    refine ⟨F,γ,x,k1,k2,e1,fun v H1 F1 g1 q => ?_⟩
    cases x with
    | int i=>unfold Rep at q;cases k3;exact ⟨i,q,(w.go g1).here g1.sub (Za _)⟩
    | _=>cases k3
variable {ma:PEnv→Option (List PV)}
noncomputable def aNil:PEnv→Option (List PV):=fun _=>some []
noncomputable def Qc (m:MEx) (ma:PEnv→Option (List PV)):PEnv→Option (List PV):=fun γ=>(m γ).bind fun x=>(ma γ).map (x :: ·)
theorem Qg:AM X [] [] aNil:=PA.imp QbA fun σ H Q ⟨F,γ,r,k1,k2,k3,w⟩=>by
  cases k3
  exact w [] H F (.refl k1) .nil
theorem Qb (h:EM X ms e m) (hr:AM X ns es ma) (hs:starEach (e :: es) X.env=(false,eval e X.env) :: starEach es X.env:=by rfl):AM X (ms++ns) (e :: es) (Qc m ma) :=
  PA.imp (YF h hr hs) fun σ H Q ⟨F,γ,r,k1,k2,k3,w⟩=>by
    obtain ⟨x,e1,k3⟩:=Qh k3
    obtain ⟨xs,e2,k3⟩:=Yh k3
    subst k3
    refine ⟨F,γ,x,k1,k2.left,e1,fun v H1 F1 g1 q1=>⟨F1,γ,xs,g1.sub,k2.right.mono g1.ext,e2,fun vs H2 F2 g2 q2 => ?_⟩⟩
    exact w (v :: vs) H2 F2 (g1.trans g2) (.cons (q1.mono g2.ext) q2)
noncomputable def mLim (m:PEnv→Option (List PV)):PEnv→Option (List PV):=fun γ=>(m γ).bind fun xs=>if xs.length≤LIM then some xs else none
noncomputable def mTup (m:PEnv→Option (List PV)):MEx:=fun γ=>(m γ).bind fun xs=>if xs.length≤LIM then some (.tup xs) else none
theorem Xu {x1} (h:AM X ms es ma):EM X ms (.Tuple es x1 pos) (mTup ma) :=
  PE.imp (pe_tup h) fun σ H Q ⟨F,γ,r,k1,k2,k3,w⟩=>by
    obtain ⟨xs,e1,k3⟩:=Qh k3
    obtain ⟨c,rfl⟩:=QD k3
    refine ⟨F,γ,xs,k1,k2,e1,fun vs H1 F1 g1 q1=>⟨by rw [q1.length];exact Nat.le_trans c Yu,fun p hp => ?_⟩⟩
    refine w _ _ _ (g1.trans (.laid g1.sub hp)) ?_
    unfold Rep
    exact ⟨p,vs,rfl,.of Qp,q1.mono (Grow.laid g1.sub hp).ext⟩
theorem Zf (h:AM X ms es ma):EO X ms (.List es pos) (mLim ma) :=
  PE.imp (QhV h) fun σ H Q ⟨F,γ,r,k1,k2,k3,w⟩=>by
    obtain ⟨xs,e1,k3⟩:=Qh k3
    obtain ⟨c,rfl⟩:=QD k3
    refine ⟨F,γ,xs,k1,k2,e1,fun vs H1 F1 g1 q1=>⟨by rw [q1.length];exact Nat.le_trans c Yu,fun p hp => ?_⟩⟩
    exact w p vs _ F1 (g1.trans (.side g1.sub hp)) (g1.same.free hp) (g1.sub.free hp) Qp q1

noncomputable def rMA (K:PySem.W.Frag) (g:List PV→Option PV):List V→Hp→VK→Prop:=fun vs H Q=>∃ F ps r,Same F H∧RepL K F ps vs∧g ps=some r∧Wv K F H r Q
noncomputable def rMAO (K:PySem.W.Frag) (g:List PV→Option (List PV)):List V→Hp→VK→Prop:=fun vs H Q=>∃ F ps r,Same F H∧RepL K F ps vs∧g ps=some r∧Wo K F H r Q
noncomputable def Qfv (X:Cx) (f:Value) (g:List PV→Option PV):Prop:=Qaa X f (rMA X.K g)
noncomputable def CallO (X:Cx) (f:Value) (g:List PV→Option (List PV)):Prop:=Qaa X f (rMAO X.K g)
noncomputable def Qn (g:List PV→Option α) (ma:PEnv→Option (List PV)):PEnv→Option α:=fun γ=>(ma γ).bind g
theorem tCB_of {K:PySem.W.Frag} {g:List PV→Option PV} {σ:St} {H:Hp} {Q:VK} (h:tM K ms (Qn g ma) σ H Q):tCB (rMA K g) (tMA K ms ma) σ H Q:=by
  obtain ⟨F,γ,r,k1,k2,k3,w⟩:=h
  obtain ⟨xs,e1,k3⟩:=Qh k3
  exact ⟨F,γ,xs,k1,k2,e1,fun vs H1 F1 g1 q1=>⟨F1,xs,r,g1.sub,q1,k3,w.go g1⟩⟩
theorem tCBO_of {K:PySem.W.Frag} {g:List PV→Option (List PV)} {σ:St} {H:Hp} {Q:VK} (h:tMO K ms (Qn g ma) σ H Q):tCB (rMAO K g) (tMA K ms ma) σ H Q:=by
  obtain ⟨F,γ,r,k1,k2,k3,w⟩:=h
  obtain ⟨xs,e1,k3⟩:=Qh k3
  exact ⟨F,γ,xs,k1,k2,e1,fun vs H1 F1 g1 q1=>⟨F1,xs,r,g1.sub,q1,k3,w.go g1⟩⟩
variable {x:Str} {p:Pos} {id T:String}
theorem ZL {g:List PV→Option PV} (hc:Qfv X (.builtin id) g) (hg:Gl X x) (hm:X.mg x=none) (hv:bootBuiltins x=some (.builtin id)) (ha:AM X ms (e :: es) ma) (hn:x ≠ "__name__":=by decide) (hdb:(x==("__debug__":Str))=false:=by decide)
    (he:starEach (e :: es) X.env=(false,eval e X.env) :: starEach es X.env:=by rfl) (hpl:(backTo pos (starEach es X.env)).any (·.1)=false:=by rfl):EM X ms (.Call (.Name x p) (e :: es) [] pos) (Qn g ma) :=
  PE.imp (Qcr hc hg hm hv ha hn hdb he hpl) fun _ _ _ h=>tCB_of h
theorem ZB {g:List PV→Option PV} (hc:Qfv X (.type T) g) (hg:Gl X x) (hm:X.mg x=none) (hv:bootBuiltins x=some (.type T)) (ha:AM X ms (e :: es) ma) (hn:x ≠ "__name__":=by decide) (hdb:(x==("__debug__":Str))=false:=by decide)
    (he:starEach (e :: es) X.env=(false,eval e X.env) :: starEach es X.env:=by rfl) (hpl:(backTo pos (starEach es X.env)).any (·.1)=false:=by rfl):EM X ms (.Call (.Name x p) (e :: es) [] pos) (Qn g ma) :=
  PE.imp (QcQ hc hg hm hv ha hn hdb he hpl) fun _ _ _ h=>tCB_of h
theorem QcU {g:List PV→Option (List PV)} (hc:CallO X (.type T) g) (hg:Gl X x) (hm:X.mg x=none) (hv:bootBuiltins x=some (.type T)) (ha:AM X ms (e :: es) ma) (hn:x ≠ "__name__":=by decide) (hdb:(x==("__debug__":Str))=false:=by decide)
    (he:starEach (e :: es) X.env=(false,eval e X.env) :: starEach es X.env:=by rfl) (hpl:(backTo pos (starEach es X.env)).any (·.1)=false:=by rfl):EO X ms (.Call (.Name x p) (e :: es) [] pos) (Qn g ma) :=
  PE.imp (QcQ hc hg hm hv ha hn hdb he hpl) fun _ _ _ h=>tCBO_of h

noncomputable def spM (K:PySem.W.Frag) (n:Nat) (g:List PV→Option PV):Sp:=fun vs H Q _=>vs.length=n∧rMA K g vs H Q
noncomputable def spO (K:PySem.W.Frag) (n:Nat) (g:List PV→Option (List PV)):Sp:=fun vs H Q _=>vs.length=n∧rMAO K g vs H Q
theorem tCall_of {K:PySem.W.Frag} {n:Nat} {g:List PV→Option PV} {E:XK} {σ:St} {H:Hp} {Q:VK} (hn:∀ ps r,g ps=some r→ps.length=n) (h:tM K ms (Qn g ma) σ H Q):Qjt (spM K n g) [] E (tMA K ms ma) σ H Q:=by
  obtain ⟨F,γ,r,k1,k2,k3,w⟩:=h
  obtain ⟨xs,e1,k3⟩:=Qh k3
  refine ⟨F,γ,xs,k1,k2,e1,fun vs H1 F1 g1 q1 => ?_⟩
  dsimp only
  rw [List.append_nil]
  exact ⟨by rw [q1.length];exact hn _ _ k3,F1,xs,r,g1.sub,q1,k3,w.go g1⟩
theorem QiI {K:PySem.W.Frag} {n:Nat} {g:List PV→Option (List PV)} {E:XK} {σ:St} {H:Hp} {Q:VK} (hn:∀ ps r,g ps=some r→ps.length=n) (h:tMO K ms (Qn g ma) σ H Q):Qjt (spO K n g) [] E (tMA K ms ma) σ H Q:=by
  obtain ⟨F,γ,r,k1,k2,k3,w⟩:=h
  obtain ⟨xs,e1,k3⟩:=Qh k3
  refine ⟨F,γ,xs,k1,k2,e1,fun vs H1 F1 g1 q1 => ?_⟩
  dsimp only
  rw [List.append_nil]
  exact ⟨by rw [q1.length];exact hn _ _ k3,F1,xs,r,g1.sub,q1,k3,w.go g1⟩
variable {CX:CXT} {k n:Nat} {f:Addr} {fd:FuncData} {ps:List Str}
theorem em_call {g:List PV→Option PV} (F:FnOk X.prog X.w X.K X.mg X.base CX0 k f fd ps (spM X.K n g)) (hn:∀ ps r,g ps=some r→ps.length=n) (hr:Room k X.A) (hg:Gl X x) (hm:X.mg x=some (.ref f)) (hk:PySem.W.keepIn X.K (.ref f)=true) (hb:YE X.K fd ps [])
    (ha:AM X ms (e :: es) ma) (hdb:(x==("__debug__":Str))=false:=by decide) (he:starEach (e :: es) X.env=(false,eval e X.env) :: starEach es X.env:=by rfl) (hpl:(backTo pos (starEach es X.env)).any (·.1)=false:=by rfl) :
    EM X ms (.Call (.Name x p) (e :: es) [] pos) (Qn g ma) :=
  PE.imp (QfL (E:=E0) F hr hg hm hk hb .nil Qew ha hdb he hpl) fun _ _ _ h=>tCall_of hn h
theorem eo_call {g:List PV→Option (List PV)} (F:FnOk X.prog X.w X.K X.mg X.base CX0 k f fd ps (spO X.K n g)) (hn:∀ ps r,g ps=some r→ps.length=n) (hr:Room k X.A) (hg:Gl X x) (hm:X.mg x=some (.ref f)) (hk:PySem.W.keepIn X.K (.ref f)=true) (hb:YE X.K fd ps [])
    (ha:AM X ms (e :: es) ma) (hdb:(x==("__debug__":Str))=false:=by decide) (he:starEach (e :: es) X.env=(false,eval e X.env) :: starEach es X.env:=by rfl) (hpl:(backTo pos (starEach es X.env)).any (·.1)=false:=by rfl) :
    EO X ms (.Call (.Name x p) (e :: es) [] pos) (Qn g ma) :=
  PE.imp (QfL (E:=E0) F hr hg hm hk hb .nil Qew ha hdb he hpl) fun _ _ _ h=>QiI hn h
end
end L2.PM

noncomputable section
namespace L2.PM
open PySem PySem.Spec PyProof.Rows

inductive Out where
  | nx (γ:PEnv) | rt (p:PV) | ro (xs:List PV) | bk (γ:PEnv) | ct (γ:PEnv)
noncomputable abbrev MSt:=PEnv→Option Out
noncomputable def flat:PV→Bool
  | .tup _=>false
  | .lst _=>false
  | .obj _ _ _=>false
  | _=>true
theorem Rep.flat {K:PySem.W.Frag} {F F':Hp} {p:PV} {v:V} (f:flat p=true) (h:Rep K F p v):Rep K F' p v:=by
  cases p <;> unfold Rep at h ⊢ <;> first | exact h | (cases f;done)
theorem RepL.flat {K:PySem.W.Frag} {F F':Hp}:∀ {ps:List PV} {vs:List V},ps.all PM.flat=true→RepL K F ps vs→RepL K F' ps vs
  | [],_,_,h=>by unfold RepL at h ⊢;exact h
  | p :: ps,_,f,h=>by
    rw [List.all_cons,Bool.and_eq_true] at f
    unfold RepL at h
    obtain ⟨v,r,rfl,h2,h3⟩:=h
    exact .cons (h2.flat f.1) (RepL.flat f.2 h3)

structure SR (K:PySem.W.Frag) (B F₀ F:Hp) (σ:St) (H:Hp) (γ:PEnv):Prop where
  sub:Same F H
  base:Same B H
  f0:Same F₀ F
  fb:∀ a o,F a=some o→F₀ a=some o∨B a=none
  len:σ.length=γ.length
  fz:∀ (i:Nat) p,γ[i]?=some (.fz p)→∃ v,σ[i]?=some (some v)∧Rep K F p v
  ow:∀ (i:Nat) xs,γ[i]?=some (.ow xs)→∃ a vs,σ[i]?=some (some (.ref a))∧H a=some (.lst vs)∧RepL K F xs vs∧F a=none∧B a=none
  dj:∀ (i j:Nat) xs ys a,i≠j→γ[i]?=some (.ow xs)→γ[j]?=some (.ow ys)→σ[i]?=some (some (.ref a))→σ[j]?≠some (some (.ref a))

noncomputable def frz1 (γ:PEnv) (i:Nat):PEnv:=match γ[i]? with
  | some (.ow xs)=>γ.set i (.fz (.lst xs))
  | _=>γ
noncomputable def frz (ms:List Nat) (γ:PEnv):PEnv:=ms.foldl frz1 γ
theorem Qjb (γ:PEnv) (i j:Nat):getV (frz1 γ i) j=getV γ j:=by
  unfold frz1
  split
  · rename_i xs h
    unfold getV
    by_cases e:i=j
    · subst e
      have hi:i < γ.length:=(List.getElem?_eq_some_iff.mp h).1
      rw [List.getElem?_set_self hi,h]
      rfl
    · rw [List.getElem?_set_ne e]
  · rfl
theorem QgS:∀ (ms:List Nat) (γ:PEnv) (j:Nat),getV (frz ms γ) j=getV γ j
  | [],_,_=>rfl
  | i :: ms,γ,j=>by
    show getV (frz ms (frz1 γ i)) j=_
    rw [QgS ms,Qjb]

section
variable {K:PySem.W.Frag} {B F₀ F F' H H':Hp} {σ:St} {γ:PEnv}
theorem SR.frz1 (S:SR K B F₀ F σ H γ) (i:Nat):∃ F1,SR K B F₀ F1 σ H (frz1 γ i)∧Same F F1:=by
  unfold PM.frz1
  split
  · rename_i xs h
    obtain ⟨a,vs,h1,h2,h3,h4,h5⟩:=S.ow i xs h
    have hi:i < γ.length:=(List.getElem?_eq_some_iff.mp h).1
    have gx:Same F (upd F a (.lst vs)):=fun b u q=>by rw [Ql (Qo q h4)];exact q
    refine ⟨upd F a (.lst vs),⟨fun b u q => ?_,S.base,S.f0.trans gx,fun b u q => ?_,by simpa using S.len,fun j p e => ?_,fun j ys e => ?_,fun j k ys zs c hjk e1 e2 e3 => ?_⟩,gx⟩
    · by_cases z:b=a
      · subst z;rw [Qp] at q;rw [h2];exact q
      · rw [Ql z] at q;exact S.sub b u q
    · by_cases z:b=a
      · subst z;exact .inr h5
      · rw [Ql z] at q;exact S.fb b u q
    · by_cases e':i=j
      · subst e'
        rw [List.getElem?_set_self hi] at e
        cases e
        refine ⟨.ref a,h1,?_⟩
        unfold Rep
        exact ⟨a,vs,rfl,.of Qp,h3.mono gx⟩
      · rw [List.getElem?_set_ne e'] at e
        obtain ⟨v,k1,k2⟩:=S.fz j p e
        exact ⟨v,k1,k2.mono gx⟩
    · by_cases e':i=j
      · subst e'
        rw [List.getElem?_set_self hi] at e
        cases e
      · rw [List.getElem?_set_ne e'] at e
        obtain ⟨c,us,k1,k2,k3,k4,k5⟩:=S.ow j ys e
        have hca:c≠a:=fun z=>by
          subst z
          exact S.dj i j xs ys c e' h e h1 k1
        exact ⟨c,us,k1,k2,k3.mono gx,by rw [Ql hca];exact k4,k5⟩
    · have f:∀ (n:Nat) (zs:List PV),(γ.set i (.fz (.lst xs)))[n]?=some (.ow zs)→γ[n]?=some (.ow zs):=fun n zs q=>by
        by_cases e':i=n
        · subst e'
          rw [List.getElem?_set_self hi] at q
          cases q
        · rw [List.getElem?_set_ne e'] at q;exact q
      exact S.dj j k ys zs c hjk (f j ys e1) (f k zs e2) e3
  · exact ⟨F,S,Same.refl _⟩
theorem SR.frz:∀ (ms:List Nat) {F:Hp} {γ:PEnv},SR K B F₀ F σ H γ→∃ F1,SR K B F₀ F1 σ H (frz ms γ)∧Same F F1
  | [],F,_,S=>⟨F,S,Same.refl _⟩
  | i :: ms,F,γ,S=>by
    obtain ⟨F1,S1,e1⟩:=S.frz1 i
    obtain ⟨F2,S2,e2⟩:=SR.frz ms S1
    exact ⟨F2,S2,e1.trans e2⟩
theorem Qjd {γ:PEnv} {i j:Nat} (h:∀ xs,γ[j]?≠some (.ow xs)):∀ xs,(PM.frz1 γ i)[j]?≠some (.ow xs):=fun xs=>by
  unfold PM.frz1
  split
  · rename_i ys e
    by_cases e':i=j
    · subst e'
      exact absurd e (h ys)
    · rw [List.getElem?_set_ne e'];exact h xs
  · exact h xs
theorem Qjc {γ:PEnv} {i:Nat}:∀ xs,(PM.frz1 γ i)[i]?≠some (.ow xs):=fun xs=>by
  unfold PM.frz1
  split
  · rename_i ys e
    have hi:i < γ.length:=(List.getElem?_eq_some_iff.mp e).1
    rw [List.getElem?_set_self hi]
    intro z;cases z
  · rename_i h
    exact h xs
theorem QgT:∀ (ms:List Nat) {γ:PEnv} {j:Nat},(∀ xs,γ[j]?≠some (.ow xs))→∀ xs,(PM.frz ms γ)[j]?≠some (.ow xs)
  | [],_,_,h=>h
  | i :: ms,γ,j,h=>QgT ms (γ:=PM.frz1 γ i) (Qjd h)
theorem Qiz:∀ (ms:List Nat) {γ:PEnv} {j:Nat},j∈ms→∀ xs,(PM.frz ms γ)[j]?≠some (.ow xs)
  | [],_,_,h=>by cases h
  | i :: ms,γ,j,h=>by
    rcases List.mem_cons.mp h with rfl | h
    · exact QgT ms (γ:=PM.frz1 γ j) Qjc
    · exact Qiz ms (γ:=PM.frz1 γ i) h
theorem SR.erep (S:SR K B F₀ F σ H γ) {ms:List Nat} (h:∀ i∈ms,∀ xs,γ[i]?≠some (.ow xs)):ERep K F σ γ ms:=fun i hi p e=>by
  unfold getV at e
  cases q:γ[i]? with
  | none=>rw [q] at e;cases e
  | some t =>
    cases t with
    | un=>rw [q] at e;cases e
    | fz p' =>
      rw [q] at e
      cases e
      exact S.fz i p q
    | ow xs=>exact absurd q (h i hi xs)
theorem SR.see (S:SR K B F₀ F σ H γ) (ms:List Nat):∃ F1,SR K B F₀ F1 σ H (PM.frz ms γ)∧Same F F1∧ERep K F1 σ γ ms:=by
  obtain ⟨F1,S1,e1⟩:=SR.frz ms S
  refine ⟨F1,S1,e1,fun i hi p e => ?_⟩
  exact S1.erep (ms:=ms) (fun j hj=>Qiz ms hj) i hi p (by rw [QgS];exact e)
theorem SR.same (S:SR K B F₀ F σ H γ) (e:Same H H'):SR K B F₀ F σ H' γ :=
  ⟨S.sub.trans e,S.base.trans e,S.f0,S.fb,S.len,S.fz,fun i xs h=>by
    obtain ⟨a,vs,h1,h2,h3⟩:=S.ow i xs h
    exact ⟨a,vs,h1,e _ _ h2,h3⟩,S.dj⟩
theorem SR.grow (S:SR K B F₀ F σ H γ) (g:Grow F H F' H'):SR K B F₀ F' σ H' γ:=by
  refine ⟨g.sub,S.base.trans g.same,S.f0.trans g.ext,fun a o e => ?_,S.len,fun i p h => ?_,fun i xs h => ?_,S.dj⟩
  · rcases g.new a o e with z | z
    · exact S.fb a o z
    · exact .inr (S.base.free z)
  · obtain ⟨v,h1,h2⟩:=S.fz i p h
    exact ⟨v,h1,h2.mono g.ext⟩
  · obtain ⟨a,vs,h1,h2,h3,h4,h5⟩:=S.ow i xs h
    refine ⟨a,vs,h1,g.same _ _ h2,h3.mono g.ext,?_,h5⟩
    cases q:F' a with
    | none=>rfl
    | some o =>
      rcases g.new a o q with z | z
      · rw [h4] at z;cases z
      · rw [h2] at z;cases z
theorem SR.setFz (S:SR K B F₀ F σ H γ) (i:Nat) {p:PV} {v:V} (r:Rep K F p v):SR K B F₀ F (σ.set i (some v)) H (γ.set i (.fz p)):=by
  have f:∀ (n:Nat) (zs:List PV),(γ.set i (.fz p))[n]?=some (.ow zs)→i≠n∧γ[n]?=some (.ow zs):=fun n zs q=>by
    by_cases e':i=n
    · subst e'
      by_cases hi:i < γ.length
      · rw [List.getElem?_set_self hi] at q;cases q
      · rw [List.getElem?_eq_none (by simpa using hi)] at q;cases q
    · rw [List.getElem?_set_ne e'] at q;exact ⟨e',q⟩
  refine ⟨S.sub,S.base,S.f0,S.fb,by simpa using S.len,fun j q e => ?_,fun j ys e => ?_,fun j k ys zs c hjk e1 e2 e3 => ?_⟩
  · by_cases e':i=j
    · subst e'
      by_cases hi:i < γ.length
      · rw [List.getElem?_set_self hi] at e
        cases e
        exact ⟨v,by rw [List.getElem?_set_self (by rw [S.len];exact hi)],r⟩
      · rw [List.getElem?_eq_none (by simpa using hi)] at e;cases e
    · rw [List.getElem?_set_ne e'] at e
      obtain ⟨u,h1,h2⟩:=S.fz j q e
      exact ⟨u,by rw [List.getElem?_set_ne e'];exact h1,h2⟩
  · obtain ⟨ne,e⟩:=f j ys e
    obtain ⟨a,vs,h1,h2⟩:=S.ow j ys e
    exact ⟨a,vs,by rw [List.getElem?_set_ne ne];exact h1,h2⟩
  · obtain ⟨n1,e1⟩:=f j ys e1
    obtain ⟨n2,e2⟩:=f k zs e2
    rw [List.getElem?_set_ne n1] at e3
    rw [List.getElem?_set_ne n2]
    exact S.dj j k ys zs c hjk e1 e2 e3
theorem SR.setOw (S:SR K B F₀ F σ H γ) (i:Nat) {xs:List PV} {a:Addr} {vs:List V} (hH:H a=some (.lst vs)) (r:RepL K F xs vs) (nF:F a=none) (nB:B a=none)
    (nd:∀ (j:Nat) ys,i≠j→γ[j]?=some (.ow ys)→σ[j]?≠some (some (.ref a))):SR K B F₀ F (σ.set i (some (.ref a))) H (γ.set i (.ow xs)):=by
  refine ⟨S.sub,S.base,S.f0,S.fb,by simpa using S.len,fun j q e => ?_,fun j ys e => ?_,fun j k ys zs c hjk e1 e2 e3 e4 => ?_⟩
  · by_cases e':i=j
    · subst e'
      by_cases hi:i < γ.length
      · rw [List.getElem?_set_self hi] at e;cases e
      · rw [List.getElem?_eq_none (by simpa using hi)] at e;cases e
    · rw [List.getElem?_set_ne e'] at e
      obtain ⟨u,h1,h2⟩:=S.fz j q e
      exact ⟨u,by rw [List.getElem?_set_ne e'];exact h1,h2⟩
  · by_cases e':i=j
    · subst e'
      by_cases hi:i < γ.length
      · rw [List.getElem?_set_self hi] at e
        cases e
        exact ⟨a,vs,by rw [List.getElem?_set_self (by rw [S.len];exact hi)],hH,r,nF,nB⟩
      · rw [List.getElem?_eq_none (by simpa using hi)] at e;cases e
    · rw [List.getElem?_set_ne e'] at e
      obtain ⟨b,us,h1,h2⟩:=S.ow j ys e
      exact ⟨b,us,by rw [List.getElem?_set_ne e'];exact h1,h2⟩
  · by_cases z1:i=j
    · subst z1
      by_cases hi:i < γ.length
      · rw [List.getElem?_set_self (by rw [S.len];exact hi)] at e3
        cases e3
        rw [List.getElem?_set_ne hjk] at e2 e4
        exact nd k zs hjk e2 e4
      · rw [List.getElem?_eq_none (by simpa using hi)] at e1;cases e1
    · rw [List.getElem?_set_ne z1] at e1 e3
      by_cases z2:i=k
      · subst z2
        by_cases hi:i < γ.length
        · rw [List.getElem?_set_self (by rw [S.len];exact hi)] at e4
          cases e4
          exact nd j ys z1 e1 e3
        · rw [List.getElem?_eq_none (by simpa using hi)] at e2;cases e2
      · rw [List.getElem?_set_ne z2] at e2 e4
        exact S.dj j k ys zs c hjk e1 e2 e3 e4
theorem SR.write (S:SR K B F₀ F σ H γ) {i:Nat} {xs ys:List PV} {a:Addr} {us:List V} (hi:γ[i]?=some (.ow xs)) (ha:σ[i]?=some (some (.ref a))) (r:RepL K F ys us) :
    SR K B F₀ F σ (upd H a (.lst us)) (γ.set i (.ow ys)):=by
  obtain ⟨a',vs,h1,h2,h3,h4,h5⟩:=S.ow i xs hi
  rw [ha] at h1
  cases h1
  have hil:i < γ.length:=(List.getElem?_eq_some_iff.mp hi).1
  have stay:∀ b o,H b=some o→b≠a→upd H a (.lst us) b=some o:=fun b o e n=>by rw [Ql n];exact e
  refine ⟨fun b o e=>stay b o (S.sub b o e) (Qo e h4),fun b o e=>stay b o (S.base b o e) (Qo e h5),S.f0,S.fb,by simpa using S.len,fun j q e => ?_,fun j zs e => ?_,fun j k ws zs c hjk e1 e2 e3 e4 => ?_⟩
  · by_cases e':i=j
    · subst e'
      rw [List.getElem?_set_self hil] at e;cases e
    · rw [List.getElem?_set_ne e'] at e;exact S.fz j q e
  · by_cases e':i=j
    · subst e'
      rw [List.getElem?_set_self hil] at e
      cases e
      exact ⟨a,us,ha,Qp,r,h4,h5⟩
    · rw [List.getElem?_set_ne e'] at e
      obtain ⟨b,ts,k1,k2,k3⟩:=S.ow j zs e
      have hb:b≠a:=fun z=>by
        subst z
        exact S.dj i j xs zs b e' hi e ha k1
      exact ⟨b,ts,k1,stay _ _ k2 hb,k3⟩
  · have f:∀ (n:Nat) (ws:List PV),(γ.set i (.ow ys))[n]?=some (.ow ws)→∃ ws',γ[n]?=some (.ow ws'):=fun n ws q=>by
      by_cases e':i=n
      · subst e';exact ⟨xs,hi⟩
      · rw [List.getElem?_set_ne e'] at q;exact ⟨ws,q⟩
    obtain ⟨ws',e1⟩:=f j ws e1
    obtain ⟨zs',e2⟩:=f k zs e2
    exact S.dj j k _ _ c hjk e1 e2 e3 e4
theorem SR.up (S:SR K B F₀ F σ H γ) {F1:Hp} (e1:Same F₀ F1) (e:Same F1 F):SR K B F1 F σ H γ :=
  ⟨S.sub,S.base,e,fun a o q=>(S.fb a o q).imp (fun z=>e1 a o z) id,S.len,S.fz,S.ow,S.dj⟩
theorem SR.down {F1:Hp} (S:SR K B F1 F σ H γ) (e1:Same F₀ F1) (fb1:∀ a o,F1 a=some o→F₀ a=some o∨B a=none):SR K B F₀ F σ H γ :=
  ⟨S.sub,S.base,e1.trans S.f0,fun a o q=>(S.fb a o q).elim (fun z=>fb1 a o z) .inr,S.len,S.fz,S.ow,S.dj⟩
theorem Grow.down {F1:Hp} (g:Grow F1 B F' H') (e1:Same F₀ F1) (fb1:∀ a o,F1 a=some o→F₀ a=some o∨B a=none):Grow F₀ B F' H' :=
  ⟨e1.trans g.ext,g.sub,g.same,fun a o q=>(g.new a o q).elim (fun z=>fb1 a o z) .inr⟩
theorem SR.gr (S:SR K B F₀ F σ H γ):Grow F₀ B F H:=⟨S.f0,S.sub,S.base,S.fb⟩
end

noncomputable def OutOk (K:PySem.W.Frag) (B F₀:Hp) (D:Ends):Out→Prop
  | .nx γ=>∀ σ H F,SR K B F₀ F σ H γ→D.nx σ H
  | .rt p=>∀ v H F,Grow F₀ B F H→Rep K F p v→D.rt v H
  | .ro xs=>∀ a vs H F,Grow F₀ B F H→B a=none→F a=none→H a=some (.lst vs)→RepL K F xs vs→D.rt (.ref a) H
  | .bk γ=>∀ σ H F,SR K B F₀ F σ H γ→D.bk σ H
  | .ct γ=>∀ σ H F,SR K B F₀ F σ H γ→D.ct σ H
noncomputable def tMS (K:PySem.W.Frag) (m:MSt):TS:=fun D σ H=>∃ B F₀ F γ o,SR K B F₀ F σ H γ∧m γ=some o∧OutOk K B F₀ D o
noncomputable def SM (X:Cx) (st:Stmt) (m:MSt):Prop:=PS X st (tMS X.K m)
noncomputable def SMs (X:Cx) (sts:List Stmt) (m:MSt):Prop:=PSs X sts (tMS X.K m)

section
variable {X:Cx} {e a b c:Expr} {st:Stmt} {sts:List Stmt} {ms ns ls:List Nat} {m m1 m2 m3:MEx} {s1 s2:MSt} {pos p2:Pos}
theorem _root_.L2.PSs.imp {t t':TS} (h:PSs X sts t) (i:∀ D σ H,t' D σ H→t D σ H):PSs X sts t':=fun pins s σ H D I q=>h pins s σ H D I (i D σ H q)
noncomputable def sNx:MSt:=fun γ=>some (.nx γ)
noncomputable def sSeq (s1 s2:MSt):MSt:=fun γ=>(s1 γ).bind fun o=>match o with
  | .nx γ'=>s2 γ'
  | o=>some o
theorem QR:SMs X [] sNx:=PSs.imp Qil fun D σ H ⟨B,F₀,F,γ,o,S,e,ok⟩=>by
  cases e
  exact ok σ H F S
theorem Qk (h:SM X st s1):SMs X [st] s1:=Qee h
theorem Qi (h:SM X st s1) (hr:SMs X sts s2):SMs X (st :: sts) (sSeq s1 s2):=PSs.imp (QaV h hr) fun D σ H ⟨B,F₀,F,γ,o,S,e,ok⟩=>by
  obtain ⟨o1,e1,e2⟩:=Qh e
  refine ⟨B,F₀,F,γ,o1,S,e1,?_⟩
  cases o1 with
  | nx γ'=>exact fun σ' H' F' S'=>⟨B,F₀,F',γ',o,S',e2,ok⟩
  | rt p=>cases e2;exact ok
  | ro xs=>cases e2;exact ok
  | bk γ'=>cases e2;exact ok
  | ct γ'=>cases e2;exact ok
noncomputable def sBk:MSt:=fun γ=>some (.bk γ)
noncomputable def sCt:MSt:=fun γ=>some (.ct γ)
noncomputable def sRet (m:MEx):MSt:=fun γ=>(m γ).map .rt
noncomputable def Qju (m:PEnv→Option (List PV)):MSt:=fun γ=>(m γ).map .ro
noncomputable def QcH (i:Nat):MSt:=fun γ=>match γ[i]? with
  | some (.ow xs)=>some (.ro xs)
  | some (.fz p)=>some (.rt p)
  | _=>none
theorem Qx (h:EM X ms e m):SM X (.Return (some e) pos) (sRet m):=PS.imp (QfY h) fun D σ H ⟨B,F₀,F,γ,o,S,e,ok⟩=>by
  obtain ⟨r,e1,e2⟩:=Yh e
  subst e2
  obtain ⟨F1,S1,x1,er⟩:=S.see ms
  exact ⟨F1,γ,r,S1.sub,er,e1,fun v H' F' g q=>ok v H' F' (S1.grow g).gr q⟩
theorem Qii {m:PEnv→Option (List PV)} (h:EO X ms e m):SM X (.Return (some e) pos) (Qju m):=PS.imp (QfY h) fun D σ H ⟨B,F₀,F,γ,o,S,e,ok⟩=>by
  obtain ⟨r,e1,e2⟩:=Yh e
  subst e2
  obtain ⟨F1,S1,x1,er⟩:=S.see ms
  exact ⟨F1,γ,r,S1.sub,er,e1,fun a vs H' F' g n nF hH q=>ok a vs H' F' (S1.grow g).gr (S1.base.free n) nF hH q⟩
theorem Qbt (i:Nat) {x:Str} (h:PE X (.Name x p2) (tVar i)):SM X (.Return (some (.Name x p2)) pos) (QcH i):=PS.imp (QfY h) fun D σ H ⟨B,F₀,F,γ,o,S,e,ok⟩=>by
  unfold QcH at e
  split at e
  · rename_i xs h
    cases e
    obtain ⟨a,vs,h1,h2,h3,h4,h5⟩:=S.ow i xs h
    exact ⟨.ref a,h1,ok a vs H F S.gr h5 h4 h2 h3⟩
  · rename_i p h
    cases e
    obtain ⟨v,h1,h2⟩:=S.fz i p h
    exact ⟨v,h1,ok v H F S.gr h2⟩
  · cases e
noncomputable def sIf (t:PEnv→Option Bool) (s1 s2:MSt):MSt:=fun γ=>(t γ).bind fun k=>if k=true then s1 γ else s2 γ
theorem Zs {t:PEnv→Option Bool} {xs ys:List Stmt} (hc:TM X ms c t) (ha:SMs X xs s1) (hb:SMs X ys s2):SM X (.If c xs ys pos) (sIf t s1 s2):=PS.imp (ps_if hc ha hb) fun D σ H ⟨B,F₀,F,γ,o,S,e,ok⟩=>by
  obtain ⟨k,e1,e2⟩:=Qh e
  obtain ⟨F1,S1,x1,er⟩:=S.see ms
  refine ⟨F1,γ,k,S1.sub,er,e1,fun H' F' g => ?_⟩
  cases k with
  | true=>rw [if_pos rfl] at e2 ⊢;exact ⟨B,F₀,F,γ,o,S.same g.same,e2,ok⟩
  | false=>rw [if_neg Bool.false_ne_true] at e2 ⊢;exact ⟨B,F₀,F,γ,o,S.same g.same,e2,ok⟩
noncomputable def Xb (k:Bool) (ms:List Nat) (γ:PEnv):PEnv:=if k=true then γ else frz ms γ
noncomputable def sSet (ms:List Nat) (i:Nat) (m:MEx):MSt:=fun γ=>(m γ).map fun r => .nx ((Xb (flat r) ms γ).set i (.fz r))
noncomputable def XF (ms:List Nat) (i:Nat) (m:PEnv→Option (List PV)):MSt:=fun γ=>(m γ).map fun xs => .nx ((Xb (xs.all flat) ms γ).set i (.ow xs))
theorem SR.val {K:PySem.W.Frag} {B F₀ F F1 F' H H':Hp} {σ:St} {γ:PEnv} {r:PV} {v:V} (S:SR K B F₀ F σ H γ) (S1:SR K B F₀ F1 σ H (PM.frz ms γ)) (g:Grow F1 H F' H') (q:Rep K F' r v) :
    ∃ F2,SR K B F₀ F2 σ H' (Xb (flat r) ms γ)∧Rep K F2 r v:=by
  unfold Xb
  cases f:flat r with
  | true=>rw [if_pos rfl];exact ⟨F,S.same g.same,q.flat f⟩
  | false=>rw [if_neg Bool.false_ne_true];exact ⟨F',S1.grow g,q⟩
theorem SR.valO {K:PySem.W.Frag} {B F₀ F F1 F' H H':Hp} {σ:St} {γ:PEnv} {r:List PV} {vs:List V} (S:SR K B F₀ F σ H γ) (x1:Same F F1) (S1:SR K B F₀ F1 σ H (PM.frz ms γ)) (g:Grow F1 H F' H') (q:RepL K F' r vs) :
    ∃ F2,SR K B F₀ F2 σ H' (Xb (r.all flat) ms γ)∧RepL K F2 r vs∧Same F2 F':=by
  unfold Xb
  cases f:r.all flat with
  | true=>rw [if_pos rfl];exact ⟨F,S.same g.same,q.flat f,x1.trans g.ext⟩
  | false=>rw [if_neg Bool.false_ne_true];exact ⟨F',S1.grow g,q,Same.refl _⟩
theorem Qy {i:Nat} {x:Str} (hN:X.N.Nodup) (hi:X.N[i]?=some x) (hx:Loc X.env.scope x) (h:EM X ms e m) (hs:swapsWith e (some (.Name x p2)) pos.line X.env=pure false:=by rfl) (hf:X.fn x=true∨X.env.scope.names.lookup x=some .local:=by first | exact .inl rfl | exact .inr rfl | assumption) :
    SM X (.Assign [.Name x p2] e pos) (sSet ms i m):=PS.imp (Qdy hN hi hx h hs hf) fun D σ H ⟨B,F₀,F,γ,o,S,e,ok⟩=>by
  obtain ⟨r,e1,e2⟩:=Yh e
  subst e2
  obtain ⟨F1,S1,x1,er⟩:=S.see ms
  refine ⟨F1,γ,r,S1.sub,er,e1,fun v H' F' g q => ?_⟩
  obtain ⟨F2,S2,q2⟩:=S.val S1 g q
  exact ok _ _ F2 (S2.setFz i q2)
theorem SR.setNew {K:PySem.W.Frag} {B F₀ F F1 F' H H':Hp} {σ:St} {γ:PEnv} {r:List PV} {vs:List V} {a:Addr} (S:SR K B F₀ F σ H γ) (x1:Same F F1) (S1:SR K B F₀ F1 σ H (PM.frz ms γ)) (g:Grow F1 H F' H') (n:H a=none) (nF:F' a=none) (hH:H' a=some (.lst vs)) (q:RepL K F' r vs) (i:Nat) :
    ∃ F2,SR K B F₀ F2 (σ.set i (some (.ref a))) H' ((Xb (r.all flat) ms γ).set i (.ow r)):=by
  obtain ⟨F2,S2,q2,x2⟩:=S.valO x1 S1 g q
  have own:∀ (j:Nat) ys,(Xb (r.all flat) ms γ)[j]?=some (.ow ys)→σ[j]?≠some (some (.ref a)):=fun j ys e1 e2=>by
    have key:∀ {F:Hp} {γ:PEnv},SR K B F₀ F σ H γ→γ[j]?=some (.ow ys)→False:=fun {F γ} T e1=>by
      obtain ⟨b,us,h1,h2,_⟩:=T.ow j ys e1
      rw [e2] at h1
      cases h1
      rw [n] at h2;cases h2
    unfold Xb at e1
    split at e1
    · exact key S e1
    · exact key S1 e1
  exact ⟨F2,S2.setOw i hH q2 (x2.free nF) (S.base.free n) fun j ys _ e1=>own j ys e1⟩
theorem YO {i:Nat} {x:Str} {m:PEnv→Option (List PV)} (hN:X.N.Nodup) (hi:X.N[i]?=some x) (hx:Loc X.env.scope x) (h:EO X ms e m) (hs:swapsWith e (some (.Name x p2)) pos.line X.env=pure false:=by rfl) (hf:X.fn x=true∨X.env.scope.names.lookup x=some .local:=by first | exact .inl rfl | exact .inr rfl | assumption) :
    SM X (.Assign [.Name x p2] e pos) (XF ms i m):=PS.imp (Qdy hN hi hx h hs hf) fun D σ H ⟨B,F₀,F,γ,o,S,e,ok⟩=>by
  obtain ⟨r,e1,e2⟩:=Yh e
  subst e2
  obtain ⟨F1,S1,x1,er⟩:=S.see ms
  refine ⟨F1,γ,r,S1.sub,er,e1,fun a vs H' F' g n nF hH q => ?_⟩
  obtain ⟨F2,S2⟩:=S.setNew x1 S1 g n nF hH q i
  exact ok _ _ F2 S2
end
end L2.PM

noncomputable section
namespace L2.PM
open PySem PySem.Spec PyProof.Rows

theorem _root_.L2.PG.imp {X:Cx} {e:Expr} {t t':TG} (h:PG X e t) (i:∀ v σ H Q,t' v σ H Q→t v σ H Q):PG X e t':=fun pins s σ H v u Q I r q=>h pins s σ H v u Q I r (i v σ H Q q)
theorem Qfd:∀ (ms:List Nat) {γ:PEnv} {j:Nat},j∉ms→(frz ms γ)[j]?=γ[j]?
  | [],_,_,_=>rfl
  | i :: ms,γ,j,h=>by
    show (frz ms (frz1 γ i))[j]?=_
    rw [Qfd ms (fun z=>h (List.mem_cons_of_mem _ z))]
    unfold frz1
    split
    · rw [List.getElem?_set_ne (fun z=>h (by simp [z]))]
    · rfl
theorem QiV {k:Bool} {ms:List Nat} {γ:PEnv} {i:Nat} {xs:List PV} (h:γ[i]?=some (.ow xs)) (c:(k || !ms.contains i)=true):(Xb k ms γ)[i]?=some (.ow xs):=by
  unfold Xb
  cases k with
  | true=>rw [if_pos rfl];exact h
  | false =>
    rw [if_neg Bool.false_ne_true]
    have:i∉ms:=by simpa using c
    rw [Qfd ms this];exact h

section
variable {X:Cx} {e a b c:Expr} {st:Stmt} {sts:List Stmt} {ms ns ls:List Nat} {m m1 m2 m3 mi mv:MEx} {s1 s2:MSt} {pos p2 p3:Pos}

noncomputable def sAug (i:Nat) (f:PV→PV→Option PV) (m:MEx):MSt:=fun γ=>(getV γ i).bind fun x=>(m γ).bind fun y=>(f x y).bind fun r=>if flat r=true then some (.nx (γ.set i (.fz r))) else none
theorem sm_aug {i:Nat} {x:Str} {op:Operator} {f:PV→PV→Option PV} (hN:X.N.Nodup) (hi:X.N[i]?=some x) (hx:Loc X.env.scope x) (h:EM X ms e m) (ho:OpM X (inplaceOp op) f)
    (hf:X.fn x=true∨X.env.scope.names.lookup x=some .local:=by first | exact .inl rfl | exact .inr rfl | assumption):SM X (.AugAssign (.Name x p2) op e pos) (sAug i f m) :=
  PS.imp (ps_aug (ti:=rM2 X.K f) hN hi hx h ho hf) fun D σ H ⟨B,F₀,F,γ,o,S,e,ok⟩=>by
    obtain ⟨x,e1,e⟩:=Qh e
    obtain ⟨y,e2,e⟩:=Qh e
    obtain ⟨r,e3,e⟩:=Qh e
    obtain ⟨fl,rfl⟩:=QD e
    obtain ⟨F1,S1,x1,er⟩:=S.see (i :: ms)
    obtain ⟨xv,h1,h2⟩:=er i (by simp) x e1
    refine ⟨xv,h1,F1,γ,y,S1.sub,fun j hj=>er j (List.mem_cons_of_mem _ hj),e2,fun yv H' F' g q=>⟨F',x,y,r,g.sub,h2.mono g.ext,q,e3,fun zv H2 F2 g2 q2 => ?_⟩⟩
    exact ok _ _ F ((S.same (g.same.trans g2.same)).setFz i (q2.flat fl))

noncomputable def tMG (K:PySem.W.Frag) (ts:List Nat) (g:PV→PEnv→Option PEnv):TG:=fun v σ H Q=>∃ B F₀ F γ p γ',SR K B F₀ F σ H γ∧Rep K F p v∧g p γ=some γ' ∧
  ∀ σ',SR K B F₀ F σ' H γ'→σ'.length=σ.length→(∀ n,n∉ts→σ'[n]?=σ[n]?)→Q σ' H
noncomputable def GM (X:Cx) (ts:List Nat) (tg:Expr) (g:PV→PEnv→Option PEnv):Prop:=PG X tg (tMG X.K ts g)
noncomputable def gSet (i:Nat):PV→PEnv→Option PEnv:=fun p γ=>some (γ.set i (.fz p))
noncomputable def Qez (i j:Nat):PV→PEnv→Option PEnv:=fun p γ=>match p with
  | .tup [x,y]=>some ((γ.set i (.fz x)).set j (.fz y))
  | _=>none
noncomputable def gSet3 (i j k:Nat):PV→PEnv→Option PEnv:=fun p γ=>match p with
  | .tup [x,y,z]=>some (((γ.set i (.fz x)).set j (.fz y)).set k (.fz z))
  | _=>none
theorem Zv {i:Nat} {x:Str} (h:PG X (.Name x pos) (QcK i)):GM X [i] (.Name x pos) (gSet i):=PG.imp h fun v σ H Q ⟨B,F₀,F,γ,p,γ',S,r,e,w⟩=>by
  cases e
  refine w _ (S.setFz i r) (by simp) fun n hn => ?_
  rw [List.getElem?_set_ne (fun z=>hn (by simp [z]))]
theorem Qiy {i j:Nat} {x y:Expr} {kt:Nat} (h:PG X (.Tuple [x,y] kt pos) (gTup X.K 2 (gCons (QcK i) (gCons (QcK j) gNil)))):GM X [i,j] (.Tuple [x,y] kt pos) (Qez i j) :=
  PG.imp h fun v σ H Q ⟨B,F₀,F,γ,p,γ',S,r,e,w⟩=>by
    unfold Qez at e
    split at e
    · rename_i x y
      cases e
      unfold Rep at r
      obtain ⟨a,vs,rfl,k2,k3⟩:=r
      unfold RepL at k3
      obtain ⟨v1,r1,rfl,q1,k3⟩:=k3
      unfold RepL at k3
      obtain ⟨v2,r2,rfl,q2,k3⟩:=k3
      unfold RepL at k3
      subst k3
      refine ⟨a,_,rfl,S.sub.seqT k2,rfl,v1,_,rfl,v2,_,rfl,rfl,?_⟩
      refine w _ ((S.setFz i q1).setFz j q2) (by simp) fun n hn => ?_
      rw [List.getElem?_set_ne (fun z=>hn (by simp [z])),List.getElem?_set_ne (fun z=>hn (by simp [z]))]
    · cases e
noncomputable def sApp (ms:List Nat) (i:Nat) (m:MEx):MSt:=fun γ=>match γ[i]? with
  | some (.ow xs)=>(m γ).bind fun r=>if xs.length < LIM∧(flat r || !ms.contains i)=true then some (.nx ((Xb (flat r) ms γ).set i (.ow (xs++[r])))) else none
  | _=>none
theorem QgE {K:PySem.W.Frag} {H:Hp} {a:Addr} {vs:List V} (h:SqL K H a vs):tyV K "list" (.ref a) H := .inl ⟨rfl,vs,h⟩
theorem XN {i:Nat} {x:Str} {apos cpos:Pos} (hx:PE X (.Name x p2) (tVar i)) (h:EM X ms e m) (ps:PS X (.Expr (.Call (.Attribute (.Name x p2) "append" apos) [e] [] cpos) pos) (Qjs (tBM X.K "list" Qed (tVar i) (tMA X.K ms (Qc m aNil))))) :
    SM X (.Expr (.Call (.Attribute (.Name x p2) "append" apos) [e] [] cpos) pos) (sApp ms i m):=PS.imp ps fun D σ H ⟨B,F₀,F,γ,o,S,e,ok⟩=>by
  unfold sApp at e
  split at e
  · rename_i xs hi
    obtain ⟨r,e1,e⟩:=Qh e
    obtain ⟨⟨hl,c⟩,rfl⟩:=QD e
    obtain ⟨a,vs,h1,h2,_⟩:=S.ow i xs hi
    obtain ⟨F1,S1,x1,er⟩:=S.see ms
    refine ⟨.ref a,h1,QgE (.of h2),F1,γ,[r],S1.sub,er,by simp [Qc,aNil,e1],fun us H' F' g q => ?_⟩
    unfold RepL at q
    obtain ⟨v,t,rfl,q,qt⟩:=q
    unfold RepL at qt
    subst qt
    obtain ⟨F2,S2,q2⟩:=S.val S1 g q
    have hi2:=QiV (k:=flat r) hi c
    obtain ⟨a2,vs2,k1,k2,k3,_⟩:=S2.ow i xs hi2
    rw [h1] at k1
    cases k1
    refine ⟨a,vs2,v,rfl,rfl,k2,?_,?_⟩
    · rw [k3.length];exact Nat.lt_of_lt_of_le hl Yu
    · exact ok _ _ F2 (S2.write hi2 h1 (k3.snoc q2))
  · cases e
structure ItRep (K:PySem.W.Frag) (J:It) (F:Hp) (xs:List PV):Prop where
  go:∀ i H,i < xs.length→Same F H→J.go i H
  yld:∀ i H x H',i < xs.length→Same F H→J.yld i H x H'→∃ p,xs[i]?=some p∧∀ F1,Same F F1→Same F1 H→∃ F2,Grow F1 H F2 H'∧Rep K F2 p x
  stop:∀ H,Same F H→J.stop xs.length H
noncomputable def tMI (K:PySem.W.Frag) (ms:List Nat) (m:PEnv→Option (List PV)):TI:=fun σ H R=>∃ F γ xs,Same F H∧ERep K F σ γ ms∧m γ=some xs∧∀ J H' F',Grow F H F' H'→ItRep K J F' xs→R J H'
noncomputable def IM (X:Cx) (ms:List Nat) (tg iter:Expr) (m:PEnv→Option (List PV)):Prop:=PI X tg iter (tMI X.K ms m)
theorem _root_.L2.PI.imp {tg:Expr} {t t':TI} (h:PI X tg e t) (i:∀ σ H R,t' σ H R→t σ H R):PI X tg e t':=fun pins s σ H R I q=>h pins s σ H R I (i σ H R q)
noncomputable def iLst (m:MEx):PEnv→Option (List PV):=fun γ=>(m γ).bind fun p=>match p with
  | .lst xs=>some xs
  | _=>none
noncomputable def iTpl (m:MEx):PEnv→Option (List PV):=fun γ=>(m γ).bind fun p=>match p with
  | .tup xs=>some xs
  | _=>none
theorem Qck {tg:Expr} (h:EM X ms e m):IM X ms tg e (iLst m):=PI.imp (pi_list h) fun σ H R ⟨F,γ,xs,h1,h2,h3,w⟩=>by
  obtain ⟨p,e1,e2⟩:=Qh h3
  refine ⟨F,γ,p,h1,h2,e1,fun v H' F' g q => ?_⟩
  cases p with
  | lst ys =>
    cases e2
    unfold Rep at q
    obtain ⟨a,vs,rfl,k2,k3⟩:=q
    refine ⟨a,rfl,⟨vs,g.sub.seq k2⟩,w _ _ _ g ?_⟩
    refine ⟨fun i H hi e => ?_,fun i H x H' hi e y => ?_,fun H e => ?_⟩
    · have hv:i < vs.length:=by rw [k3.length];exact hi
      exact ⟨vs,vs[i],e.seq k2,by simp [hv]⟩
    · obtain ⟨rfl,y⟩:=y
      obtain ⟨p,e2,e3⟩:=k3.back (y vs (e.seq k2))
      exact ⟨p,e2,fun F1 x1 x2=>⟨F1,.refl x2,e3.mono x1⟩⟩
    · exact ⟨vs,e.seq k2,by rw [k3.length];exact Nat.le_refl _⟩
  | _=>cases e2
theorem Qgc {tg:Expr} (h:EM X ms e m):IM X ms tg e (iTpl m):=PI.imp (pi_tup h) fun σ H R ⟨F,γ,xs,h1,h2,h3,w⟩=>by
  obtain ⟨p,e1,e2⟩:=Qh h3
  refine ⟨F,γ,p,h1,h2,e1,fun v H' F' g q => ?_⟩
  cases p with
  | tup ys =>
    cases e2
    unfold Rep at q
    obtain ⟨a,vs,rfl,k2,k3⟩:=q
    refine ⟨a,rfl,⟨vs,g.sub.seqT k2⟩,w _ _ _ g ?_⟩
    refine ⟨fun i H hi e => ?_,fun i H x H' hi e y => ?_,fun H e => ?_⟩
    · have hv:i < vs.length:=by rw [k3.length];exact hi
      exact ⟨vs,vs[i],e.seqT k2,by simp [hv]⟩
    · obtain ⟨rfl,y⟩:=y
      obtain ⟨p,e2,e3⟩:=k3.back (y vs (e.seqT k2))
      exact ⟨p,e2,fun F1 x1 x2=>⟨F1,.refl x2,e3.mono x1⟩⟩
    · exact ⟨vs,e.seqT k2,by rw [k3.length];exact Nat.le_refl _⟩
  | _=>cases e2
noncomputable def rngL (lo hi:Int):List PV:=(List.range (hi - lo).toNat).map fun k => .int (lo + (k:Nat))
theorem Qej (lo hi:Int):(rngL lo hi).length=(hi - lo).toNat:=by simp [rngL]
theorem Qis {K:PySem.W.Frag} {F:Hp} (lo hi:Int):ItRep K (Itr lo (hi - lo).toNat) F (rngL lo hi):=by
  refine ⟨fun i H hi' e => ?_,fun i H x H' hi' e y => ?_,fun H e => ?_⟩
  · rw [Qej] at hi';exact hi'
  · obtain ⟨rfl,rfl⟩:=y
    rw [Qej] at hi'
    exact ⟨.int (lo + i),by simp [rngL,hi'],fun F1 x1 x2=>⟨F1,.refl x2,Za _⟩⟩
  · show (hi - lo).toNat≤_
    rw [Qej];exact Nat.le_refl _
noncomputable def rOk (j:Int):Bool:=cls (-(2 ^ 62)≤j∧j < 2 ^ 62)
theorem Qik {j:Int} (h:rOk j=true) : -(2 ^ 62)≤j∧j < 2 ^ 62:=Qbw h
theorem rOk_of {j:Int} (h1 : -(2 ^ 62)≤j) (h2:j < 2 ^ 62):rOk j=true:=QdG ⟨h1,h2⟩
noncomputable def iRg1 (m:MEx):PEnv→Option (List PV):=fun γ=>(m γ).bind fun p=>match p with
  | .int j=>if rOk j=true then some (rngL 0 j) else none
  | _=>none
theorem XX {tg:Expr} (hg:Gl X "range") (hm:X.mg "range"=none) (ha:AM X ms [a] (Qc m aNil)) (hs:starEach [a] X.env=[(false,eval a X.env)]:=by rfl):IM X ms tg (.Call (.Name "range" p2) [a] [] pos) (iRg1 m) :=
  PI.imp (Qfa hg hm ha hs) fun σ H R ⟨F,γ,xs,h1,h2,h3,w⟩=>by
    obtain ⟨p,e1,e2⟩:=Qh h3
    refine ⟨F,γ,[p],h1,h2,by simp [Qc,aNil,e1],fun vs H' F' g q => ?_⟩
    unfold RepL at q
    obtain ⟨v,t,rfl,q,qt⟩:=q
    unfold RepL at qt
    subst qt
    cases p with
    | int j =>
      obtain ⟨c,rfl⟩:=QD e2
      obtain ⟨c1,c2⟩:=Qik c
      unfold Rep at q
      subst q
      refine ⟨j,rfl,c1,c2,w _ _ _ g ?_⟩
      have:=Qis (K:=X.K) (F:=F') 0 j
      simpa using this
    | _=>cases e2
noncomputable def forL (g:PV→PEnv→Option PEnv) (b:MSt):List PV→PEnv→Option Out
  | [],γ=>some (.nx γ)
  | x :: xs,γ=>(g x γ).bind fun γ1=>(b γ1).bind fun o=>match o with
    | .nx γ2=>forL g b xs γ2
    | .ct γ2=>forL g b xs γ2
    | .bk γ2=>some (.nx γ2)
    | .rt p=>some (.rt p)
    | .ro ys=>some (.ro ys)
noncomputable def sFor (ms:List Nat) (mi:PEnv→Option (List PV)) (g:PV→PEnv→Option PEnv) (b:MSt):MSt:=fun γ=>(mi γ).bind fun xs=>forL g b xs (frz ms γ)
theorem QgU {K:PySem.W.Frag} {g:PV→PEnv→Option PEnv} {ts:List Nat} {sb:MSt} {D:Ends} {B F₀ F' H':Hp} {J:It} {xs:List PV} {γ1:PEnv} {σ:St} {o:Out} (S1:SR K B F₀ F' σ H' γ1) (it:ItRep K J F' xs) (e2:forL g sb xs γ1=some o) (ok:OutOk K B F₀ D o) :
    ∃ W:Nat→Nat→St→Hp→Prop,(∃ m,W 0 m σ H')∧∀ i m σ H,W i m σ H →
      (J.stop i H∧D.nx σ H)∨(J.go i H∧∃ N:St→Hp→Prop,(∀ σ' H',N σ' H'→∃ m',m' < m∧W (i + 1) m' σ' H')∧∀ x H',J.yld i H x H'→tMG K ts g x σ H' fun σ2 H2=>tMS K sb { D with nx:=N,ct:=N,bk:=D.nx } σ2 H2):=by
  refine ⟨fun i m σ H=>m=xs.length - i∧i≤xs.length∧∃ F γ,SR K B F₀ F σ H γ∧Same F' F∧forL g sb (xs.drop i) γ=some o,⟨xs.length,by simp,Nat.zero_le _,F',γ1,S1,Same.refl _,by simpa using e2⟩,?_⟩
  rintro i m σ2 H2 ⟨rfl,hi,F2,γ2,S2,x2,e2⟩
  by_cases hlt:i < xs.length
  · refine .inr ⟨it.go i H2 hlt (x2.trans S2.sub),fun σ H=>∃ F γ,SR K B F₀ F σ H γ∧Same F' F∧forL g sb (xs.drop (i + 1)) γ=some o,fun σ' H' q=>⟨xs.length - (i + 1),by omega,rfl,hlt,q⟩,fun x H3 y => ?_⟩
    obtain ⟨p,e3,hy⟩:=it.yld i H2 x H3 hlt (x2.trans S2.sub) y
    obtain ⟨F3,g3,r3⟩:=hy F2 x2 S2.sub
    have S3:=S2.grow g3
    have ed:xs.drop i=p :: xs.drop (i + 1):=by
      have q:=(List.getElem?_eq_some_iff.mp e3)
      obtain ⟨q1,q2⟩:=q
      rw [← q2]
      exact List.drop_eq_getElem_cons q1
    rw [ed] at e2
    unfold forL at e2
    obtain ⟨γ4,e4,e2⟩:=Qh e2
    obtain ⟨ob,e5,e2⟩:=Qh e2
    refine ⟨B,F₀,F3,γ2,p,γ4,S3,r3,e4,fun σ4 S4 _ _ => ?_⟩
    have x3:Same F' F3:=x2.trans g3.ext
    refine ⟨B,F',F3,γ4,ob,S4.up S1.f0 x3,e5,?_⟩
    cases ob with
    | nx γ5=>exact fun σ H F S=>⟨F,γ5,S.down S1.f0 S1.fb,S.f0,e2⟩
    | ct γ5=>exact fun σ H F S=>⟨F,γ5,S.down S1.f0 S1.fb,S.f0,e2⟩
    | bk γ5 =>
      cases e2
      exact fun σ H F S=>ok σ H F (S.down S1.f0 S1.fb)
    | rt p =>
      cases e2
      exact fun v H F gr r=>ok v H F (gr.down S1.f0 S1.fb) r
    | ro ys =>
      cases e2
      exact fun a vs H F gr n nF hH r=>ok a vs H F (gr.down S1.f0 S1.fb) n nF hH r
  · have e:i=xs.length:=by omega
    subst e
    rw [List.drop_length] at e2
    cases e2
    exact .inl ⟨it.stop H2 (x2.trans S2.sub),ok σ2 H2 F2 S2⟩
theorem Qdx {tg iter:Expr} {ts:List Nat} {mi:PEnv→Option (List PV)} {g:PV→PEnv→Option PEnv} {sb:MSt} {body:List Stmt} (hp:PassesOwn (model X.prog X.w) X.A X.env X.xe) (hc:X.calm=true) (hi:IM X ms tg iter mi) (hg:GM X ts tg g) (hb:SMs X body sb)
    (hs:∀ x,foldedSetIterable iter X.env x=pure x:=by intro _;rfl):SM X (.For tg iter body [] pos) (sFor ms mi g sb):=PS.imp (QhU hp hc hi hg hb hs) fun D σ H ⟨B,F₀,F,γ,o,S,e,ok⟩=>by
  obtain ⟨xs,e1,e2⟩:=Qh e
  obtain ⟨F1,S1,x1,er⟩:=S.see ms
  exact ⟨F1,γ,xs,S1.sub,er,e1,fun J H' F' gr it=>QgU (S1.grow gr) it e2 ok⟩
noncomputable def QhN (mi:PEnv→Option (List PV)) (g:PV→PEnv→Option PEnv) (b:MSt):MSt:=fun γ=>(mi γ).bind fun xs=>forL g b xs γ
noncomputable def IMR (X:Cx) (ms:List Nat) (tg iter:Expr) (m:PEnv→Option (List PV)):Prop:=PI X tg iter fun σ H R=>∃ F γ xs,Same F H∧ERep X.K F σ γ ms∧m γ=some xs∧∀ J H',Same H H'→(∀ F,ItRep X.K J F xs)→R J H'
theorem QfK {tg iter:Expr} {ts:List Nat} {mi:PEnv→Option (List PV)} {g:PV→PEnv→Option PEnv} {sb:MSt} {body:List Stmt} (hp:PassesOwn (model X.prog X.w) X.A X.env X.xe) (hc:X.calm=true) (hi:IMR X ms tg iter mi) (hg:GM X ts tg g) (hb:SMs X body sb)
    (hs:∀ x,foldedSetIterable iter X.env x=pure x:=by intro _;rfl):SM X (.For tg iter body [] pos) (QhN mi g sb):=PS.imp (QhU hp hc hi hg hb hs) fun D σ H ⟨B,F₀,F,γ,o,S,e,ok⟩=>by
  obtain ⟨xs,e1,e2⟩:=Qh e
  obtain ⟨F1,S1,x1,er⟩:=S.see ms
  exact ⟨F1,γ,xs,S1.sub,er,e1,fun J H' sm it=>QgU (S.same sm) (it F) e2 ok⟩
theorem QbG {tg:Expr} (hg:Gl X "range") (hm:X.mg "range"=none) (ha:AM X ms [a] (Qc m aNil)) (hs:starEach [a] X.env=[(false,eval a X.env)]:=by rfl):IMR X ms tg (.Call (.Name "range" p2) [a] [] pos) (iRg1 m) :=
  PI.imp (Qfa hg hm ha hs) fun σ H R ⟨F,γ,xs,h1,h2,h3,w⟩=>by
    obtain ⟨p,e1,e2⟩:=Qh h3
    refine ⟨F,γ,[p],h1,h2,by simp [Qc,aNil,e1],fun vs H' F' g q => ?_⟩
    unfold RepL at q
    obtain ⟨v,t,rfl,q,qt⟩:=q
    unfold RepL at qt
    subst qt
    cases p with
    | int j =>
      obtain ⟨c,rfl⟩:=QD e2
      obtain ⟨c1,c2⟩:=Qik c
      unfold Rep at q
      subst q
      refine ⟨j,rfl,c1,c2,w _ _ g.same fun F => ?_⟩
      have:=Qis (K:=X.K) (F:=F) 0 j
      simpa using this
    | _=>cases e2
noncomputable def QaN (t:PEnv→Option Bool) (b:MSt):Nat→PEnv→Option Out
  | 0,_=>none
  | n + 1,γ=>(t γ).bind fun k=>if k=true then (b γ).bind fun o=>match o with
      | .nx γ2=>QaN t b n γ2
      | .ct γ2=>QaN t b n γ2
      | .bk γ2=>some (.nx γ2)
      | .rt p=>some (.rt p)
      | .ro ys=>some (.ro ys)
    else some (.nx γ)
noncomputable def QeN (N:Nat) (t:PEnv→Option Bool) (b:MSt):MSt:=QaN t b N
theorem QgG (N:Nat) {t:PEnv→Option Bool} {sb:MSt} {body:List Stmt} (hp:PassesOwn (model X.prog X.w) X.A X.env X.xe) (hc:TM X ms c t) (hb:SMs X body sb):SM X (.While c body [] pos) (QeN N t sb):=PS.imp (ps_while hp hc hb) fun D σ H ⟨B,F₀,F,γ,o,S,e,ok⟩=>by
  refine ⟨fun n σ H=>∃ F γ,SR X.K B F₀ F σ H γ∧QaN t sb n γ=some o,⟨N,F,γ,S,e⟩,?_⟩
  rintro n σ1 H1 ⟨F1,γ1,S1,e1⟩
  cases n with
  | zero=>cases e1
  | succ n =>
    unfold QaN at e1
    obtain ⟨k,e2,e1⟩:=Qh e1
    obtain ⟨F2,S2,x2,er⟩:=S1.see ms
    refine ⟨F2,γ1,k,S2.sub,er,e2,fun H' F' g => ?_⟩
    cases k with
    | true =>
      rw [if_pos rfl] at e1 ⊢
      obtain ⟨ob,e3,e1⟩:=Qh e1
      refine ⟨fun σ H=>∃ F γ,SR X.K B F₀ F σ H γ∧QaN t sb n γ=some o,fun σ' H' q=>⟨n,Nat.lt_succ_self n,q⟩,B,F₀,F1,γ1,ob,S1.same g.same,e3,?_⟩
      cases ob with
      | nx γ5=>exact fun σ H F S=>⟨F,γ5,S,e1⟩
      | ct γ5=>exact fun σ H F S=>⟨F,γ5,S,e1⟩
      | bk γ5=>cases e1;exact ok
      | rt p=>cases e1;exact ok
      | ro ys=>cases e1;exact ok
    | false =>
      rw [if_neg Bool.false_ne_true] at e1 ⊢
      cases e1
      exact ok σ1 H' F1 (S1.same g.same)
end
end L2.PM

noncomputable section
namespace L2.PM
open PySem PySem.Spec PyProof.Rows

noncomputable def capS (γ:PEnv) (j:Nat):Slot:=match getV γ j with
  | some p => .fz p
  | none => .un
noncomputable def blkG (nt:Nat) (caps:List Nat) (γ:PEnv):PEnv:=List.replicate nt .un++caps.map (capS γ)
noncomputable def XZ (g:PV→PEnv→Option PEnv) (t:PEnv→Option Bool) (e:MEx) (γ:PEnv):List PV→Option (List PV)
  | []=>some []
  | x :: xs=>(g x γ).bind fun γ1=>(t γ1).bind fun k=>if k=true then (e γ1).bind fun y=>(XZ g t e γ xs).map (y :: ·) else XZ g t e γ xs
noncomputable def XY (mi:PEnv→Option (List PV)) (nt:Nat) (caps:List Nat) (g:PV→PEnv→Option PEnv) (t:PEnv→Option Bool) (e:MEx):PEnv→Option (List PV) :=
  fun γ=>(mi γ).bind fun xs=>if xs.length≤LIM then XZ g t e (blkG nt caps γ) xs else none
noncomputable def Qdv:PEnv→Option Bool:=fun _=>some true
noncomputable def IfM (X:Cx) (ms:List Nat) (ifs:List Expr) (t:PEnv→Option Bool):Prop:=PIfs X ifs (tMT X.K ms t)
theorem Qgd {X:Cx}:IfM X [] [] Qdv:=fun pins s σ H Q I ⟨F,γ,r,h1,h2,h3,w⟩=>pifs_nil pins s σ H Q I (by
  cases h3
  exact w H F (.refl h1))
theorem QdD {X:Cx} {ms:List Nat} {c:Expr} {t:PEnv→Option Bool} (h:TM X ms c t):IfM X ms [c] t:=pifs_one h

theorem blk_sr {K:PySem.W.Frag} {F H:Hp} {σ:St} {γ:PEnv} {nt:Nat} {caps:List Nat} (h:Same F H) (er:ERep K F σ γ caps):SR K H F F (XQ nt caps σ) H (blkG nt caps γ):=by
  have key:∀ (i:Nat) (t:Slot),(blkG nt caps γ)[i]?=some t→t = .un∨∃ j p,caps[i - nt]?=some j∧nt≤i∧getV γ j=some p∧t = .fz p:=fun i t e=>by
    unfold blkG at e
    by_cases hi:i < nt
    · rw [List.getElem?_append_left (by simpa using hi),List.getElem?_replicate,if_pos hi] at e
      exact .inl (Option.some.inj e).symm
    · rw [List.getElem?_append_right (by simpa using hi),List.length_replicate,List.getElem?_map] at e
      cases q:caps[i - nt]? with
      | none=>rw [q] at e;cases e
      | some j =>
        rw [q] at e
        have e:capS γ j=t:=Option.some.inj e
        unfold capS at e
        split at e
        · rename_i p hp
          exact .inr ⟨j,p,rfl,by omega,hp,e.symm⟩
        · exact .inl e.symm
  refine ⟨h,Same.refl _,Same.refl _,fun a o e => .inl e,by simp [XQ,blkG],fun i p e => ?_,fun i xs e => ?_,fun i j xs ys a _ e => ?_⟩
  · rcases key i _ e with z | ⟨j,p',e1,hi,e2,z⟩
    · cases z
    · cases z
      obtain ⟨v,h1,h2⟩:=er j (List.mem_of_getElem? e1) p e2
      refine ⟨v,?_,h2⟩
      unfold XQ
      rw [List.getElem?_append_right (by simpa using hi),List.length_replicate,List.getElem?_map,e1]
      show some ((σ[j]?).getD none)=some (some v)
      rw [h1]
      rfl
  · rcases key i _ e with z | ⟨j,p',e1,hi,e2,z⟩ <;> cases z
  · rcases key i _ e with z | ⟨j',p',e1,hi,e2,z⟩ <;> cases z
theorem Qep {γ:PEnv} {i:Nat} {p:PV} (h:∀ (j:Nat) xs,γ[j]?≠some (.ow xs)):∀ (j:Nat) xs,(γ.set i (.fz p))[j]?≠some (.ow xs):=fun j xs e=>by
  by_cases z:i=j
  · subst z
    by_cases hi:i < γ.length
    · rw [List.getElem?_set_self hi] at e;cases e
    · rw [List.getElem?_eq_none (by simpa using hi)] at e;cases e
  · rw [List.getElem?_set_ne z] at e;exact h j xs e
theorem noOw_blk {nt:Nat} {caps:List Nat} {γ:PEnv}:∀ (j:Nat) xs,(blkG nt caps γ)[j]?≠some (.ow xs):=fun j xs e=>by
  unfold blkG at e
  by_cases hi:j < nt
  · rw [List.getElem?_append_left (by simpa using hi),List.getElem?_replicate,if_pos hi] at e;cases e
  · rw [List.getElem?_append_right (by simpa using hi),List.length_replicate,List.getElem?_map] at e
    cases q:caps[j - nt]? with
    | none=>rw [q] at e;cases e
    | some k =>
      rw [q] at e
      have e:capS γ k = .ow xs:=Option.some.inj e
      unfold capS at e
      split at e <;> cases e
noncomputable def NoOw (g:PV→PEnv→Option PEnv):Prop:=∀ p γ γ',g p γ=some γ'→(∀ (j:Nat) xs,γ[j]?≠some (.ow xs))→∀ (j:Nat) xs,γ'[j]?≠some (.ow xs)
theorem Yn (i:Nat):NoOw (gSet i):=fun p γ γ' e h=>by cases e;exact Qep h
theorem Qhw (i j:Nat):NoOw (Qez i j):=fun p γ γ' e h=>by
  unfold Qez at e
  split at e
  · cases e;exact Qep (Qep h)
  · cases e

section
variable {X:Cx} {pins:List (Addr×Obj)} {scope:Scope} {N':List Str} {nt:Nat} {caps:List Nat} {tg iter elt:Expr} {ifs:List Expr} {pos:Pos} {ms ns ls:List Nat} {ts:List Nat}
  {mi:PEnv→Option (List PV)} {g:PV→PEnv→Option PEnv} {t:PEnv→Option Bool} {m:MEx}
theorem Qfj {K:PySem.W.Frag} {F1 H1:Hp} {J:It} {σ:St} {γ:PEnv} {xs ys:List PV} {Qd:Addr→Hp→Prop} (hts:∀ i∈ts,i < nt) (hno:NoOw g) (h1:Same F1 H1) (er:ERep K F1 σ γ caps) (it:ItRep K J F1 xs) (hl:xs.length≤LIM) (e:XZ g t m (blkG nt caps γ) xs=some ys)
    (w:∀ D vs H2 F2,Grow F1 H1 F2 H2→H1 D=none→F2 D=none→H2 D=some (.lst vs)→RepL K F2 ys vs→Qd D H2) :
    QeV J nt caps (tMG K ts g) (tMT K ns t) (tM K ls m) σ H1 Qd:=by
  intro D hD
  have nF1:F1 D=none:=h1.free hD
  refine ⟨fun i k acc H=>k=xs.length - i∧i≤xs.length∧∃ F ps rest,Grow F1 H1 F H∧F D=none∧H D=some (.lst acc)∧RepL K F ps acc∧XZ g t m (blkG nt caps γ) (xs.drop i)=some rest∧ps++rest=ys∧ps.length≤i,
    ⟨xs.length,by simp,Nat.zero_le _,F1,[],ys,.side h1 hD,nF1,Qp,.nil,by simpa using e,rfl,Nat.le_refl _⟩,?_⟩
  rintro i k acc H ⟨rfl,hi,F,ps,rest,gr,nF,hH,rp,e,ey,hpl⟩
  by_cases hlt:i < xs.length
  · refine .inr ⟨it.go i H hlt (gr.ext.trans gr.sub),fun x H3 y => ?_⟩
    obtain ⟨p,e3,hy⟩:=it.yld i H x H3 hlt (gr.ext.trans gr.sub) y
    obtain ⟨F3,g3,r3⟩:=hy F gr.ext gr.sub
    have ed:xs.drop i=p :: xs.drop (i + 1):=by
      obtain ⟨q1,q2⟩:=List.getElem?_eq_some_iff.mp e3
      rw [← q2]
      exact List.drop_eq_getElem_cons q1
    rw [ed] at e
    unfold XZ at e
    obtain ⟨γ4,e4,e⟩:=Qh e
    obtain ⟨b,e5,e⟩:=Qh e
    have g13:=gr.trans g3
    have S3:=blk_sr (nt:=nt) g3.sub (er.mono g13.ext)
    refine ⟨H3,F3,F3,_,p,γ4,S3,r3,e4,fun σ4 S4 l4 k4=>⟨⟨l4,fun n v hv => ?_⟩,?_⟩⟩
    · by_cases hn:n∈ts
      · have hn':=hts n hn
        unfold XQ at hv
        rw [List.getElem?_append_left (by simpa using hn'),List.getElem?_replicate,if_pos hn'] at hv
        cases hv
      · rw [k4 n hn];exact hv
    · have no4:=hno p _ γ4 e4 noOw_blk
      refine ⟨F3,γ4,b,g3.sub,S4.erep fun j _=>no4 j,e5,fun H5 F5 g5 => ?_⟩
      have nD:∀ {F' H':Hp},Grow F H F' H'→F' D=none:=fun {F' H'} gg=>by
        cases q:F' D with
        | none=>rfl
        | some o =>
          rcases gg.new D o q with z | z
          · rw [nF] at z;cases z
          · rw [hH] at z;cases z
      dsimp only
      cases b with
      | true =>
        rw [if_pos rfl] at e ⊢
        obtain ⟨yv,e6,e⟩:=Qh e
        obtain ⟨rest',e7,e8⟩:=Yh e
        refine ⟨F5,γ4,yv,g5.sub,(S4.erep fun j _=>no4 j).mono g5.ext,e6,fun v H6 F6 g6 q6 => ?_⟩
        have gg:=g3.trans (g5.trans g6)
        have hD6:H6 D=some (.lst acc):=gg.same _ _ hH
        have nF6:=nD gg
        refine ⟨hD6,?_,xs.length - (i + 1),by omega,rfl,hlt,F6,ps++[yv],rest',?_,nF6,Qp,(rp.mono gg.ext).snoc q6,e7,?_,?_⟩
        · rw [rp.length]
          exact Nat.lt_of_lt_of_le (by omega) Yu
        · have g16:=gr.trans gg
          refine ⟨g16.ext,fun a o q => ?_,fun a o q => ?_,g16.new⟩
          · rw [Ql (Qo q nF6)];exact g16.sub a o q
          · rw [Ql (Qo q hD)];exact g16.same a o q
        · rw [List.append_assoc,List.singleton_append,e8];exact ey
        · rw [List.length_append,List.length_singleton];omega
      | false =>
        rw [if_neg Bool.false_ne_true] at e ⊢
        have gg:=g3.trans g5
        exact ⟨xs.length - (i + 1),by omega,rfl,hlt,F5,ps,rest,gr.trans gg,nD gg,gg.same _ _ hH,rp.mono gg.ext,e,ey,by omega⟩
  · have e':i=xs.length:=by omega
    subst e'
    rw [List.drop_length] at e
    cases e
    rw [List.append_nil] at ey
    subst ey
    exact .inl ⟨it.stop H (gr.ext.trans gr.sub),w D acc H F gr hD nF hH rp⟩
theorem XV (hc:X.calm=true) (ck:CompOk X.N X.env.scope scope N' nt caps) (hts:∀ i∈ts,i < nt) (hno:NoOw g) (hi:IM X ms tg iter mi)
    (hg:∀ pins cl C s H fp,GM (Qay X pins N' (Zl X.env.scope scope) cl C s H fp) ts tg g)
    (ht:∀ pins cl C s H fp,IfM (Qay X pins N' (Zl X.env.scope scope) cl C s H fp) ns ifs t)
    (he:∀ pins cl C s H fp,EM (Qay X pins N' (Zl X.env.scope scope) cl C s H fp) ls elt m)
    (hs:∀ x,foldedSetIterable iter X.env x=pure x:=by intro _;rfl) (hrel:relabel scope X.env=Zl X.env.scope scope:=by rfl) :
    EO X (ms++caps) (.ListComp elt [⟨tg,iter,ifs,0⟩] scope pos) (XY mi nt caps g t m) :=
  PE.imp (pe_comp (g:=tMG X.K ts g) (tc:=tMT X.K ns t) (te:=tM X.K ls m) hc ck hi hg ht he hs hrel) fun σ H Q ⟨F,γ,ys,h1,h2,h3,w⟩=>by
    obtain ⟨xs,e1,h3⟩:=Qh h3
    have hl:xs.length≤LIM:=by
      by_cases c:xs.length≤LIM
      · exact c
      · rw [if_neg c] at h3;cases h3
    rw [if_pos hl] at h3
    refine ⟨F,γ,xs,h1,h2.left,e1,fun J H1 F1 g1 it => ?_⟩
    exact Qfj hts hno g1.sub (h2.right.mono g1.ext) it hl h3 fun D vs H2 F2 g2 n nF hH q=>w D vs H2 F2 (g1.trans g2) (g1.same.free n) nF hH q
theorem Qgm {i:Nat} {y:Str} {py spos:Pos} (hN:X.N.Nodup) (hi':X.N[i]?=some y) (hy:X.env.scope.names.lookup y=some .local) (hc:X.calm=true) (ck:CompOkC X.N X.env.scope scope N' nt caps) (hts:∀ i∈ts,i < nt) (hno:NoOw g) (hi:IM X ms tg iter mi)
    (hg:∀ pins cl C s H fp,GM (Xv X (ownC scope) pins N' (Zl X.env.scope scope) cl C s H fp) ts tg g)
    (ht:∀ pins cl C s H fp,IfM (Xv X (ownC scope) pins N' (Zl X.env.scope scope) cl C s H fp) ns ifs t)
    (he:∀ pins cl C s H fp,EM (Xv X (ownC scope) pins N' (Zl X.env.scope scope) cl C s H fp) ls elt m)
    (hsw:swapsWith (.ListComp elt [⟨tg,iter,ifs,0⟩] scope pos) (some (.Name y py)) spos.line X.env=pure true:=by rfl)
    (hs:∀ x,foldedSetIterable iter X.env x=pure x:=by intro _;rfl) (hrel:relabel scope X.env=Zl X.env.scope scope:=by rfl) :
    SM X (.Assign [.Name y py] (.ListComp elt [⟨tg,iter,ifs,0⟩] scope pos) spos) (XF (ms++caps) i (XY mi nt caps g t m)) :=
  PS.imp (Qgn (g:=tMG X.K ts g) (tc:=tMT X.K ns t) (te:=tM X.K ls m) hN hi' hy hc ck hi hg ht he hsw hs hrel) fun D σ H ⟨B,F₀,F,γ,o,S,e,ok⟩=>by
    obtain ⟨ys,h3,e2⟩:=Yh e
    subst e2
    obtain ⟨xs,e1,h3⟩:=Qh h3
    have hl:xs.length≤LIM:=by
      by_cases c:xs.length≤LIM
      · exact c
      · rw [if_neg c] at h3;cases h3
    rw [if_pos hl] at h3
    obtain ⟨F1,S1,x1,er⟩:=S.see (ms++caps)
    refine ⟨F1,γ,xs,S1.sub,er.left,e1,fun J H1 F2 g1 it => ?_⟩
    refine Qfj hts hno g1.sub (er.right.mono g1.ext) it hl h3 fun D vs H2 F3 g2 n nF hH q => ?_
    obtain ⟨F4,S4⟩:=S.setNew x1 S1 (g1.trans g2) (g1.same.free n) nF hH q i
    exact ok _ _ F4 S4
theorem QdO {i:Nat} {y:Str} {py spos:Pos} (hN:X.N.Nodup) (hi':X.N[i]?=some y) (hy:X.env.scope.names.lookup y=some .local) (hc:X.calm=true) (ck:CompOk X.N X.env.scope scope N' nt caps) (hts:∀ i∈ts,i < nt) (hno:NoOw g) (hi:IM X ms tg iter mi)
    (hg:∀ pins cl C s H fp,GM (Qay X pins N' (Zl X.env.scope scope) cl C s H fp) ts tg g)
    (ht:∀ pins cl C s H fp,IfM (Qay X pins N' (Zl X.env.scope scope) cl C s H fp) ns ifs t)
    (he:∀ pins cl C s H fp,EM (Qay X pins N' (Zl X.env.scope scope) cl C s H fp) ls elt m)
    (hsw:swapsWith (.ListComp elt [⟨tg,iter,ifs,0⟩] scope pos) (some (.Name y py)) spos.line X.env=pure true:=by rfl)
    (hs:∀ x,foldedSetIterable iter X.env x=pure x:=by intro _;rfl) (hrel:relabel scope X.env=Zl X.env.scope scope:=by rfl) :
    SM X (.Assign [.Name y py] (.ListComp elt [⟨tg,iter,ifs,0⟩] scope pos) spos) (XF (ms++caps) i (XY mi nt caps g t m)):=Qgm hN hi' hy hc ck.C hts hno hi (by rw [ck.eqC];exact hg) (by rw [ck.eqC];exact ht) (by rw [ck.eqC];exact he) hsw hs hrel
end

noncomputable def Zp (n:Nat) (ps:List PV):PEnv:=ps.map .fz++List.replicate (n - ps.length) .un
noncomputable def outV:Out→Option PV
  | .nx _=>some .non
  | .rt p=>some p
  | .ro xs=>some (.lst xs)
  | _=>none
noncomputable def outO:Out→Option (List PV)
  | .ro xs=>some xs
  | _=>none
noncomputable def runV (N n:Nat) (m:MSt) (ps:List PV):Option PV:=if ps.length=n then (m (Zp N ps)).bind outV else none
noncomputable def runO (N n:Nat) (m:MSt) (ps:List PV):Option (List PV):=if ps.length=n then (m (Zp N ps)).bind outO else none
theorem Qv {N n:Nat} {m:MSt}:∀ ps r,runV N n m ps=some r→ps.length=n:=fun ps r h=>by
  unfold runV at h
  by_cases c:ps.length=n
  · exact c
  · rw [if_neg c] at h;cases h
theorem runO_len {N n:Nat} {m:MSt}:∀ ps r,runO N n m ps=some r→ps.length=n:=fun ps r h=>by
  unfold runO at h
  by_cases c:ps.length=n
  · exact c
  · rw [if_neg c] at h;cases h
theorem Qco {K:PySem.W.Frag} {F H:Hp} {N:List Str} {ps:List PV} {vs:List V} (h:Same F H) (r:RepL K F ps vs):SR K H F F (XL N vs) H (Zp N.length ps):=by
  have key:∀ (i:Nat) (t:Slot),(Zp N.length ps)[i]?=some t→t = .un∨∃ p,ps[i]?=some p∧t = .fz p:=fun i t e=>by
    unfold Zp at e
    by_cases hi:i < ps.length
    · rw [List.getElem?_append_left (by simpa using hi),List.getElem?_map] at e
      cases q:ps[i]? with
      | none=>rw [q] at e;cases e
      | some p=>rw [q] at e;exact .inr ⟨p,rfl,(Option.some.inj e).symm⟩
    · rw [List.getElem?_append_right (by simpa using hi),List.getElem?_replicate] at e
      split at e
      · exact .inl (Option.some.inj e).symm
      · cases e
  refine ⟨h,Same.refl _,Same.refl _,fun a o e => .inl e,?_,fun i p e => ?_,fun i xs e => ?_,fun i j xs ys a _ e => ?_⟩
  · unfold XL Zp
    rw [List.length_append,List.length_append,List.length_map,List.length_map,List.length_replicate,List.length_replicate,r.length]
  · rcases key i _ e with z | ⟨p',e1,z⟩
    · cases z
    · cases z
      obtain ⟨v,h1,h2⟩:=r.get e1
      refine ⟨v,?_,h2⟩
      unfold XL
      have hi:i < vs.length:=(List.getElem?_eq_some_iff.mp h1).1
      rw [List.getElem?_append_left (by simpa using hi),List.getElem?_map,h1]
      rfl
  · rcases key i _ e with z | ⟨p',e1,z⟩ <;> cases z
  · rcases key i _ e with z | ⟨p',e1,z⟩ <;> cases z
section
variable {P:Program} {w:World} {K:PySem.W.Frag} {mg:Str→Option Value} {base:Heap}
theorem fnM {x qual:Str} {st:Stmt} {f:Addr} {fd:FuncData} {N ps:List Str} {k n:Nat} {m:MSt} (Fn:Fun K x qual st f fd) (Sc:FnScope N ps (Qe st)) (hn:ps.length=n)
    (hbody:∀ (cdv:Value) (A:Around) (outer:List Env) (s:Shared) (H:Hp) (E:XK),Room k (A.deeper (envOfC qual (Qe st) s.heap.objs.size f cdv)) →
      SMs (cxOf CX0 P w K mg base N qual (Qe st) f cdv A outer s H E).nox (Qm st) m):FnOk P w K mg base CX0 (k + 1) f fd ps (spM K n (runV N.length n m)):=by
  refine Fn.ok Sc (fun vs H Q E h=>by rw [h.1,hn]) fun cdv A outer s H vs Q E hr h => ?_
  refine ⟨_,hbody cdv A outer s H E hr,?_⟩
  obtain ⟨hl,F,qs,r,h1,h2,h3,wv⟩:=h
  unfold runV at h3
  have hq:qs.length=n:=by rw [← h2.length];exact hl
  rw [if_pos hq] at h3
  obtain ⟨o,e1,e2⟩:=Qh h3
  refine ⟨H,F,F,_,o,Qco h1 h2,e1,?_⟩
  cases o with
  | nx γ=>cases e2;exact fun σ' H' F' S=>wv .non H' F' S.gr rep_non
  | rt p=>cases e2;exact fun v H' F' g q=>wv v H' F' g q
  | ro xs=>cases e2;exact fun a vs H' F' g n nF hH q=>wv.of_lst a vs H' F' g n nF hH q
  | bk γ=>cases e2
  | ct γ=>cases e2
theorem fnO {x qual:Str} {st:Stmt} {f:Addr} {fd:FuncData} {N ps:List Str} {k n:Nat} {m:MSt} (Fn:Fun K x qual st f fd) (Sc:FnScope N ps (Qe st)) (hn:ps.length=n)
    (hbody:∀ (cdv:Value) (A:Around) (outer:List Env) (s:Shared) (H:Hp) (E:XK),Room k (A.deeper (envOfC qual (Qe st) s.heap.objs.size f cdv)) →
      SMs (cxOf CX0 P w K mg base N qual (Qe st) f cdv A outer s H E).nox (Qm st) m):FnOk P w K mg base CX0 (k + 1) f fd ps (spO K n (runO N.length n m)):=by
  refine Fn.ok Sc (fun vs H Q E h=>by rw [h.1,hn]) fun cdv A outer s H vs Q E hr h => ?_
  refine ⟨_,hbody cdv A outer s H E hr,?_⟩
  obtain ⟨hl,F,qs,r,h1,h2,h3,wv⟩:=h
  unfold runO at h3
  have hq:qs.length=n:=by rw [← h2.length];exact hl
  rw [if_pos hq] at h3
  obtain ⟨o,e1,e2⟩:=Qh h3
  refine ⟨H,F,F,_,o,Qco h1 h2,e1,?_⟩
  cases o with
  | ro xs=>cases e2;exact fun a vs H' F' g n nF hH q=>wv a vs H' F' g n nF hH q
  | nx γ=>cases e2
  | rt p=>cases e2
  | bk γ=>cases e2
  | ct γ=>cases e2
theorem _root_.L2.FnOk.sw {k n:Nat} {f:Addr} {fd:FuncData} {ps:List Str} {g g':List PV→Option PV} (F:FnOk P w K mg base CX0 k f fd ps (spM K n g)) (h:∀ qs r,g' qs=some r→g qs=some r):FnOk P w K mg base CX0 k f fd ps (spM K n g') :=
  F.imp fun vs H Q E ⟨hl,F,qs,r,h1,h2,h3,wv⟩=>⟨hl,F,qs,r,h1,h2,h qs r h3,wv⟩
end
end L2.PM

noncomputable section
namespace L2.PM
open PySem PySem.Spec PyProof.Rows

section
variable {X:Cx} {e a b c:Expr} {es:List Expr} {ms ns ls:List Nat} {m m1 m2 m3:MEx} {pos p p2 p3:Pos} {x:Str} {id T:String}

noncomputable def tyName:PV→String
  | .non => "NoneType"
  | .bl _ => "bool"
  | .int _ => "int"
  | .str _ => "str"
  | .tup _ => "tuple"
  | .lst _ => "list"
  | .obj _ _ _ => "object"
  | .opq _ => "object"
noncomputable def isO:PV→Bool
  | .obj _ _ _=>true
  | .opq _=>true
  | _=>false
noncomputable def isInt:PV→Bool
  | .int _=>true
  | .bl _=>true
  | _=>false
noncomputable def isBl:PV→Bool
  | .bl _=>true
  | _=>false
noncomputable def QhP:PV→Bool
  | .str _=>true
  | _=>false
noncomputable def Qgw:PV→Bool
  | .tup _=>true
  | _=>false
noncomputable def isLst:PV→Bool
  | .lst _=>true
  | _=>false
noncomputable def Isi (T:String) (f:PV→Bool):Prop:=∀ (p:PV) (K:PySem.W.Frag),isO p=false→PySem.W.kitOne K (.type (tyName p)) (.type T)=some (f p)
theorem isi_int:Isi "int" isInt:=fun p K ho=>by cases p <;> first | (cases ho;done) | kernel_rfl
theorem isi_bl:Isi "bool" isBl:=fun p K ho=>by cases p <;> first | (cases ho;done) | kernel_rfl
theorem QfO:Isi "str" QhP:=fun p K ho=>by cases p <;> first | (cases ho;done) | kernel_rfl
theorem Qit:Isi "tuple" Qgw:=fun p K ho=>by cases p <;> first | (cases ho;done) | kernel_rfl
theorem isi_lst:Isi "list" isLst:=fun p K ho=>by cases p <;> first | (cases ho;done) | kernel_rfl
theorem QhA {pins:List (Addr×Obj)} {σ:St} {H F:Hp} {s:Shared} {A:Around} {E:Value→Shared→Prop} {Q:Value→Shared→Prop} {v:V} {u:Value} {q:PV} {f:PV→Bool} (I:Inv X pins σ H s) (hF:Same F H) (hi:Isi T f) (r:Rep X.K F q v) (rv:RelV v u)
    (ho:isO q=false) (h:∀ tk,Q (.bool (f q)) { s with toks:=tk }):wpAny (model X.prog X.w) A (call (.builtin "isinstance") [u,.type T]) Q E s:=by
  have e:=hi q X.K ho
  cases q with
  | non=>unfold Rep at r;subst r;cases rv;exact PySem.W.kia_one PySem.W.kitx_none I.kIn True.intro e (fun z=>nomatch z) h
  | bl y=>unfold Rep at r;subst r;cases rv;exact PySem.W.kia_one PySem.W.kitx_bool I.kIn True.intro e (fun z=>nomatch z) h
  | int y=>unfold Rep at r;subst r;obtain ⟨t,rfl⟩:=rv;exact PySem.W.kia_one PySem.W.kitx_int I.kIn True.intro e (fun z=>nomatch z) h
  | str y=>unfold Rep at r;subst r;obtain ⟨t,rfl⟩:=rv;exact PySem.W.kia_one PySem.W.kitx_str I.kIn True.intro e (fun z=>nomatch z) h
  | tup ys =>
    unfold Rep at r
    obtain ⟨a,vs,rfl,k2,_⟩:=r
    cases rv
    obtain ⟨its,_,⟨o,ho,hc,_⟩,_⟩:=I.tuple (hF.seqT k2)
    exact PySem.W.kia_one PySem.W.kitx_tuple I.kIn ⟨o,ho,hc⟩ e (fun z=>nomatch z) h
  | lst ys =>
    unfold Rep at r
    obtain ⟨a,vs,rfl,k2,_⟩:=r
    cases rv
    obtain ⟨its,_,⟨o,n,ho,hc,_⟩,_⟩:=I.list (hF.seq k2)
    exact PySem.W.kia_one PySem.W.kitx_list I.kIn ⟨o,ho,hc⟩ e (fun z=>nomatch z) h
  | obj=>cases ho
  | opq=>cases ho
theorem QgB {f:PV→Bool} (hi:Isi T f):Qaa X (.builtin "isinstance") (fun vs H Q=>∃ F v q,vs=[v,.ty T]∧Same F H∧Rep X.K F q v∧isO q=false∧Q (.bl (f q)) H):=by
  intro pins s σ H vs us Q I rs h
  obtain ⟨F,v,q,rfl,h1,h2,ho,h3⟩:=h
  obtain ⟨u,w,rfl,ru,rw'⟩:=vals2 rs
  obtain rfl:w=Value.type T:=rw'
  exact QhA I h1 hi h2 ru ho fun tk=>⟨.bl (f q),H,I.tok tk,rfl,h3⟩
noncomputable def isiK (f:PV→Bool) (q:PV):Option PV:=if isO q=false then some (.bl (f q)) else none
noncomputable def mIsi (f:PV→Bool) (m:MEx):MEx:=fun γ=>(m γ).bind (isiK f)
theorem YC {f:PV→Bool} (hi:Isi T f) (h:EM X ms e m) (hg:Gl X "isinstance") (hm:X.mg "isinstance"=none) (hgT:Gl X x) (hmT:X.mg x=none) (hvT:bootBuiltins x=some (.type T))
    (hn:x ≠ "__name__":=by decide) (hdb:(x==("__debug__":Str))=false:=by decide)
    (hs1:starEach (e :: [.Name x p3]) X.env=(false,eval e X.env) :: starEach [.Name x p3] X.env:=by rfl) (hs2:starEach [.Name x p3] X.env=(false,eval (.Name x p3) X.env) :: starEach [] X.env:=by rfl) (hpl:(backTo pos (starEach [.Name x p3] X.env)).any (·.1)=false:=by rfl) :
    EM X ms (.Call (.Name "isinstance" p2) [e,.Name x p3] [] pos) (mIsi f m) :=
  PE.imp (Qcr (QgB hi) hg hm (by kernel_rfl) (YF h (YF (Qio (v := .ty T) hgT hmT hvT rfl hn hdb) QbA hs2) hs1) (by decide) (by decide) hs1 hpl) fun σ H Q ⟨F,γ,r,k1,k2,k3,w⟩=>by
    obtain ⟨q,e1,e2⟩:=Qh k3
    obtain ⟨ho,e2⟩:=QD (show (if isO q=false then some (PV.bl (f q)) else none)=some r from e2)
    subst e2
    exact ⟨F,γ,q,k1,k2,e1,fun v H1 F1 g1 q1=>⟨F1,v,q,rfl,g1.sub,q1,ho,(w.go g1).here g1.sub (Yc _)⟩⟩

noncomputable def pLen:List PV→Option PV
  | [.lst xs]=>some (.int xs.length)
  | [.tup xs]=>some (.int xs.length)
  | [.str z]=>if z.length≤LIM then some (.int z.length) else none
  | _=>none
theorem Qaj:Qfv X (.builtin "len") pLen:=by
  intro pins s σ H vs us Q I rs h
  obtain ⟨F,ps,r,h1,h2,h3,w⟩:=h
  refine call_len pins s σ H vs us Q I rs ?_
  unfold pLen at h3
  split at h3
  · cases h3
    unfold RepL at h2
    obtain ⟨v,t,rfl,h2,ht⟩:=h2
    unfold RepL at ht
    subst ht
    unfold Rep at h2
    obtain ⟨a,us,rfl,k2,k3⟩:=h2
    exact ⟨.ref a,_,rfl,.inl ⟨us,h1.seq k2,k3.length.symm⟩,w.here h1 (Za _)⟩
  · cases h3
    unfold RepL at h2
    obtain ⟨v,t,rfl,h2,ht⟩:=h2
    unfold RepL at ht
    subst ht
    unfold Rep at h2
    obtain ⟨a,us,rfl,k2,k3⟩:=h2
    exact ⟨.ref a,_,rfl,.inr ⟨us,h1.seqT k2,k3.length.symm⟩,w.here h1 (Za _)⟩
  · rename_i z
    obtain ⟨c,rfl⟩:=QD h3
    unfold RepL at h2
    obtain ⟨v,t,rfl,h2,ht⟩:=h2
    unfold RepL at ht
    subst ht
    unfold Rep at h2
    subst h2
    exact ⟨.str z,_,rfl,⟨Nat.le_trans c Yu,rfl⟩,w.here h1 (Za _)⟩
  · cases h3
noncomputable def Qce:List PV→Option (List PV)
  | [.lst xs]=>some xs
  | [.tup xs]=>some xs
  | _=>none
noncomputable def Qcd:List PV→Option PV
  | [.lst xs]=>some (.tup xs)
  | [.tup xs]=>some (.tup xs)
  | _=>none
theorem QfS:CallO X (.type "list") Qce:=by
  intro pins s σ H vs us Q I rs h
  obtain ⟨F,ps,r,h1,h2,h3,w⟩:=h
  refine QbY pins s σ H vs us Q I rs ?_
  unfold Qce at h3
  split at h3
  · cases h3
    unfold RepL at h2
    obtain ⟨v,t,rfl,h2,ht⟩:=h2
    unfold RepL at ht
    subst ht
    unfold Rep at h2
    obtain ⟨a,us,rfl,k2,k3⟩:=h2
    exact ⟨a,us,rfl,.inl (h1.seq k2),fun l hl=>w l us _ F (.side h1 hl) hl (h1.free hl) Qp k3⟩
  · cases h3
    unfold RepL at h2
    obtain ⟨v,t,rfl,h2,ht⟩:=h2
    unfold RepL at ht
    subst ht
    unfold Rep at h2
    obtain ⟨a,us,rfl,k2,k3⟩:=h2
    exact ⟨a,us,rfl,.inr (h1.seqT k2),fun l hl=>w l us _ F (.side h1 hl) hl (h1.free hl) Qp k3⟩
  · cases h3
theorem Qes:Qfv X (.type "tuple") Qcd:=by
  intro pins s σ H vs us Q I rs h
  obtain ⟨F,ps,r,h1,h2,h3,w⟩:=h
  refine QeI pins s σ H vs us Q I rs ?_
  unfold Qcd at h3
  split at h3
  · cases h3
    unfold RepL at h2
    obtain ⟨v,t,rfl,h2,ht⟩:=h2
    unfold RepL at ht
    subst ht
    unfold Rep at h2
    obtain ⟨a,us,rfl,k2,k3⟩:=h2
    refine ⟨a,us,rfl,.inl ⟨h1.seq k2,fun l hl=>w _ _ _ (.laid h1 hl) ?_⟩⟩
    unfold Rep
    exact ⟨l,us,rfl,.of Qp,k3.mono (Grow.laid h1 hl).ext⟩
  · cases h3
    unfold RepL at h2
    obtain ⟨v,t,rfl,h2,ht⟩:=h2
    unfold RepL at ht
    subst ht
    obtain ⟨a,us,rfl,k2,k3⟩:=(by unfold Rep at h2;exact h2:∃ a us,v = .ref a∧SqT X.K F a us∧RepL X.K F _ us)
    exact ⟨a,us,rfl,.inr ⟨h1.seqT k2,w.here h1 h2⟩⟩
  · cases h3
end
end L2.PM

noncomputable section
namespace L2.PM
open PySem PySem.Spec PyProof.Rows

noncomputable def Qey:List PV→Option (List Int)
  | []=>some []
  | .int i :: xs=>(Qey xs).map (i :: ·)
  | _ :: _=>none
theorem QiX (ns:List Int):Qey (ns.map .int)=some ns:=by
  induction ns with
  | nil=>rfl
  | cons n ns ih=>simp [Qey,ih]
theorem Qfb:∀ {xs:List PV} {ns:List Int},Qey xs=some ns→xs=ns.map .int
  | [],ns,h=>by cases h;rfl
  | x :: xs,ns,h=>by
    cases x with
    | int i =>
      unfold Qey at h
      cases e:Qey xs with
      | none=>rw [e] at h;cases h
      | some ms=>rw [e] at h;cases h;rw [Qfb e];rfl
    | _=>cases h
theorem QeZ {K:PySem.W.Frag} {F:Hp}:∀ {ns:List Int} {vs:List V},RepL K F (ns.map .int) vs→vs=ns.map V.int
  | [],vs,h=>by rw [List.map_nil] at h;unfold RepL at h;exact h
  | n :: ns,vs,h=>by
    rw [List.map_cons] at h
    unfold RepL at h
    obtain ⟨v,r,rfl,h2,h3⟩:=h
    unfold Rep at h2
    rw [h2,QeZ h3]
    rfl
theorem QdP {K:PySem.W.Frag} {F:Hp}:∀ (ns:List Int),RepL K F (ns.map .int) (ns.map V.int)
  | [] => .nil
  | n :: ns => .cons (Za n) (QdP ns)
section
variable {X:Cx} {e a b c:Expr} {es:List Expr} {ms ns ls:List Nat} {m m1 m2 m3:MEx} {pos p p2 p3:Pos} {x:Str} {id T:String}
noncomputable def pSum:List PV→Option PV
  | [.lst xs]=>(Qey xs).map fun ns => .int ns.sum
  | _=>none
theorem Qdb:∀ {ns:List Int} {us:List Value},IntsAre us ns→∃ xs:Array (Int×Tok),us.toArray=intItems xs∧xs.toList.map (·.1)=ns
  | _,_,.nil=>⟨#[],by simp [intItems],rfl⟩
  | _,_,.cons n t h=>by
    obtain ⟨xs,e1,e2⟩:=Qdb h
    refine ⟨((n,t) :: xs.toList).toArray,?_,by simp [e2]⟩
    have e3:∀ (us:List Value),us.toArray=intItems xs→us=xs.toList.map fun p=>Value.int p.1 p.2:=fun us e=>by
      have:=congrArg Array.toList e
      simpa [intItems] using this
    simp [intItems,e3 _ e1]
theorem QcW (val:Nat→Int) (xs:List Int) (h:∀ i,i < xs.length→val i=xs.getD i 0):∀ n,n≤xs.length→preSum val n=(xs.take n).sum
  | 0,_=>by simp [preSum]
  | n + 1,hn=>by
    have hl:n < xs.length:=by omega
    rw [preSum,QcW val xs h n (by omega),h n (by omega),List.take_succ,List.sum_append]
    simp [hl]
theorem Qjp (hc:X.calm=true):Qaa X (.builtin "sum") (fun vs H Q=>∃ (a:Addr) (ns:List Int),vs=[.ref a]∧SqL X.K H a (ns.map V.int)∧Q (.int ns.sum) H):=by
  intro pins s σ H vs us Q I rs h
  obtain ⟨a,ns,rfl,h2,h3⟩:=h
  obtain ⟨u,rfl,ru⟩:=Qev rs
  cases ru
  obtain ⟨its,r,pl,_⟩:=I.list h2
  obtain ⟨xs,e1,e2⟩:=Qdb (QhC r)
  have hl:=pl.isList
  rw [e1] at hl
  refine sum_intListG (I.ok.hd hc) hl fun h' tk t' hk=>⟨.int ns.sum,H,I.kept (t':=tk) hk,⟨t',?_⟩,h3⟩
  have hlen:ns.length=xs.size:=by rw [← e2];simp
  have e3:=QcW (numAt xs) ns (fun i hi=>by
    unfold numAt
    rw [← e2]
    have hi':i < xs.size:=by rw [← hlen];exact hi
    simp [hi']) ns.length (Nat.le_refl _)
  rw [List.take_length] at e3
  rw [← hlen,e3]
theorem cm_sum (hc:X.calm=true):Qfv X (.builtin "sum") pSum:=by
  intro pins s σ H vs us Q I rs h
  obtain ⟨F,ps,r,h1,h2,h3,w⟩:=h
  refine Qjp hc pins s σ H vs us Q I rs ?_
  unfold pSum at h3
  split at h3
  · rename_i xs
    obtain ⟨ns,e1,rfl⟩:=Yh h3
    have e2:=Qfb e1
    subst e2
    unfold RepL at h2
    obtain ⟨v,t,rfl,h2,ht⟩:=h2
    unfold RepL at ht
    subst ht
    unfold Rep at h2
    obtain ⟨a,us,rfl,k2,k3⟩:=h2
    have e3:=QeZ k3
    subst e3
    exact ⟨a,ns,rfl,h1.seq k2,w.here h1 (Za _)⟩
  · cases h3
noncomputable def rMt (K:PySem.W.Frag) (g:PV→List PV→Option PV):V→List V→Hp→VK→Prop:=fun x vs H Q=>∃ F p ps r,Same F H∧Rep K F p x∧RepL K F ps vs∧g p ps=some r∧Wv K F H r Q
noncomputable def tyOk (T:String):PV→Bool
  | .str _=>T == "str"
  | .int _=>T == "int"
  | .lst _=>T == "list"
  | _=>false
noncomputable def mMt (T:String) (g:PV→List PV→Option α) (m:MEx) (ma:PEnv→Option (List PV)):PEnv→Option α:=fun γ=>(m γ).bind fun p=>if tyOk T p=true then (ma γ).bind fun ps=>g p ps else none
theorem tyV_rep {K:PySem.W.Frag} {F H:Hp} {p:PV} {v:V} (h:Same F H) (r:Rep K F p v) (t:tyOk T p=true):tyV K T v H:=by
  cases p with
  | str z=>unfold Rep at r;subst r;exact eq_of_beq t
  | int z=>unfold Rep at r;subst r;exact eq_of_beq t
  | lst xs=>unfold Rep at r;obtain ⟨a,vs,rfl,k2,_⟩:=r;exact .inl ⟨eq_of_beq t,vs,h.seq k2⟩
  | _=>cases t
variable {o:Expr} {ma:PEnv→Option (List PV)}
noncomputable def mMt0 (T:String) (g:PV→List PV→Option α) (m:MEx):PEnv→Option α:=fun γ=>(m γ).bind fun p=>if tyOk T p=true then g p [] else none
theorem em_mt0 {g:PV→List PV→Option PV} (h:EM X ms o m) {name:Str} {apos cpos:Pos}
    (hp:PE X (.Call (.Attribute o name apos) [] [] cpos) (tBM0 X.K T (rMt X.K g) (tM X.K ms m))):EM X ms (.Call (.Attribute o name apos) [] [] cpos) (mMt0 T g m) :=
  PE.imp hp fun σ H Q ⟨F,γ,r,k1,k2,k3,w⟩=>by
    obtain ⟨p,e1,k3⟩:=Qh k3
    have c:tyOk T p=true:=by
      by_cases c:tyOk T p=true
      · exact c
      · rw [if_neg c] at k3;cases k3
    rw [if_pos c] at k3
    refine ⟨F,γ,p,k1,k2,e1,fun v H1 F1 g1 q1=>⟨tyV_rep g1.sub q1 c,F1,p,[],r,g1.sub,q1,.nil,k3,w.go g1⟩⟩
noncomputable def Qgo:PV→List PV→Option PV
  | .int i,[]=>some (.int (Builtin.Int.intBits i))
  | _,_=>none
theorem mm_bits:MtR X "int.bit_length" (rMt X.K Qgo):=by
  intro pins s σ H x xs v us Q I rx rs h
  obtain ⟨F,p,ps,r,h1,h2,h3,h4,w⟩:=h
  unfold Qgo at h4
  split at h4
  · cases h4
    unfold Rep at h2
    subst h2
    obtain ⟨t,rfl⟩:=rx
    unfold RepL at h3
    subst h3
    cases rs
    exact call_int_bit_length ⟨.int _,H,I.tok _,⟨_,rfl⟩,w.here h1 (Za _)⟩
  · cases h4
theorem em_bits {apos cpos:Pos} (h:EM X ms o m) (hbase:attributeBase o "bit_length" X.env (eval o X.env)=eval o X.env:=by rfl) (hline:(apos.endLine==cpos.line)=true:=by rfl):EM X ms (.Call (.Attribute o "bit_length" apos) [] [] cpos) (mMt0 "int" Qgo m) :=
  em_mt0 h (pe_bm0 PySem.F.plainAttrs_int slot_int_bit_length type_int_bit_length mm_bits h hbase hline)
variable {lo hi:Option Expr} {ml mh:PEnv→Option (Option Int)}
end
end L2.PM

noncomputable section
namespace L2.PM
open PySem PySem.Spec PyProof.Rows

section
variable {X:Cx} {e a b c:Expr} {es:List Expr} {ms ns ls:List Nat} {m m1 m2 m3:MEx} {pos p p1 p2 p3 pos':Pos} {x:Str} {id T:String}
end
end L2.PM

noncomputable section
namespace L2.PM
open PySem PySem.Spec PyProof.Rows

noncomputable def QfR (N:List Str) (osc scope:Scope) (N':List Str) (nt:Nat) (caps:List Nat):Bool :=
  (scope.kind == .function)&&scope.names.all (fun x=>x.2 != NameKind.cell)&&scope.names.all (fun x=>x.2 != NameKind.local||scope.names.lookup x.1==some .local) &&
  scope.names.all (fun x=>x.2 != NameKind.free||(osc.names.lookup x.1==some .cell||osc.names.lookup x.1==some .free))&&(N'.length==nt + caps.length) &&
  (caps.zip (N'.drop nt)).all (fun p=>N[p.1]?==some p.2&&scope.names.lookup p.2==some NameKind.free)
theorem Qjn {N:List Str} {osc scope:Scope} {N':List Str} {nt:Nat} {caps:List Nat} (h:QfR N osc scope N' nt caps=true):CompOk N osc scope N' nt caps:=by
  unfold QfR at h
  simp only [Bool.and_eq_true,List.all_eq_true,Bool.or_eq_true,bne_iff_ne,beq_iff_eq,ne_eq] at h
  obtain ⟨⟨⟨⟨⟨h1,h2⟩,h3⟩,h4⟩,h5⟩,h6⟩:=h
  refine ⟨h1,h2,fun x hx e => ?_,fun x hx e => ?_,h5,h6⟩
  · rcases h3 x hx with z | z
    · exact absurd e z
    · exact z
  · rcases h4 x hx with z | z
    · exact absurd e z
    · exact z
theorem QcN {X:Cx} {N:List Str} {osc scope:Scope} {N':List Str} {nt:Nat} {caps:List Nat} (h1:X.N=N) (h2:X.env.scope=osc) (h:QfR N osc scope N' nt caps=true):CompOk X.N X.env.scope scope N' nt caps:=by
  rw [h1,h2];exact Qjn h
noncomputable def Cal (P:Program) (w:World) (K:PySem.W.Frag) (mg:Str→Option Value) (base:Heap) (k:Nat) (x:Str) (n:Nat) (g:List PV→Option PV):Prop :=
  ∃ f fd ps,FnOk P w K mg base CX0 k f fd ps (spM K n g)∧mg x=some (.ref f)∧PySem.W.keepIn K (.ref f)=true∧YE K fd ps []
noncomputable def CalO (P:Program) (w:World) (K:PySem.W.Frag) (mg:Str→Option Value) (base:Heap) (k:Nat) (x:Str) (n:Nat) (g:List PV→Option (List PV)):Prop :=
  ∃ f fd ps,FnOk P w K mg base CX0 k f fd ps (spO K n g)∧mg x=some (.ref f)∧PySem.W.keepIn K (.ref f)=true∧YE K fd ps []
section
variable {X:Cx} {e:Expr} {es:List Expr} {ms:List Nat} {ma:PEnv→Option (List PV)} {x:Str} {p pos:Pos} {k j n:Nat}
theorem Qz {g:List PV→Option PV} (c:Cal X.prog X.w X.K X.mg X.base k x n g) (hn:∀ ps r,g ps=some r→ps.length=n) (hr:Room k X.A) (hg:Gl X x)
    (ha:AM X ms (e :: es) ma) (hdb:(x==("__debug__":Str))=false:=by decide) (he:starEach (e :: es) X.env=(false,eval e X.env) :: starEach es X.env:=by rfl) (hpl:(backTo pos (starEach es X.env)).any (·.1)=false:=by rfl) :
    EM X ms (.Call (.Name x p) (e :: es) [] pos) (Qn g ma):=by
  obtain ⟨f,fd,ps,F,hm,hk,hb⟩:=c
  exact em_call F hn hr hg hm hk hb ha hdb he hpl
theorem eo_cal {g:List PV→Option (List PV)} (c:CalO X.prog X.w X.K X.mg X.base k x n g) (hn:∀ ps r,g ps=some r→ps.length=n) (hr:Room k X.A) (hg:Gl X x)
    (ha:AM X ms (e :: es) ma) (hdb:(x==("__debug__":Str))=false:=by decide) (he:starEach (e :: es) X.env=(false,eval e X.env) :: starEach es X.env:=by rfl) (hpl:(backTo pos (starEach es X.env)).any (·.1)=false:=by rfl) :
    EO X ms (.Call (.Name x p) (e :: es) [] pos) (Qn g ma):=by
  obtain ⟨f,fd,ps,F,hm,hk,hb⟩:=c
  exact eo_call F hn hr hg hm hk hb ha hdb he hpl
theorem ZM {m:MEx} (h:EM X ms e m) (hs:starEach [e] X.env=(false,eval e X.env) :: starEach [] X.env:=by rfl):PA X [e] (tMA X.K ms (Qc m aNil)):=by
  have z:=Qb h Qg hs
  unfold AM at z
  rw [List.append_nil] at z
  exact z
theorem law_sp {K:PySem.W.Frag} {H:Hp} {a:Addr} {ns:List Int} {g:List PV→Option PV} {E:XK} (h:∀ ns:List Int,ns.length≤63→g [.lst (ns.map .int)]=some (.bl true)) (hl:ns.length≤63) (hS:SqL K H a (ns.map V.int)) :
    spM K 1 g [.ref a] H (fun v _=>v = .bl true) E:=by
  refine ⟨rfl,H,[.lst (ns.map .int)],.bl true,Same.refl _,.cons ?_ .nil,h ns hl,fun v H' F' _ r => ?_⟩
  · unfold Rep
    exact ⟨a,ns.map V.int,rfl,hS,QdP ns⟩
  · unfold Rep at r
    exact r
end
end L2.PM

noncomputable section
namespace L2.PM
open PySem PySem.Spec PyProof.Rows
noncomputable def pN (n:Nat):PV := .int (n:Int)
noncomputable def mN (n:Nat):MEx:=mC (pN n)
noncomputable def pEnumL:List PV→Option (List PV)
  | [.lst xs]=>some (xs.zipIdx.map fun x => .tup [pN x.2,x.1])
  | _=>none
noncomputable def QeQ:List PV→Option (List PV)
  | [.tup xs]=>some (xs.zipIdx.map fun x => .tup [pN x.2,x.1])
  | _=>none
noncomputable def iSeq (m:MEx):PEnv→Option (List PV):=fun γ=>(m γ).bind fun p=>match p with
  | .lst xs=>some xs
  | .tup xs=>some xs
  | _=>none
noncomputable def once {α:Type} [BEq α]:List α→List α
  | []=>[]
  | x :: xs=>x :: (once xs).filter fun y => !(y==x)
end L2.PM

noncomputable section
namespace L2.PM
open PySem PySem.Spec PyProof.Rows
noncomputable def Up (xs:Array Nat):Prop:=xs.toList.Pairwise (· < ·)
theorem Up.get {xs:Array Nat} (h:Up xs) {i k:Nat} {x y:Nat} (hik:i < k) (hx:xs[i]?=some x) (hy:xs[k]?=some y):x < y:=by
  unfold Up at h
  rw [List.pairwise_iff_getElem] at h
  obtain ⟨hi,rfl⟩:=Array.getElem?_eq_some_iff.mp hx
  obtain ⟨hk,rfl⟩:=Array.getElem?_eq_some_iff.mp hy
  have:=h i k (by simpa using hi) (by simpa using hk) hik
  simpa using this
noncomputable def Kept (L:Bool) (t:SetTable):Prop:=t.led=L∧Up t.place
end L2.PM

noncomputable section
namespace L2.PM
open PySem PySem.Spec PyProof.Rows
section
variable {prog:Program} {w:World} {A:Around} {E:Value→Shared→Prop} {s:Shared}
noncomputable def SetL (prog:Program) (w:World) (L:Bool) (h:Heap) (a:Addr) (M:List Int):Prop :=
  ∃ o es ep t,h.get? a=some o∧o.ExactSet∧o.data = .set es ep t∧ElemsOf (intKind prog w) es.toList∧(∀ k,k∈M↔∃ e∈es.toList,(intKind prog w).is k e.2=true) ∧
    es.size < scanBound∧t.fits es.size=true∧es.size=M.length∧M.Nodup∧Kept L t
theorem SetL.at {L:Bool} {h h':Heap} {a:Addr} {M:List Int} (x:SetL prog w L h a M) (e:∀ o,h.get? a=some o→h'.get? a=some o):SetL prog w L h' a M:=by
  obtain ⟨o,es,ep,t,ho,r⟩:=x
  exact ⟨o,es,ep,t,e o ho,r⟩
noncomputable def more (M:List Int) (k:Int):List Int:=if k∈M then M else M++[k]
end
end L2.PM

noncomputable section
namespace L2.PM
open PySem PySem.Spec PyProof.Rows
noncomputable def byT (w:World):Bool:=w.params.followText "set-order"
noncomputable def seen (val:Nat→Int) (i:Nat):List Int:=((List.range i).map val).foldl more []
section
variable {prog:Program} {w:World} {A:Around} {E:Value→Shared→Prop} {s:Shared}
theorem setNew (v:Value) {Q₁:Value→Shared→Prop} (fin:Q₁ (.ref s.heap.objs.size) { s with heap:=s.heap.push { cls := .type "set",dict:=none,data := .set #[] 0 (.fresh 0 0 (!byT w)) } }) :
    codeAny (model prog w) A (.call (.builtin "set.__new__") ⟨[.type "set",v],[]⟩) (wants Q₁ E) s:=by
  refine codeAny_of_tree ?_
  show wpAny _ A.in1 (do checkBuiltinCall "set.__new__" ⟨[.type "set",v],[]⟩;again (.builtin "set.__new__" ⟨[.type "set",v],[]⟩)) _ _ s
  refine wpAny_bind (wpAny_of_eq (PySem.F.newCall_set_1 v) (wpAny_pure ⟨plainId_quiet PySem.F.plain_set_new _,codeAny_builtin PySem.F.entry_set_new ?_⟩))
  rw [Around.under_plainId PySem.F.plain_set_new _]
  unfold Builtin.«set.__new__» Builtin.Frozenset.newClass
  have sub:=sub_set_self
  obtain ⟨hp,g,d,tk,os⟩:=s
  dsimp only
  wp_walk
  refine wpAny_askSetting (wpAny_pure ?_)
  dsimp only
  simp only [newObj]
  refine wpAny_bind (wpAny_alloc (wpAny_pure ?_))
  exact wpAny_pure fin
end
end L2.PM

noncomputable section
namespace L2.PM
open PySem PySem.Spec PyProof.Rows
section
variable {prog:Program} {w:World} {A:Around} {E:Value→Shared→Prop} {s:Shared}
end
end L2.PM

noncomputable section
namespace L2.PM
open PySem PySem.Spec PyProof.Rows
namespace SF
end SF
section
variable {prog:Program} {w:World} {A:Around} {E:Value→Shared→Prop} {s:Shared}
end
end L2.PM

noncomputable section
namespace L2.PM
open PySem PySem.Spec PyProof.Rows
noncomputable def SIt (h:Heap) (I D:Addr) (first:Value) (i n ep:Nat):Prop:=∃ o,h.get? I=some o∧o.cls = .type "set_iterator"∧o.data = .fields #[first,rawInt i,.ref D,rawInt n,rawInt ep]
noncomputable def SetC (h:Heap) (D:Addr) (es:Array (Int×Value)) (ep:Nat) (t:SetTable):Prop:=∃ o,h.get? D=some o∧o.ExactSet∧o.data = .set es ep t∧t.fits es.size=true
section
variable {prog:Program} {w:World} {A:Around} {E:Value→Shared→Prop} {s:Shared} {I D:Addr} {es:Array (Int×Value)} {ep:Nat} {t:SetTable} {i:Nat}
theorem SIt.typeIs {first:Value} {n:Nat} (x:SIt s.heap I D first i n ep):s.TypeIs (.ref I) "set_iterator":=let ⟨o,ho,hc,_⟩:=x;⟨o,ho,hc⟩
theorem SIt.at {h h':Heap} {first:Value} {n:Nat} (x:SIt h I D first i n ep) (e:∀ o,h.get? I=some o→h'.get? I=some o):SIt h' I D first i n ep:=let ⟨o,ho,r⟩:=x;⟨o,e _ ho,r⟩
theorem SetC.at {h h':Heap} (x:SetC h D es ep t) (e:∀ o,h.get? D=some o→h'.get? D=some o):SetC h' D es ep t:=let ⟨o,ho,r⟩:=x;⟨o,e _ ho,r⟩
theorem field_at {h:Heap} {o:Obj} {vs:Array Value} {j:Nat} {x:Value} (ho:h.get? I=some o) (hd:o.data = .fields vs):∃ o',(h.update I (Obj.mapFields (·.setIfInBounds j x))).get? I=some o'∧o'.cls=o.cls∧o'.data = .fields (vs.setIfInBounds j x) :=
  ⟨_,Heap.get?_update_self _ ho (Obj.isFreed_of_fields (Obj.data_mapFields hd _)),Obj.cls_mapFields ..,Obj.data_mapFields hd _⟩
end
end L2.PM

noncomputable section
namespace L2.PM
open PySem PySem.Spec PyProof.Rows
namespace SF
end SF
section
variable {prog:Program} {w:World} {A:Around} {E:Value→Shared→Prop} {s:Shared} {I D:Addr} {es:Array (Int×Value)} {ep:Nat} {t:SetTable}
end
end L2.PM

noncomputable section
namespace L2.PM
open PySem PySem.Spec PyProof.Rows
section
variable {prog:Program} {w:World} {A:Around} {E:Value→Shared→Prop} {s:Shared} {D:Addr} {es:Array (Int×Value)} {ep:Nat} {t:SetTable}
theorem SetC.typeIs (x:SetC s.heap D es ep t):s.TypeIs (.ref D) "set":=let ⟨o,ho,hex,_⟩:=x;⟨o,ho,hex.1⟩
end
end L2.PM

noncomputable section
namespace L2.PM
open PySem PySem.Spec PyProof.Rows
section
variable {prog:Program} {w:World} {A:Around} {E:Value→Shared→Prop} {s:Shared} {D:Addr} {es:Array (Int×Value)} {ep:Nat} {t:SetTable}
end
end L2.PM

noncomputable section
namespace L2.PM
open PySem PySem.Spec PyProof.Rows
section
variable {X:Cx} {e a b c:Expr} {es:List Expr} {ms ns ls:List Nat} {m m1 m2 m3:MEx} {ma:PEnv→Option (List PV)} {pos p p1 p2 p3 pos':Pos} {x:Str} {id T:String}
theorem _root_.L2.Inv.drawn {pins:List (Addr×Obj)} {σ:St} {H:Hp} {s:Shared} (I:Inv X pins σ H s) (d:Drawn):Inv X pins σ H { s with drawn:=d }:=⟨I.ok,I.os,I.bare,I.base,I.loc,I.cell,I.free,I.freeC,I.pin,I.hok,I.len⟩
end
end L2.PM

noncomputable section
namespace L2.PM
open PySem PySem.Spec PyProof.Rows
open PySem.AutoSeq1 (wpAny_loadPart')
section
variable {prog:Program} {w:World} {A:Around} {E:Value→Shared→Prop} {s:Shared}
theorem Qhx {it ax:Addr} {i:Nat} {its:Array Value} {x:Value} {Q:Value→Shared→Prop} (hit:s.heap.IsTupleIter it ax i) (ht:s.heap.IsTuple ax its) (hx:its[i]?=some x)
    (fin:∀ h',h'.IsTupleIter it ax (i + 1)→Heap.SameBut it s.heap h'→Q x { s with heap:=h' }):wpAny (model prog w) A (Builtin.SmallTypes.nextOf (.ref it)) Q E s:=by
  obtain ⟨o,ho,hc,hd⟩:=id hit
  obtain ⟨ot,hot,_,nt,hdt⟩:=ht
  unfold Builtin.SmallTypes.nextOf
  refine wpAny_bind (wpAny_callSpecial?_slot (name:=Str.ofString "__next__") hit.typeIs PySem.F.slot_tuple_iterator_next (wpAny_call_entry PySem.F.slot_tuple_iterator_next hit.typeIs PySem.F.entry_tuple_iterator_next ?_ (PySem.F.args_tuple_iterator_next_1 _)))
  refine (show wpAny _ _ (field (.ref it) 0 >>= _) _ _ s from wpAny_bind (wpAny_field ho hd (x := .ref ax) rfl ?_))
  refine (show wpAny _ _ (if (Value.ref ax==Value.none)=true then _ else _) _ _ s from ?_)
  rw [if_neg (fun z:(Value.ref ax==Value.none)=true=>Bool.false_ne_true z)]
  refine (show wpAny _ _ (field (.ref it) 1 >>= _) _ _ s from wpAny_bind (wpAny_field ho hd (x := .int i 0) rfl ?_))
  refine (show wpAny _ _ (seqItems? (.ref ax) >>= _) _ _ s from wpAny_bind (wpAny_seqItems hot hdt ?_))
  simp only [Int.toNat_natCast,hx]
  obtain ⟨o2,at2,c2,d2⟩:=field_at (j:=1) (x:=rawInt ((i:Int) + 1)) ho hd
  exact wpAny_bind (wpAny_setField ho hd (by simp) (wpAny_pure ⟨x,rfl,wpAny_pure (fin _ ⟨o2,at2,c2.trans hc,by rw [d2];simp [rawInt]⟩ (Heap.SameBut.update ..))⟩))
theorem stopE {h1:Heap} {Q:PySem.Fin→Shared→Prop} (calm:A.handled=none) (fin:∀ h' e,(∀ b o,h1.get? b=some o→h'.get? b=some o)→(∃ o,h'.get? e=some o∧o.cls = .type "StopIteration")→E (.ref e) { s with heap:=h' }) :
    wpAny (model prog w) A.in1 (newExc (.type "StopIteration") [] >>= fun e=>(raiseNew e:Sem PySem.Fin)) Q E { s with heap:=h1 }:=by
  refine wpAny_bind ?_
  simp only [newExc,newTuple]
  refine wpAny_bind (wpAny_newObj_type ?_ (by size_fits))
  refine wpAny_bind (m:=firstArgMember _ _) (wpAny_of_eq (a:=Value.none) (by first | rfl | (simp only [firstArgMember];rfl)) (wpAny_newObj_type ?_ (by size_fits)))
  simp only [raiseNew]
  refine wpAny_bind (wpAny_handled ?_)
  rw [show A.in1.handled=none from calm]
  refine wpAny_bind (wpAny_pure (wpAny_throw ?_))
  exact fin _ _ (fun b o e=>Heap.get?_push_of_some _ (Heap.get?_push_of_some _ e)) ⟨_,Heap.get?_push_size _ rfl,rfl⟩
theorem Qbe {it ax:Addr} {i:Nat} {its:Array Value} {Q:Value→Shared→Prop} (calm:A.handled=none) (hit:s.heap.IsTupleIter it ax i) (ht:s.heap.IsTuple ax its) (hx:its[i]?=none)
    (fin:∀ h' e,Heap.ExtBut it s.heap h'→(∃ o,h'.get? e=some o∧o.cls = .type "StopIteration")→E (.ref e) { s with heap:=h' }):wpAny (model prog w) A (Builtin.SmallTypes.nextOf (.ref it)) Q E s:=by
  obtain ⟨o,ho,hc,hd⟩:=id hit
  obtain ⟨ot,hot,_,nt,hdt⟩:=ht
  unfold Builtin.SmallTypes.nextOf
  refine wpAny_bind (wpAny_callSpecial?_slot (name:=Str.ofString "__next__") hit.typeIs PySem.F.slot_tuple_iterator_next (wpAny_call_entry PySem.F.slot_tuple_iterator_next hit.typeIs PySem.F.entry_tuple_iterator_next ?_ (PySem.F.args_tuple_iterator_next_1 _)))
  refine (show wpAny _ _ (field (.ref it) 0 >>= _) _ _ s from wpAny_bind (wpAny_field ho hd (x := .ref ax) rfl ?_))
  refine (show wpAny _ _ (if (Value.ref ax==Value.none)=true then _ else _) _ _ s from ?_)
  rw [if_neg (fun z:(Value.ref ax==Value.none)=true=>Bool.false_ne_true z)]
  refine (show wpAny _ _ (field (.ref it) 1 >>= _) _ _ s from wpAny_bind (wpAny_field ho hd (x := .int i 0) rfl ?_))
  refine (show wpAny _ _ (seqItems? (.ref ax) >>= _) _ _ s from wpAny_bind (wpAny_seqItems hot hdt ?_))
  simp only [Int.toNat_natCast,hx]
  refine wpAny_bind (wpAny_rule (wpAny_bind (wpAny_setField ho hd (by simp) ?_)))
  refine (show wpAny _ _ (newExc (.type "StopIteration") [] >>= fun e=>(raiseNew e:Sem PySem.Fin)) _ _ _ from stopE calm fun h' e k z=>fin h' e (fun b o hb q=>k b o ((Heap.get?_update_other _ _ (Ne.symm hb)).trans q)) z)
theorem Qjm (calm:A.handled=none) (it ax:Addr) (ne:ax≠it) (its:Array Value):Draws prog w A it [it,ax] its.size (fun i v=>its[i]?=some v) (fun i h=>h.IsTupleIter it ax i∧h.IsTuple ax its) where
  live:=fun _ _ st=>let ⟨⟨o,ho,_⟩,_⟩:=st;⟨o,ho⟩
  frame:=fun _ _ _ st k=>⟨st.1.at fun o e=>k it (by simp) o e,st.2.at fun o e=>k ax (by simp) o e⟩
  item:=fun i s Q E hi st fin=>Qhx st.1 st.2 (Array.getElem?_eq_getElem hi) fun h' z sb=>fin _ h' s.toks (Array.getElem?_eq_getElem hi) ⟨z,st.2.at fun o e=>(sb.2 ax ne).trans e⟩ sb
  done:=fun s Q E st fin=>Qbe calm st.1 st.2 (Array.getElem?_eq_none (Nat.le_refl _)) fin
set_option maxHeartbeats 1000000 in
theorem Qgv (ax:Addr) (its:Array Value) (n:Nat) (dct:Option Addr) (sl:Array (Option Value)) :
    Meets (Builtin.«enumerate.__new__» ⟨[.type "enumerate",.ref ax],[]⟩) (fun _ R s=>s.heap.get? ax=some { cls := .type "tuple",dict:=dct,data := .seq its n,slots:=sl } ∧
      R (.ok (.ret (.ref (s.heap.push { cls := .type "tuple_iterator",data := .fields #[.ref ax,.int 0 0] }).objs.size)))
        { s with heap:=(s.heap.push { cls := .type "tuple_iterator",data := .fields #[.ref ax,.int 0 0] }).push { cls := .type "enumerate",data := .fields #[.none,.bool false,.ref s.heap.objs.size,rawInt 0,.none,.none] } }) :=
  .of_wp fun prog w A R s h=>by
    obtain ⟨hp,g,d,tk,os⟩:=s
    obtain ⟨ha,h⟩:=h
    have sub:=sub_enumerate
    have hT:Heap.IsTuple (Shared.heap ⟨hp,g,d,tk,os⟩) ax its:=⟨_,ha,rfl,n,rfl⟩
    wp_walk using wpAny_loadPart' ha
    refine wpAny_stack_any fun st=>wpAny_pure ?_
    split
    · rename_i c _ _ _ _ _
      cases (c==Value.type "enumerate")
      · wp_walk using wpAny_loadPart' ha,wpAny_pyIter_tuple hT
        exact ⟨_,rfl,h⟩
      · wp_walk using wpAny_loadPart' ha,wpAny_pyIter_tuple hT
        exact ⟨_,rfl,h⟩
    · wp_walk using wpAny_loadPart' ha,wpAny_pyIter_tuple hT
      exact ⟨_,rfl,h⟩
theorem QhI {ax:Addr} {its:Array Value} {Q:Value→Shared→Prop} (hT:s.heap.IsTuple ax its)
    (fin:∀ h',IsEnum h' (s.heap.objs.size + 1) s.heap.objs.size 0 .none→h'.IsTupleIter s.heap.objs.size ax 0→(∀ b o,s.heap.get? b=some o→h'.get? b=some o)→Q (.ref (s.heap.objs.size + 1)) { s with heap:=h' }) :
    wpAny (model prog w) A (call (.type "enumerate") [.ref ax]) Q E s:=by
  obtain ⟨⟨c,dct,dt,sl⟩,ha,hc,n,hd⟩:=hT
  obtain rfl:c = .type "tuple":=hc
  obtain rfl:dt = .seq its n:=hd
  refine callType_new PySem.F.called_enumerate (by decide) (PySem.F.typeCall_enumerate_1 _) (PySem.F.newCall_enumerate_1 _) (fun obj=>PySem.F.args_object_init_2 obj _) PySem.F.entry_enumerate_new (Qgv ax its n dct sl) ⟨ha,?_⟩
  have z:(s.heap.push { cls := .type "tuple_iterator",data := .fields #[.ref ax,.int 0 0] }).objs.size=s.heap.objs.size + 1:=Heap.size_push ..
  have he:IsEnum ((s.heap.push { cls := .type "tuple_iterator",data := .fields #[.ref ax,.int 0 0] }).push { cls := .type "enumerate",data := .fields #[.none,.bool false,.ref s.heap.objs.size,rawInt 0,.none,.none] }) (s.heap.objs.size + 1) s.heap.objs.size 0 .none:=by
    rw [← z]
    exact Heap.get?_push_size _ rfl
  refine (show _∧_ from ?_)
  rw [z]
  exact ⟨⟨_,he,rfl⟩,fin _ he ⟨_,Heap.get?_push_of_some _ (Heap.get?_push_size _ rfl),rfl,rfl⟩ fun b o q=>Heap.get?_push_of_some _ (Heap.get?_push_of_some _ q)⟩
end
end L2.PM

noncomputable section
namespace L2.PM
open PySem PySem.Spec PyProof.Rows
section
variable {X:Cx} {pins:List (Addr×Obj)} {σ:St} {H:Hp} {s:Shared} {h':Heap}
theorem _root_.L2.Inv.turnsNew {ch:List Addr} {tk:Nat} {T:Addr} {o:HO} (I:Inv X pins σ H s) (hf:∀ b∈ch,FpOk X pins H b) (k:∀ b u,b∉ch→s.heap.get? b=some u→h'.get? b=some u) (hT:s.heap.objs.size≤T)
    (new:Xn X.prog X.w (upd H T o) h' T o):Inv X pins σ (upd H T o) { s with heap:=h',toks:=tk }:=by
  have hn:H T=none:=I.hok.fresh hT
  have lt:∀ b u,s.heap.get? b=some u→b≠T:=fun b u e z=>absurd (Nat.lt_of_lt_of_le (Heap.lt_size e) (z ▸ hT)) (Nat.lt_irrefl _)
  have nch:∀ b u,H b=some u→b∉ch:=fun b u e z=>by rw [(hf b z).1] at e;cases e
  refine I.call' (ch:=ch) rfl ⟨fun b u e _ _ hc=>k b u hc e,fun b u e _ _ hc=>⟨u.slots,k b u hc e⟩,fun b u e n _=>by rw [Ql (lt b u e)];exact n,fun b u e hc=>⟨u,k b u hc e⟩,fun b xs e=>by rw [Ql (Qo e hn)];exact e,
    fun b u v e=>by rw [Ql (Qo e hn)];exact e,fun b ps e=>⟨#[],by rw [Ql (Qo e hn)];simpa using e⟩⟩ (fun b u e => ?_) I.bare fun b hb => ?_
  · by_cases hb:b=T
    · subst hb
      rw [Qp] at e
      cases e
      exact new
    · rw [Ql hb] at e
      refine (I.hok b u e).stay (fun c v hc q=>k c v ?_ q) (fun c q=>by rw [Ql (Qo q hn)];exact q) fun c xs q=>by rw [Ql (Qo q hn)];exact q
      rcases hc with z | z
      · rw [z];exact nch b u e
      · exact nch c _ z
  · obtain ⟨_,f1,_,f3,f4,f5⟩:=hf b hb
    exact ⟨f3,f1,f4,f5⟩
theorem _root_.L2.Inv.turns {ch:List Addr} {tk:Nat} (I:Inv X pins σ H s) (hf:∀ b∈ch,FpOk X pins H b) (k:∀ b u,b∉ch→s.heap.get? b=some u→h'.get? b=some u):Inv X pins σ H { s with heap:=h',toks:=tk }:=by
  have nch:∀ b u,H b=some u→b∉ch:=fun b u e z=>by rw [(hf b z).1] at e;cases e
  refine I.call' (ch:=ch) rfl ⟨fun b u e _ _ hc=>k b u hc e,fun b u e _ _ hc=>⟨u.slots,k b u hc e⟩,fun b u e n _=>n,fun b u e hc=>⟨u,k b u hc e⟩,fun b xs e=>e,fun b u v e=>e,fun b ps e=>⟨#[],by simpa using e⟩⟩ (fun b u e => ?_) I.bare fun b hb => ?_
  · refine (I.hok b u e).stay (fun c v hc q=>k c v ?_ q) (fun c q=>q) fun c xs q=>q
    rcases hc with z | z
    · rw [z];exact nch b u e
    · exact nch c _ z
  · obtain ⟨_,f1,_,f3,f4,f5⟩:=hf b hb
    exact ⟨f3,f1,f4,f5⟩
end
noncomputable def Ite (sq:Hp→List V→Prop):It :=
  ⟨fun i H=>∃ xs x,sq H xs∧xs[i]?=some x,fun i H v H'=>∃ T x,v = .ref T∧H T=none∧H'=upd H T (.tup [.int i,x])∧∀ xs,sq H xs→xs[i]?=some x,fun i H=>∃ xs,sq H xs∧xs.length≤i⟩
theorem Qhp {P:Program} {w:World} {K:PySem.W.Frag} {elts:List Expr} {kk:Nat} {pp:Pos} (a it e:Addr) (hne:e≠it):Turn P w K (.Tuple elts kk pp) (Ite fun H xs=>SqT K H a xs) [e,it] e (fun i h=>(∃ old,IsEnum h e it i old)∧h.IsTupleIter it a i) where
  mem:=by simp
  obj:=fun i h st b hb=>by
    obtain ⟨⟨old,he⟩,o,ho,c,d⟩:=st
    rcases List.mem_cons.mp hb with z | z
    · subst z
      exact ⟨_,he,fun v q=>by
        have q:Data.fields _=Data.cell v:=q
        cases q⟩
    · rw [List.mem_singleton.mp z]
      exact ⟨o,ho,fun v q=>by rw [d] at q;cases q⟩
  keep:=fun i h h' st k=>by
    obtain ⟨⟨old,he⟩,st2⟩:=st
    exact ⟨⟨old,k e (by simp) _ he⟩,st2.at fun o q=>k it (by simp) o q⟩
  item:=by
    intro X hP hw hK hc i pins s σ H E I hf st hg
    subst hP hw hK
    obtain ⟨xs,x,hq,hx⟩:=hg
    obtain ⟨its,rv,p,hz⟩:=I.tuple hq
    obtain ⟨u,hu,ru⟩:=rv.get hx
    have hlen:=rv.length
    have hi:i < its.length:=(List.getElem?_eq_some_iff.mp hu).1
    have nai:a≠it:=fun z=>by
      obtain ⟨⟨oi,hoi,ci,_⟩⟩:=(⟨st.2⟩:Nonempty _)
      obtain ⟨oa,hoa,ca,_⟩:=p
      rw [z,hoi] at hoa
      cases hoa
      rw [ci] at ca
      exact absurd ca (by decide)
    have nae:e∉[it,a]:=fun z=>by
      rcases List.mem_cons.mp z with z | z
      · exact hne z
      · have z:=List.mem_singleton.mp z
        obtain ⟨⟨old,he⟩,_⟩:=st
        obtain ⟨oa,hoa,ca,_⟩:=p
        rw [← z,he] at hoa
        cases hoa
        exact absurd (show Value.type "enumerate"=Value.type "tuple" from ca) (by decide)
    have W:=WalksT.enumerateD (A:=X.A) (Qjm (prog:=X.prog) (w:=X.w) (A:=X.A.in1) (by have:=I.ok.hd hc;simp [this]) it a nai its.toArray) e hne nae (by simp)
    refine W.item i s _ _ (by simpa using hi) ⟨st.1,st.2,p⟩ fun T vals h1 tk hp hT tup mid k1 => ?_
    obtain ⟨tt,y,hy,rfl⟩:=hp
    have hy:y=u:=by
      rw [List.getElem?_toArray,hu] at hy
      exact (Option.some.inj hy).symm
    subst hy
    have apart:=W.apart i T h1 mid
    refine ⟨_,rfl,W.go elts kk pp i T { s with heap:=h1,toks:=tk } _ _ mid fun h2 st2 k2 => ?_⟩
    have hn:H T=none:=I.hok.fresh hT
    have tup2:h2.IsTuple T #[.int i tt,y]:=tup.at fun o q=>k2 T o apart q
    have I2:Inv X pins σ (upd H T (.tup [.int i,x])) { s with heap:=h2,toks:=tk }:=I.turnsNew (ch:=[e,it]) (o := .tup [.int i,x]) hf (fun b o hb q=>k2 b o hb (k1 b o hb q)) hT ⟨by show 2≤sizeLine;decide,[.int i tt,y],.cons ⟨tt,rfl⟩ (.cons ru .nil),Qak.pair tup2⟩
    refine ⟨.ref T,_,I2,rfl,⟨T,x,rfl,hn,rfl,fun ys hy=>by rw [I.tuple_inj hy hq];exact hx⟩,⟨st2.1,st2.2.1⟩,fun b hb => ?_⟩
    have hbT:b≠T:=fun z=>apart (z ▸ hb)
    rw [Ql hbT]
    exact (hf b hb).1
  done:=by
    intro X hP hw hK hc i pins s σ H E I hf st hg
    subst hP hw hK
    obtain ⟨xs,hq,hx⟩:=hg
    obtain ⟨its,rv,p,hz⟩:=I.tuple hq
    have hlen:=rv.length
    obtain ⟨⟨old,he⟩,st2⟩:=st
    have D:Draws X.prog X.w X.A.in1 it [it,a] i (fun _ _=>True) (fun j h=>j=i∧h.IsTupleIter it a i∧h.IsTuple a its.toArray) :=
      { live:=fun _ _ q=>let ⟨_,⟨o,ho,_⟩,_⟩:=q;⟨o,ho⟩
        frame:=fun _ _ _ q k=>⟨q.1,q.2.1.at fun o z=>k it (by simp) o z,q.2.2.at fun o z=>k a (by simp) o z⟩
        item:=fun j s Q E hj q _=>absurd q.1 (Nat.ne_of_lt hj)
        done:=fun s Q E q fin=>Qbe (by have:=I.ok.hd hc;simp [this]) q.2.1 q.2.2 (by simp;omega) fin }
    exact wpAny_pyNext_enum_endD D he ⟨rfl,st2,p⟩ fun h1 k=>⟨rfl,I.turns (tk:=s.toks) (ch:=[e,it]) hf fun b o hb q=>k b o (fun z=>hb (by simp [z])) q⟩
  self:=fun A i s Q E st h=>wpAny_pyIter_enum st.1.choose_spec h
end L2.PM

noncomputable section
namespace L2.PM
open PySem PySem.Spec PyProof.Rows
section
variable {X:Cx} {e a b c:Expr} {es:List Expr} {ms ns ls:List Nat} {m m1 m2 m3:MEx} {ma:PEnv→Option (List PV)} {pos p p1 p2 p3 pos':Pos} {x:Str} {id T:String} {tg:Expr}
theorem im_seq (h:EM X ms e m):IM X ms tg e (iSeq m):=by
  intro pins s σ H R I q
  obtain ⟨F,γ,xs,h1,h2,h3,w⟩:=q
  obtain ⟨p,e1,e2⟩:=Qh h3
  cases p with
  | lst ys =>
    cases e2
    exact Qck h pins s σ H R I ⟨F,γ,_,h1,h2,by unfold iLst;rw [e1];rfl,w⟩
  | tup ys =>
    cases e2
    exact Qgc h pins s σ H R I ⟨F,γ,_,h1,h2,by unfold iTpl;rw [e1];rfl,w⟩
  | _=>cases e2
theorem pi_enumT {elts:List Expr} {kk:Nat} {pp:Pos} {ta:TA} (hg:Gl X "enumerate") (hm:X.mg "enumerate"=none) (ha:PA X [a] ta) (hs:starEach [a] X.env=[(false,eval a X.env)]:=by rfl) :
    PI X (.Tuple elts kk pp) (.Call (.Name "enumerate" p) [a] [] pos) (fun σ H R=>ta σ H fun vs H1=>∃ l,vs=[.ref l]∧(∃ xs,SqT X.K H1 l xs)∧R (Ite fun H xs=>SqT X.K H l xs) H1):=by
  intro pins s σ H R I h
  refine Call_ (QeR I hg hm (show bootBuiltins "enumerate"=some (.type "enumerate") from by kernel_rfl) (PyProof.Rows.callWith_type1 (thn (ha pos pins s σ H _ I h) fun us s1 ⟨vs,H1,I1,r1,q1⟩ => ?_) hs rfl))
  obtain ⟨l,rfl,⟨xs,hq⟩,q⟩:=q1
  obtain ⟨u,rfl,ru⟩:=Qev r1
  cases ru
  obtain ⟨its,rv,pt,hz⟩:=I1.tuple hq
  refine QhI (show s1.heap.IsTuple l its.toArray from pt) fun h' he hit k => ?_
  refine wpAny_pyIter_enum he ?_
  refine ⟨s1.heap.objs.size + 1,[s1.heap.objs.size + 1,s1.heap.objs.size],_,_,H1,rfl,I1.kept (t':=s1.toks) k,Qhp l s1.heap.objs.size (s1.heap.objs.size + 1) (Nat.succ_ne_self _),⟨⟨_,he⟩,hit⟩,fun b hb => ?_,q⟩
  have hle:s1.heap.objs.size≤b:=by
    rcases List.mem_cons.mp hb with z | z
    · rw [z];exact Nat.le_succ _
    · rw [List.mem_singleton.mp z];exact Nat.le_refl _
  exact I1.fpOk hle (I1.hok.fresh hle)
theorem QgQ {elts:List Expr} {kk:Nat} {pp:Pos} (hc:X.calm=true) (hg:Gl X "enumerate") (hm:X.mg "enumerate"=none) (ha:AM X ms [a] ma) (hs:starEach [a] X.env=[(false,eval a X.env)]:=by rfl) :
    IM X ms (.Tuple elts kk pp) (.Call (.Name "enumerate" p) [a] [] pos) (Qn QeQ ma) :=
  PI.imp (pi_enumT hg hm ha hs) fun σ H R ⟨F,γ,xs,k1,k2,k3,w⟩=>by
    obtain ⟨qs,e1,k3⟩:=Qh k3
    refine ⟨F,γ,qs,k1,k2,e1,fun vs H1 F1 g1 q1 => ?_⟩
    unfold QeQ at k3
    split at k3
    · rename_i ys
      cases k3
      unfold RepL at q1
      obtain ⟨v,t,rfl,q1,qt⟩:=q1
      unfold RepL at qt
      subst qt
      unfold Rep at q1
      obtain ⟨l,us,rfl,sl,rl⟩:=q1
      refine ⟨l,rfl,⟨us,g1.sub.seqT sl⟩,w _ _ _ g1 ?_⟩
      refine ⟨fun i H2 hi e2 => ?_,fun i H2 v H3 hi e2 y => ?_,fun H2 e2 => ?_⟩
      · have hv:i < us.length:=by
          rw [rl.length]
          simpa using hi
        exact ⟨us,us[i],e2.seqT sl,by simp [hv]⟩
      · obtain ⟨T,x,rfl,hn,rfl,y⟩:=y
        obtain ⟨p,e3,e4⟩:=rl.back (y us (e2.seqT sl))
        refine ⟨.tup [pN i,p],?_,fun F2 x1 x2 => ?_⟩
        · simp [e3]
        · refine ⟨upd F2 T (.tup [.int i,x]),.laid x2 hn,?_⟩
          unfold Rep
          exact ⟨T,[.int i,x],rfl,.of Qp,.cons (Za _) (.cons (e4.mono (x1.trans (Grow.laid (o := .tup [.int i,x]) x2 hn).ext)) .nil)⟩
      · exact ⟨us,e2.seqT sl,by rw [rl.length];simp⟩
    · cases k3
end
end L2.PM

noncomputable section
namespace L2.PM
open PySem PySem.Spec PyProof.Rows
namespace SF
end SF
section
variable {prog:Program} {w:World} {A:Around} {E:Value→Shared→Prop} {s:Shared}
end
section
variable {X:Cx} {e a b c:Expr} {es:List Expr} {ms ns ls:List Nat} {m m1 m2 m3:MEx} {ma:PEnv→Option (List PV)} {pos p p1 p2 p3 pos':Pos} {x:Str} {id T:String} {tg:Expr}
end
end L2.PM

noncomputable section
namespace L2.PM
open PySem PySem.Spec PyProof.Rows
open PySem.AutoSeq1 (wpAny_loadPart')
section
variable {prog:Program} {w:World} {A:Around} {E:Value→Shared→Prop} {s:Shared}
end
section
variable {X:Cx} {e a b c:Expr} {es:List Expr} {ms ns ls:List Nat} {m m1 m2 m3:MEx} {ma:PEnv→Option (List PV)} {pos p p1 p2 p3 pos':Pos} {x:Str} {id T:String} {tg:Expr}
end
end L2.PM

noncomputable section
namespace L2.PM
open PySem
noncomputable def bls?:List PV→Option (List Bool)
  | []=>some []
  | .bl b :: xs=>(bls? xs).map (b :: ·)
  | _ :: _=>none
theorem Qhj:∀ {xs:List PV} {bs:List Bool},bls? xs=some bs→xs=bs.map PV.bl
  | [],bs,h=>by cases h;rfl
  | .bl b :: xs,bs,h=>by
    have h:(bls? xs).map (b :: ·)=some bs:=h
    cases e:bls? xs with
    | none=>rw [e] at h;cases h
    | some cs=>rw [e] at h;cases h;rw [Qhj e];rfl
  | .non :: _,_,h=>by cases h
  | .int _ :: _,_,h=>by cases h
  | .str _ :: _,_,h=>by cases h
  | .tup _ :: _,_,h=>by cases h
  | .lst _ :: _,_,h=>by cases h
theorem Qhi:∀ bs:List Bool,bls? (bs.map PV.bl)=some bs
  | []=>rfl
  | b :: bs=>by
    show (bls? (bs.map PV.bl)).map (b :: ·)=_
    rw [Qhi bs];rfl
noncomputable def Qgp:List PV→Option PV
  | [.lst xs]=>(bls? xs).map fun bs => .bl (bs.all id)
  | _=>none
end L2.PM

noncomputable section
namespace L2.PM
open PySem PySem.Spec PyProof.Rows
namespace SF
end SF
section
variable {prog:Program} {w:World} {A:Around} {E:Value→Shared→Prop} {s:Shared}
noncomputable def IsRv (h:Heap) (a l:Addr) (i:Int):Prop:=∃ o,h.get? a=some o∧o.cls = .type "reversed"∧o.data = .fields #[.ref l,rawInt i]
theorem IsRv.typeIs {a l:Addr} {i:Int} (x:IsRv s.heap a l i):s.TypeIs (.ref a) "reversed":=let ⟨o,ho,hc,_⟩:=x;⟨o,ho,hc⟩
theorem IsRv.at {h h':Heap} {a l:Addr} {i:Int} (x:IsRv h a l i) (e:∀ o,h.get? a=some o→h'.get? a=some o):IsRv h' a l i:=let ⟨o,ho,r⟩:=x;⟨o,e _ ho,r⟩
end
section
variable {X:Cx} {e a b c:Expr} {es:List Expr} {ms ns ls:List Nat} {m m1 m2 m3:MEx} {ma:PEnv→Option (List PV)} {pos p p1 p2 p3 pos':Pos} {x:Str} {id T:String} {tg:Expr}
theorem QdC {n:Nat} (h:n≤sizeLine):(n:Int) < 2 ^ 63:=by
  have:sizeLine < 2 ^ 63:=by decide
  omega
end
end L2.PM

noncomputable section
namespace L2.PM
open PySem PySem.Spec PyProof.Rows
open PySem.AutoSeq1 (wpAny_loadPart')
section
variable {X:Cx} {e a b c:Expr} {es:List Expr} {ms ns ls:List Nat} {m m1 m2 m3:MEx} {ma:PEnv→Option (List PV)} {pos p p1 p2 p3 pos':Pos} {x:Str} {id T:String} {tg:Expr}
end
end L2.PM

noncomputable section
namespace L2.PM
open PySem PySem.Spec PyProof.Rows
section
variable {X:Cx}
theorem QgD:∀ {bs:List Bool} {its:List Value},Vals (bs.map V.bl) its→its=bs.map Value.bool
  | [],_,h=>by cases h;rfl
  | b :: bs,_,h=>by
    cases h with
    | cons h1 h2=>rw [QgD h2,show _=Value.bool b from h1];rfl
theorem QgH {K:PySem.W.Frag} {F:Hp}:∀ {bs:List Bool} {vs:List V},RepL K F (bs.map PV.bl) vs→vs=bs.map V.bl
  | [],vs,h=>by
    rw [List.map_nil] at h
    unfold RepL at h
    exact h
  | b :: bs,vs,h=>by
    rw [List.map_cons] at h
    unfold RepL at h
    obtain ⟨v,t,rfl,h1,h2⟩:=h
    unfold Rep at h1
    rw [h1,QgH h2];rfl
theorem kept_it {s:Shared} {h':Heap} {o:Obj} (hk:∀ b x,b∉[s.heap.objs.size]→(s.heap.push o).get? b=some x→h'.get? b=some x):∀ b x,s.heap.get? b=some x→h'.get? b=some x :=
  fun b x e=>hk b x (fun hm=>by rw [List.mem_singleton.mp hm] at e;exact Nat.lt_irrefl _ (Heap.lt_size e)) (Heap.get?_push_of_some _ e)
theorem rng_all (bs:List Bool):((List.range bs.length).all fun i=>(bs[i]?).getD true)=bs.all id:=by
  rw [Bool.eq_iff_iff,List.all_eq_true,List.all_eq_true]
  constructor
  · intro h x hx
    obtain ⟨i,hi,rfl⟩:=List.mem_iff_getElem.mp hx
    have:=h i (List.mem_range.mpr hi)
    simpa [hi] using this
  · intro h i hi
    have hi:=List.mem_range.mp hi
    simpa [hi] using h bs[i] (List.getElem_mem hi)
theorem Qjq (hc:X.calm=true):Qaa X (.builtin "all") (fun vs H Q=>∃ (a:Addr) (bs:List Bool),vs=[.ref a]∧SqL X.K H a (bs.map V.bl)∧Q (.bl (bs.all id)) H):=by
  intro pins s σ H vs us Q I rs h
  obtain ⟨a,bs,rfl,h2,h3⟩:=h
  obtain ⟨u,rfl,ru⟩:=Qev rs
  cases ru
  obtain ⟨its,r,pl,_⟩:=I.list h2
  have e:=QgD r
  subst e
  have hl:=pl.isList
  have hlt:a < s.heap.objs.size:=by obtain ⟨_,e,_⟩:=hl;exact Heap.lt_size e
  refine call_all_walk (wpAny_pyIter_list hl ?_)
  refine ⟨s.heap.objs.size,[s.heap.objs.size,a],[s.heap.objs.size],(bs.map Value.bool).toArray.size,_,_,fun i=>(bs[i]?).getD true,rfl,Walks.list (A:=X.A.in1) (I.ok.hd hc) _ a (Nat.ne_of_lt hlt) (bs.map Value.bool).toArray,
    ⟨⟨_,Heap.get?_push_size _ rfl,rfl,rfl⟩,hl.push _⟩,fun i v s' Q' E' hP hQ => ?_,fun h' tk hk => ?_⟩
  · have hP:(bs.map Value.bool)[i]?=some v:=by simpa using hP
    rw [List.getElem?_map,Option.map_eq_some_iff] at hP
    obtain ⟨b,e,rfl⟩:=hP
    simp only [e,Option.getD_some] at hQ
    exact wpAny_truthy_bool hQ
  · have e:((List.range (bs.map Value.bool).toArray.size).all fun i=>(bs[i]?).getD true)=bs.all id:=by
      rw [List.size_toArray,List.length_map];exact rng_all bs
    rw [e]
    exact ⟨.bl (bs.all id),H,I.kept (t':=tk) (kept_it hk),rfl,h3⟩
theorem cm_all (hc:X.calm=true):Qfv X (.builtin "all") Qgp:=by
  intro pins s σ H vs us Q I rs h
  obtain ⟨F,ps,r,h1,h2,h3,w⟩:=h
  refine Qjq hc pins s σ H vs us Q I rs ?_
  unfold Qgp at h3
  split at h3
  · rename_i xs
    obtain ⟨bs,e1,rfl⟩:=Yh h3
    have e2:=Qhj e1
    subst e2
    unfold RepL at h2
    obtain ⟨v,t,rfl,h2,ht⟩:=h2
    unfold RepL at ht
    subst ht
    unfold Rep at h2
    obtain ⟨a,us,rfl,k2,k3⟩:=h2
    have e3:=QgH k3
    subst e3
    exact ⟨a,bs,rfl,h1.seq k2,w.here h1 (Yc _)⟩
  · cases h3
end
end L2.PM

noncomputable section
namespace L2.PM
open PySem PySem.Spec PyProof.Rows
section
variable {X:Cx} {pos:Pos}
end
end L2.PM

noncomputable section
namespace L2.PM
open PySem PySem.Spec PyProof.Rows
section
variable {X:Cx} {e a b c:Expr} {es:List Expr} {ms ns ls:List Nat} {m m1 m2 m3:MEx} {ma:PEnv→Option (List PV)} {pos p p1 p2 p3 pos':Pos} {x:Str} {id T:String} {tg:Expr}
theorem star_int {i:Int} {j:Nat} {q:Pos} {es:List Expr} {env:Env}:starEach (.Constant (.int i) j q :: es) env=(false,eval (.Constant (.int i) j q) env) :: starEach es env:=rfl
theorem QX {i:Int} {j:Nat} {q:Pos} (hr:AM X [] es ma):AM X [] (.Constant (.int i) j q :: es) (Qc (mC (.int i)) ma):=Qb Qf hr star_int
end
end L2.PM

noncomputable section
namespace L2.PM
open PySem PySem.Spec PyProof.Rows
section
variable {X:Cx}
end
end L2.PM

noncomputable section
namespace L2.PM
open PySem PySem.Spec PyProof.Rows
section
variable {X:Cx} {pos p:Pos} {x:Str}
end
end L2.PM

noncomputable section
namespace L2.PM
open PySem PySem.Spec PyProof.Rows
section
variable {X:Cx}
end
end L2.PM

noncomputable section
namespace L2.PM
open PySem PySem.Spec PyProof.Rows
section
variable {X:Cx} {tg e:Expr} {ms:List Nat} {m:MEx}
end
end L2.PM

noncomputable section
namespace L2.PM
open PySem PySem.Spec PyProof.Rows PySem.Builtin PySem.Builtin.Str
section
variable {prog:Program} {w:World} {A:Around} {E:Value→Shared→Prop} {s:Shared} {x y:Str} {t u:Tok}
end
section
variable {X:Cx} {o e:Expr} {es:List Expr} {ms ns:List Nat} {m:MEx} {ma:PEnv→Option (List PV)}
end
end L2.PM

noncomputable section
namespace L2.PM
open PySem PySem.Spec PyProof.Rows
section
variable {X:Cx}
variable {e k:Expr} {ms:List Nat} {m mk:MEx} {p2 pos:Pos}
end
end L2.PM

noncomputable section
namespace L2.PM
open PySem PySem.Spec PyProof.Rows
section
variable {X:Cx} {o e:Expr} {es:List Expr} {ms ns:List Nat} {m:MEx} {ma:PEnv→Option (List PV)}
end
end L2.PM

noncomputable section
namespace L2.PM
open PySem
noncomputable def pI01:List PV→Option PV
  | [.bl b]=>some (.int (if b=true then 1 else 0))
  | [.int i]=>some (.int i)
  | _=>none
end L2.PM

noncomputable section
namespace L2.PM
open PySem PySem.Spec PyProof.Rows
section
variable {X:Cx} {e a b c:Expr} {es:List Expr} {ms ns ls:List Nat} {m m1 m2 m3:MEx} {ma:PEnv→Option (List PV)} {pos p p1 p2 p3 pos':Pos} {x:Str} {id T:String} {tg:Expr}
theorem QaQ:Qfv X (.type "int") pI01:=by
  intro pins s σ H vs us Q I rs h
  obtain ⟨F,ps,r,h1,h2,h3,w⟩:=h
  unfold pI01 at h3
  split at h3
  · rename_i b
    cases h3
    unfold RepL at h2
    obtain ⟨v,t,rfl,h2,ht⟩:=h2
    unfold RepL at ht
    subst ht
    unfold Rep at h2
    subst h2
    obtain ⟨u,rfl,ru⟩:=Qev rs
    cases ru
    refine call_int_bool ?_
    exact ⟨.int (if b=true then 1 else 0),H,I.kept (t':=s.toks + 1) fun _ _ e=>e,⟨_,rfl⟩,w.here h1 (Za _)⟩
  · rename_i j
    cases h3
    unfold RepL at h2
    obtain ⟨v,t,rfl,h2,ht⟩:=h2
    unfold RepL at ht
    subst ht
    unfold Rep at h2
    subst h2
    obtain ⟨u,rfl,ru⟩:=Qev rs
    obtain ⟨tk,rfl⟩:=ru
    exact call_int_int ⟨.int j,H,I,⟨tk,rfl⟩,w.here h1 (Za _)⟩
  · cases h3
end
open PySem.AutoSeq1 (wpAny_loadPart')
section
variable {X:Cx} {e a b c:Expr} {es:List Expr} {ms ns ls:List Nat} {m m1 m2 m3:MEx} {ma:PEnv→Option (List PV)} {pos p p1 p2 p3 pos':Pos} {x:Str} {id T:String} {tg:Expr}
end
structure FunD (K:PySem.W.Frag) (x qual:Str) (st:Stmt) (f:Addr) (fd:FuncData) (j:Int):Prop where
  ex:∃ (T:Addr) (oc:Value) (od:Option Addr) (kV doc pm:Value) (an:Option Addr) (cdv ct:Value) (osl:Array (Option Value)),
    fd=PySem.W.fnOf x qual (Qq st) (Qm st) (Qe st) (.ref T) kV doc pm an cdv ct∧K.lookup f=some ⟨oc,od,.func fd,osl⟩∧PySem.W.codeIn K cdv qual=true ∧
    ∃ (tc:Value) (td:Option Addr) (tk:Tok) (tn:Nat) (ts:Array (Option Value)),K.lookup T=some ⟨tc,td,.seq #[.int j tk] tn,ts⟩
  kp:PySem.W.keepIn K (.ref f)=true
section
variable {P:Program} {w:World} {K:PySem.W.Frag} {mg:Str→Option Value} {base:Heap}
theorem FunD.ok {x qual:Str} {st:Stmt} {f:Addr} {fd:FuncData} {j:Int} {N ps:List Str} {k:Nat} {sp:Sp} (F:FunD K x qual st f fd j) (S:FnScope N ps (Qe st)) (len:∀ vs H Q E,sp vs H Q E→vs.length=ps.length)
    (hbody:∀ (cdv:Value) (A:Around) (outer:List Env) (s:Shared) (H:Hp) (vs:List V) (Q:VK) (E:XK),Room k (A.deeper (envOfC qual (Qe st) s.heap.objs.size f cdv))→sp vs H Q E →
      ∃ t,PSs (cxOf CX0 P w K mg base N qual (Qe st) f cdv A outer s H E).nox (Qm st) t∧t { nx:=fun _ H'=>Q .non H',rt:=Q } (XL N vs) H):FnOk P w K mg base CX0 (k + 1) f fd ps sp:=by
  obtain ⟨T,oc,od,kV,doc,pm,an,cdv,ct,osl,rfl,lk,hcd,_⟩:=F.ex
  refine fn_of lk hcd S len fun A outer s H vs Q E hr hsp => ?_
  obtain ⟨t,h,q⟩:=hbody cdv A outer s H vs Q E hr hsp
  exact ⟨t,h.nox,q⟩
theorem FunD.binds {x qual:Str} {st:Stmt} {f:Addr} {fd:FuncData} {j:Int} {ps:List Str} (F:FunD K x qual st f fd j)
    (h:∀ (dV kV doc pm:Value) (an:Option Addr) (cdv ct d:Value) (us:List Value),us.length=ps.length→∃ k:Option (Array Value)→Sem (List (Str×Value)),bindArgs (PySem.W.fnOf x qual (Qq st) (Qm st) (Qe st) dV kV doc pm an cdv ct) ⟨us,[]⟩=seqItems? dV >>= k∧k (some #[d])=pure (ps.zip us)):YE K fd ps []:=by
  obtain ⟨T,oc,od,kV,doc,pm,an,cdv,ct,osl,rfl,lk,hcd,tc,td,tk,tn,ts,t⟩:=F.ex
  intro s us X hl
  rw [List.append_nil] at hl ⊢
  obtain ⟨k,e1,e2⟩:=h (.ref T) kV doc pm an cdv ct (.int j tk) us hl
  exact BindsTo.of_defaults rfl (X _ _ t) rfl e1 e2
end
section
variable {X:Cx} {e:Expr} {es:List Expr} {ms:List Nat} {ma:PEnv→Option (List PV)} {x:Str} {p pos:Pos} {k n:Nat} {j:Int} {m:MEx}
end
end L2.PM

noncomputable section
namespace L2.PM
open PySem PySem.Spec PyProof.Rows
section
variable {prog:Program} {w:World} {A:Around} {E:Value→Shared→Prop} {s:Shared} {z TI TO i1 i2:Addr} {f1 f2:List Addr} {n1 n2 k1 k2:Nat} {P1 P2:Nat→Value→Prop} {S1 S2:Nat→Heap→Prop}
end
section
variable {X:Cx} {e a b c:Expr} {es:List Expr} {ms ns ls:List Nat} {m m1 m2 m3:MEx} {ma:PEnv→Option (List PV)} {pos p p1 p2 p3 pos':Pos} {x:Str} {id T:String} {tg:Expr}
end
end L2.PM

noncomputable section
namespace L2.PM
open PySem PySem.Spec PyProof.Rows
section
variable {prog:Program} {w:World} {A:Around} {E:Value→Shared→Prop} {s:Shared}
noncomputable def SetLS (prog:Program) (w:World) (L:Bool) (h:Heap) (a:Addr) (M:List Str):Prop :=
  ∃ o es ep t,h.get? a=some o∧o.ExactSet∧o.data = .set es ep t∧ElemsOf (strKind prog w) es.toList∧(∀ k,k∈M↔∃ e∈es.toList,(strKind prog w).is k e.2=true) ∧
    es.size < scanBound∧t.fits es.size=true∧es.size=M.length∧M.Nodup∧Kept L t
theorem SetLS.at {L:Bool} {h h':Heap} {a:Addr} {M:List Str} (x:SetLS prog w L h a M) (e:∀ o,h.get? a=some o→h'.get? a=some o):SetLS prog w L h' a M:=by
  obtain ⟨o,es,ep,t,ho,r⟩:=x
  exact ⟨o,es,ep,t,e o ho,r⟩
end
end L2.PM

noncomputable section
namespace L2.PM
open PySem PySem.Spec PyProof.Rows
section
variable {prog:Program} {w:World} {A:Around} {E:Value→Shared→Prop} {s:Shared}
end
end L2.PM

noncomputable section
namespace L2.PM
open PySem PySem.Spec PyProof.Rows
section
variable {X:Cx} {e a b c:Expr} {es:List Expr} {ms ns ls:List Nat} {m m1 m2 m3:MEx} {ma:PEnv→Option (List PV)} {pos p p1 p2 p3 pos':Pos} {x:Str} {id T:String}
end
end L2.PM

noncomputable section
namespace L2.PM
open PySem PySem.Spec PyProof.Rows
section
variable {X:Cx} {pos p:Pos} {x:Str}
theorem star_str {i:Str} {j:Nat} {q:Pos} {es:List Expr} {env:Env}:starEach (.Constant (.str i) j q :: es) env=(false,eval (.Constant (.str i) j q) env) :: starEach es env:=rfl
theorem Xa {es:List Expr} {ma:PEnv→Option (List PV)} {i:Str} {j:Nat} {q:Pos} (hr:AM X [] es ma):AM X [] (.Constant (.str i) j q :: es) (Qc (mC (.str i)) ma):=Qb Qai hr star_str
end
end L2.PM

noncomputable section
namespace L2.PM
open PySem PySem.Spec PyProof.Rows
noncomputable def orH (B E:Hp):Hp:=fun b=>match B b with
  | some o=>some o
  | none=>E b
theorem Qbs {B E:Hp}:Same B (orH B E):=fun b o h=>by unfold orH;rw [h]
theorem YS {B E:Hp} {b:Addr} {o:HO} (n:B b=none) (h:E b=some o):orH B E b=some o:=by unfold orH;rw [n];exact h
theorem Yt {B E:Hp} {b:Addr} (h:orH B E b=none):B b=none∧E b=none:=by
  unfold orH at h
  cases q:B b with
  | none=>rw [q] at h;exact ⟨rfl,h⟩
  | some o=>rw [q] at h;cases h
theorem Qcf {B E:Hp} {b:Addr} (h1:B b=none) (h2:E b=none):orH B E b=none:=by unfold orH;rw [h1];exact h2
theorem Xz {B E:Hp} {b:Addr} {o:HO} (h:orH B E b=some o):B b=some o∨(B b=none∧E b=some o):=by
  unfold orH at h
  cases q:B b with
  | none=>rw [q] at h;exact .inr ⟨rfl,h⟩
  | some u=>rw [q] at h;exact .inl h
noncomputable def QL (γ:PEnv) (j:Nat):Option Addr:=match γ[j]? with
  | some (.fz (.opq a))=>some a
  | _=>none
theorem Ym {γ:PEnv} {j:Nat} {a:Addr} (h:QL γ j=some a):γ[j]?=some (.fz (.opq a)):=by
  unfold QL at h
  split at h
  · rename_i b q
    cases h
    exact q
  · cases h
section
variable {τ:Type}
structure SX (K:PySem.W.Frag) (P:Hp→Hp→Addr→τ→Prop) (j:Nat) (B F₀ F E:Hp) (a:Addr) (σ:St) (H:Hp) (γ:PEnv) (t:τ):Prop where
  sr:SR K (orH B E) F₀ F σ H γ
  at_:QL γ j=some a
  own:P F E a t
  db:∀ b o,E b=some o→B b=none
  df:∀ b o,E b=some o→F b=none
inductive OutX (τ:Type) where
  | nx (γ:PEnv) (t:τ) | rt (p:PV) | ro (xs:List PV) | bk (γ:PEnv) (t:τ) | ct (γ:PEnv) (t:τ)
noncomputable abbrev MX (τ:Type):=PEnv→τ→Option (OutX τ)
noncomputable def Qif (K:PySem.W.Frag) (P:Hp→Hp→Addr→τ→Prop) (j:Nat) (B F₀:Hp) (a:Addr) (D:Ends):OutX τ→Prop
  | .nx γ t=>∀ σ H F E,SX K P j B F₀ F E a σ H γ t→D.nx σ H
  | .rt p=>∀ v H F,Grow F₀ B F H→Rep K F p v→D.rt v H
  | .ro xs=>∀ c vs H F,Grow F₀ B F H→B c=none→F c=none→H c=some (.lst vs)→RepL K F xs vs→D.rt (.ref c) H
  | .bk γ t=>∀ σ H F E,SX K P j B F₀ F E a σ H γ t→D.bk σ H
  | .ct γ t=>∀ σ H F E,SX K P j B F₀ F E a σ H γ t→D.ct σ H
noncomputable def tMX (K:PySem.W.Frag) (P:Hp→Hp→Addr→τ→Prop) (j:Nat) (m:MX τ):TS:=fun D σ H=>∃ B F₀ F E a γ t o,SX K P j B F₀ F E a σ H γ t∧m γ t=some o∧Qif K P j B F₀ a D o
noncomputable def XM (X:Cx) (P:Hp→Hp→Addr→τ→Prop) (j:Nat) (st:Stmt) (m:MX τ):Prop:=PS X st (tMX X.K P j m)
noncomputable def XMs (X:Cx) (P:Hp→Hp→Addr→τ→Prop) (j:Nat) (sts:List Stmt) (m:MX τ):Prop:=PSs X sts (tMX X.K P j m)
noncomputable def QaU (P:Hp→Hp→Addr→τ→Prop):Prop:=∀ (F F' E:Hp) (a:Addr) (t:τ),Same F F'→P F E a t→P F' E a t
variable {K:PySem.W.Frag} {P:Hp→Hp→Addr→τ→Prop} {j:Nat} {B F₀ F F' E H H':Hp} {a:Addr} {σ σ':St} {γ γ':PEnv} {t:τ}
theorem Grow.offE (g:Grow F₀ (orH B E) F H):Grow F₀ B F H:=⟨g.ext,g.sub,Qbs.trans g.same,fun b o e=>(g.new b o e).imp id fun z=>(Yt z).1⟩
theorem SX.next (S:SX K P j B F₀ F E a σ H γ t) (mono:QaU P) (S':SR K (orH B E) F₀ F' σ' H' γ') (hj:QL γ' j=QL γ j) (hF:Same F F'):SX K P j B F₀ F' E a σ' H' γ' t:=by
  refine ⟨S',hj.trans S.at_,mono _ _ _ _ _ hF S.own,S.db,fun b o e => ?_⟩
  cases q:F' b with
  | none=>rfl
  | some u =>
    rcases S'.fb b u q with z | z
    · have:=S.sr.f0 b u z
      rw [S.df b o e] at this;cases this
    · rw [YS (S.db b o e) e] at z;cases z
end
end L2.PM

noncomputable section
namespace L2.PM
open PySem PySem.Spec PyProof.Rows
section
variable {τ:Type} {X:Cx} {K:PySem.W.Frag} {P:Hp→Hp→Addr→τ→Prop} {j:Nat} {st:Stmt} {sts:List Stmt} {e c:Expr} {ms:List Nat} {pos p2:Pos}
noncomputable def Yo (j:Nat) (m:MSt):MX τ:=fun γ t=>(m γ).bind fun o=>match o with
  | .nx γ'=>if QL γ' j=QL γ j then some (.nx γ' t) else none
  | .rt p=>some (.rt p)
  | .ro xs=>some (.ro xs)
  | .bk γ'=>if QL γ' j=QL γ j then some (.bk γ' t) else none
  | .ct γ'=>if QL γ' j=QL γ j then some (.ct γ' t) else none
theorem QcS (mono:QaU P) {m:MSt} {D:Ends} {σ:St} {H:Hp} (h:tMX K P j (Yo j m) D σ H):tMS K m D σ H:=by
  obtain ⟨B,F₀,F,E,a,γ,t,o,S,e,ok⟩:=h
  obtain ⟨ob,e1,e⟩:=Qh e
  refine ⟨orH B E,F,F,γ,ob,S.sr.up S.sr.f0 (Same.refl _),e1,?_⟩
  cases ob with
  | nx γ' =>
    obtain ⟨c,rfl⟩:=QD e
    exact fun σ' H' F' S'=>ok σ' H' F' E (S.next mono (S'.down S.sr.f0 S.sr.fb) c S'.f0)
  | bk γ' =>
    obtain ⟨c,rfl⟩:=QD e
    exact fun σ' H' F' S'=>ok σ' H' F' E (S.next mono (S'.down S.sr.f0 S.sr.fb) c S'.f0)
  | ct γ' =>
    obtain ⟨c,rfl⟩:=QD e
    exact fun σ' H' F' S'=>ok σ' H' F' E (S.next mono (S'.down S.sr.f0 S.sr.fb) c S'.f0)
  | rt p =>
    cases e
    exact fun v H' F' g r=>ok v H' F' (g.down S.sr.f0 S.sr.fb).offE r
  | ro xs =>
    cases e
    exact fun c vs H' F' g n nF hH r=>ok c vs H' F' (g.down S.sr.f0 S.sr.fb).offE (Yt n).1 nF hH r
theorem Ya (mono:QaU P) {m:MSt} (h:SM X st m):XM X P j st (Yo j m):=PS.imp h fun D σ H q=>QcS mono q
theorem xs_lift (mono:QaU P) {m:MSt} (h:SMs X sts m):XMs X P j sts (Yo j m):=PSs.imp h fun D σ H q=>QcS mono q
noncomputable def xSeq (s1 s2:MX τ):MX τ:=fun γ t=>(s1 γ t).bind fun o=>match o with
  | .nx γ' t'=>s2 γ' t'
  | o=>some o
theorem Zc {s1 s2:MX τ} (h:XM X P j st s1) (hr:XMs X P j sts s2):XMs X P j (st :: sts) (xSeq s1 s2):=PSs.imp (QaV h hr) fun D σ H ⟨B,F₀,F,E,a,γ,t,o,S,e,ok⟩=>by
  obtain ⟨o1,e1,e2⟩:=Qh e
  refine ⟨B,F₀,F,E,a,γ,t,o1,S,e1,?_⟩
  cases o1 with
  | nx γ' t'=>exact fun σ' H' F' E' S'=>⟨B,F₀,F',E',a,γ',t',o,S',e2,ok⟩
  | rt p=>cases e2;exact ok
  | ro xs=>cases e2;exact ok
  | bk γ' t'=>cases e2;exact ok
  | ct γ' t'=>cases e2;exact ok
theorem QeJ {s1:MX τ} (h:XM X P j st s1):XMs X P j [st] s1:=Qee h
noncomputable def xNx:MX τ:=fun γ t=>some (.nx γ t)
theorem QeK:XMs X P j [] (xNx:MX τ):=PSs.imp Qil fun D σ H ⟨B,F₀,F,E,a,γ,t,o,S,e,ok⟩=>by
  cases e
  exact ok σ H F E S
noncomputable def Reads' (K:PySem.W.Frag) (P:Hp→Hp→Addr→τ→Prop) (rd:τ→Option PV):Prop:=∀ (F E:Hp) (a:Addr) (t:τ) (p:PV),(∀ b o,E b=some o→F b=none)→P F E a t→rd t=some p→Rep K (orH F E) p (.ref a)
theorem SX.see {B F₀ F E H:Hp} {a:Addr} {σ:St} {γ:PEnv} {t:τ} (S:SX K P j B F₀ F E a σ H γ t) {rd:τ→Option PV} (hr:Reads' K P rd) {p:PV} (hp:rd t=some p) (ms:List Nat):∃ F1,Same F1 H∧ERep K F1 σ (γ.set j (.fz p)) ms:=by
  obtain ⟨F1,S1,x1,er⟩:=S.sr.see (ms.filter (· != j))
  have hE:∀ b o,E b=some o→F1 b=none:=fun b o e=>by
    cases q:F1 b with
    | none=>rfl
    | some u =>
      rcases S1.fb b u q with z | z
      · have:=S.sr.f0 b u z
        rw [S.df b o e] at this;cases this
      · rw [YS (S.db b o e) e] at z;cases z
  have hj:=Ym S.at_
  have hjl:j < γ.length:=(List.getElem?_eq_some_iff.mp hj).1
  obtain ⟨v,hv,rv⟩:=S.sr.fz j _ hj
  unfold Rep at rv
  subst rv
  refine ⟨orH F1 E,fun b o e => ?_,fun i hi q e => ?_⟩
  · rcases Xz e with z | ⟨z1,z2⟩
    · exact S1.sub b o z
    · exact S.sr.base b o (YS (S.db b o z2) z2)
  · by_cases z:j=i
    · subst z
      unfold getV at e
      rw [List.getElem?_set_self hjl] at e
      cases e
      have h0:=hr F E a t p S.df S.own hp
      refine ⟨.ref a,hv,h0.mono fun b o e => ?_⟩
      rcases Xz e with z | ⟨z1,z2⟩
      · exact Qbs b o (x1 b o z)
      · exact YS (hE b o z2) z2
    · unfold getV at e
      rw [List.getElem?_set_ne z] at e
      obtain ⟨v,k1,k2⟩:=er i (List.mem_filter.mpr ⟨hi,by simpa using fun h=>z h.symm⟩) q e
      exact ⟨v,k1,k2.mono Qbs⟩
theorem SX.same {B F₀ F E H H':Hp} {a:Addr} {σ:St} {γ:PEnv} {t:τ} (S:SX K P j B F₀ F E a σ H γ t) (e:Same H H'):SX K P j B F₀ F E a σ H' γ t:=⟨S.sr.same e,S.at_,S.own,S.db,S.df⟩
noncomputable def forX (j:Nat) (g:PV→PEnv→Option PEnv) (b:MX τ):List PV→PEnv→τ→Option (OutX τ)
  | [],γ,t=>some (.nx γ t)
  | x :: xs,γ,t=>(g x γ).bind fun γ1=>if QL γ1 j=QL γ j then (b γ1 t).bind fun o=>match o with
    | .nx γ2 t2=>forX j g b xs γ2 t2
    | .ct γ2 t2=>forX j g b xs γ2 t2
    | .bk γ2 t2=>some (.nx γ2 t2)
    | .rt p=>some (.rt p)
    | .ro ys=>some (.ro ys)
    else none
end
end L2.PM

noncomputable section
namespace L2.PM
open PySem PySem.Spec PyProof.Rows
theorem Xi {α:Type} {c:Prop} [Decidable c] {a:Option α} {r:α} (h:(if c then a else none)=some r):c∧a=some r:=by
  by_cases z:c
  · rw [if_pos z] at h;exact ⟨z,h⟩
  · rw [if_neg z] at h;cases h
noncomputable def Qbr (K:PySem.W.Frag) (E:Hp) (a:Addr):List (List PV)→List V→Prop
  | [],vs=>vs=[]
  | xs :: r,vs=>∃ h us t,vs = .ref h :: t∧h≠a∧E h=some (.lst us)∧RepL K (fun _=>none) xs us∧Qbr K E a r t
theorem Qbr.length {K:PySem.W.Frag} {E:Hp} {a:Addr}:∀ {xss:List (List PV)} {vs:List V},Qbr K E a xss vs→vs.length=xss.length
  | [],_,h=>by unfold Qbr at h;subst h;rfl
  | xs :: r,_,h=>by
    unfold Qbr at h
    obtain ⟨h1,us,t,rfl,_,_,_,h5⟩:=h
    simp [Qbr.length h5]
theorem Qbr.snoc {K:PySem.W.Frag} {E E':Hp} {a:Addr} (hE:∀ b o,b≠a→E b=some o→E' b=some o) {c:Addr} {xs:List PV} {us:List V} (hc:c≠a) (h2:E' c=some (.lst us)) (h3:RepL K (fun _=>none) xs us):∀ {xss:List (List PV)} {vs:List V},Qbr K E a xss vs→Qbr K E' a (xss++[xs]) (vs++[.ref c])
  | [],_,h=>by
    unfold Qbr at h
    subst h
    exact ⟨c,us,[],rfl,hc,h2,h3,rfl⟩
  | ys :: r,_,h=>by
    unfold Qbr at h
    obtain ⟨h1,ws,t,rfl,k2,k3,k4,k5⟩:=h
    exact ⟨h1,ws,_,rfl,k2,hE _ _ k2 k3,k4,Qbr.snoc hE hc h2 h3 k5⟩
section
variable {X:Cx} {j:Nat} {st:Stmt} {sts:List Stmt} {e c:Expr} {ms ns:List Nat} {pos p2 p3 apos cpos:Pos} {x:Str}
end
end L2.PM

noncomputable section
namespace L2.PM
open PySem PySem.Spec PyProof.Rows
section
variable {X:Cx} {o e:Expr} {es:List Expr} {ms ns:List Nat} {m:MEx} {ma:PEnv→Option (List PV)} {C:Addr} {f:Str} {pos apos:Pos}
theorem QdS {K:PySem.W.Frag} {F:Hp} {f:Str}:∀ {ks:List Str} {ps:List PV} {vs:List V} {p:PV},ks.length=vs.length→RepL K F ps vs→(ks.zip ps).lookup f=some p→∃ v,(ks.zip vs).lookup f=some v∧Rep K F p v
  | [],_,_,_,_,_,h=>by simp at h
  | k :: ks,[],_,_,_,_,h=>by simp at h
  | k :: ks,q :: ps,vs,p,hl,hr,h=>by
    unfold RepL at hr
    obtain ⟨v,t,rfl,h2,h3⟩:=hr
    simp only [List.zip_cons_cons,List.lookup_cons] at h ⊢
    cases hk:f==k with
    | true =>
      rw [hk] at h
      cases h
      exact ⟨v,rfl,h2⟩
    | false =>
      rw [hk] at h
      exact QdS (by simpa using hl) h3 h
theorem QaS {f:Str}:∀ {ks:List Str} {vs:List V},ks.contains f=false→(ks.zip vs).lookup f=none
  | [],_,_=>by simp
  | k :: ks,[],_=>by simp
  | k :: ks,v :: vs,h=>by
    rw [List.contains_cons,Bool.or_eq_false_iff] at h
    simp only [List.zip_cons_cons,List.lookup_cons,h.1]
    exact QaS h.2
noncomputable def fldK (C:Addr) (f:Str):PV→Option PV
  | .obj D ks ps=>if D=C then (ks.zip ps).lookup f else none
  | _=>none
noncomputable def mFld (C:Addr) (f:Str) (m:MEx):MEx:=fun γ=>(m γ).bind (fldK C f)
theorem em_fld (h:EM X ms o m) (hc:Cls X.K C) (hn:Xw X.K C f) (hb:attributeBase o f X.env (eval o X.env)=eval o X.env:=by rfl):EM X ms (.Attribute o f pos) (mFld C f m) :=
  PE.imp (QfZ h hb) fun σ H Q ⟨F,γ,r,k1,k2,k3,w⟩=>by
    obtain ⟨q,e1,e2⟩:=Qh k3
    refine ⟨F,γ,q,k1,k2,e1,fun v H1 F1 g1 q1 => ?_⟩
    cases q with
    | obj D ks ps =>
      have e2:(if D=C then (ks.zip ps).lookup f else none)=some r:=e2
      have hD:D=C:=by
        by_cases z:D=C
        · exact z
        · rw [if_neg z] at e2;cases e2
      subst hD
      rw [if_pos rfl] at e2
      unfold Rep at q1
      obtain ⟨a,dx,vs,rfl,h2,h3,h4,h5⟩:=q1
      obtain ⟨v',l,rv⟩:=QdS h4 h5 e2
      exact ⟨a,D,dx,_,v',rfl,g1.sub _ _ h2,hc,hn,l,w _ _ _ g1 rv⟩
    | _=>cases e2
noncomputable def isC (C:Addr) (f:Str):PV→Bool
  | .obj D ks _=>(D==C) && !ks.contains f
  | _=>false
noncomputable def YT (C:Addr) (f:Str) (g:List PV→Option PV) (m:MEx) (ma:PEnv→Option (List PV)):MEx:=fun γ=>(m γ).bind fun q=>if isC C f q=true then (ma γ).bind fun ps=>g (q :: ps) else none
theorem Qiv {f:Str} {q:PV} (h:isC C f q=true):∃ ks ps,q = .obj C ks ps∧ks.contains f=false:=by
  cases q with
  | obj D ks ps =>
    have h:((D==C) && !ks.contains f)=true:=h
    rw [Bool.and_eq_true,beq_iff_eq] at h
    obtain ⟨rfl,h2⟩:=h
    exact ⟨ks,ps,rfl,by simpa using h2⟩
  | _=>cases h
variable {k n:Nat} {fa:Addr} {fd:FuncData} {ps:List Str}
theorem em_meth {pl:Sem Bool} {g:List PV→Option PV} (h:EM X ms o m) (hc:Cls X.K C) (hm:Meth X.K C f fa) (F:FnOk X.prog X.w X.K X.mg X.base CX0 k fa fd ps (spM X.K n g)) (hn:∀ ps r,g ps=some r→ps.length=n) (hr:Room k X.A) (hb:YE X.K fd ps [])
    (ha:AM X ns (e :: es) ma) (hst:starEach (e :: es) X.env=(false,eval e X.env) :: starEach es X.env:=by rfl) (hpl:(backTo pos (starEach es X.env)).any (·.1)=false:=by rfl)
    (ht:eval (.Call (.Attribute o f apos) (e :: es) [] pos) X.env=(do
      let ov ← eval o X.env
      standAt apos.atName
      let (f,first) ← holding [ov] (getMethod ov f pl)
      callWith pos f first (backTo pos (starEach (e :: es) X.env)) (backToKw pos (keywordEach [] X.env))):=by rfl) :
    EM X (ms++ns) (.Call (.Attribute o f apos) (e :: es) [] pos) (YT C f g m ma) :=
  PE.imp (pe_meth (E:=E0) h hc hm F hr hb .nil Qew ha hst hpl ht) fun σ H Q ⟨F,γ,r,k1,k2,k3,w⟩=>by
    obtain ⟨q,e1,k3⟩:=Qh k3
    have c:isC C f q=true:=by
      by_cases c:isC C f q=true
      · exact c
      · rw [if_neg c] at k3;cases k3
    rw [if_pos c] at k3
    obtain ⟨xs,e2,k3⟩:=Qh k3
    obtain ⟨ks,qs,rfl,hk⟩:=Qiv c
    refine ⟨F,γ,_,k1,k2.left,e1,fun v H1 F1 g1 q1 => ?_⟩
    have q0:=q1
    unfold Rep at q1
    obtain ⟨a,dx,vs,rfl,h2,h3,h4,h5⟩:=q1
    refine ⟨a,dx,_,rfl,g1.sub _ _ h2,QaS hk,F1,γ,xs,g1.sub,k2.right.mono g1.ext,e2,fun us H2 F2 g2 q2 => ?_⟩
    dsimp only
    rw [List.append_nil]
    exact ⟨by have:=hn _ _ k3;rw [List.length_cons] at this ⊢;rw [q2.length];exact this,F2,_,r,g2.sub,.cons (q0.mono g2.ext) q2,k3,w.go (g1.trans g2)⟩
theorem em_meth0 {pl:Sem Bool} {g:List PV→Option PV} (h:EM X ms o m) (hc:Cls X.K C) (hm:Meth X.K C f fa) (F:FnOk X.prog X.w X.K X.mg X.base CX0 k fa fd ps (spM X.K n g)) (hn:∀ ps r,g ps=some r→ps.length=n) (hr:Room k X.A) (hb:YE X.K fd ps [])
    (ht:eval (.Call (.Attribute o f apos) [] [] pos) X.env=(do
      let ov ← eval o X.env
      standAt apos.atName
      let (f,first) ← holding [ov] (getMethod ov f pl)
      callWith pos f first (backTo pos (starEach [] X.env)) (backToKw pos (keywordEach [] X.env))):=by rfl) :
    EM X ms (.Call (.Attribute o f apos) [] [] pos) (YT C f g m aNil) :=
  PE.imp (QgJ (E:=E0) h hc hm F hr hb .nil Qew ht) fun σ H Q ⟨F,γ,r,k1,k2,k3,w⟩=>by
    obtain ⟨q,e1,k3⟩:=Qh k3
    have c:isC C f q=true:=by
      by_cases c:isC C f q=true
      · exact c
      · rw [if_neg c] at k3;cases k3
    rw [if_pos c] at k3
    have k3:g [q]=some r:=k3
    obtain ⟨ks,qs,rfl,hk⟩:=Qiv c
    refine ⟨F,γ,_,k1,k2,e1,fun v H1 F1 g1 q1 => ?_⟩
    have q0:=q1
    unfold Rep at q1
    obtain ⟨a,dx,vs,rfl,h2,h3,h4,h5⟩:=q1
    refine ⟨a,dx,_,rfl,g1.sub _ _ h2,QaS hk,?_⟩
    exact ⟨by have:=hn _ _ k3;simpa using this,F1,_,r,g1.sub,.cons q0 .nil,k3,w.go g1⟩
end
end L2.PM

noncomputable section
namespace L2.PM
open PySem PySem.Spec PyProof.Rows
structure GrowX (F E H F' E' H':Hp):Prop where
  ext:Same F F'
  sub:Same F' H'
  esub:Same E' H'
  same:∀ b o,H b=some o→E b=none→H' b=some o
  new:∀ b o,F' b=some o→F b=some o∨H b=none∨E b≠none
  enew:∀ b o,E' b=some o→E b≠none∨H b=none
  dj:∀ b o,E' b=some o→F' b=none
section
variable {τ:Type}
noncomputable def spX (K:PySem.W.Frag) (P:Hp→Hp→Addr→τ→Prop) (n:Nat) (g:Addr→List PV→τ→Option τ):Sp:=fun vs H Q _=>vs.length=n∧∃ F E a t us qs t',vs = .ref a :: us∧Same F H∧Same E H∧(∀ b o,E b=some o→F b=none)∧P F E a t∧RepL K F qs us∧g a qs t=some t' ∧
  ∀ H' F' E',GrowX F E H F' E' H'→P F' E' a t'→Q .non H'
noncomputable def outX:OutX τ→Option τ
  | .nx _ t=>some t
  | _=>none
noncomputable def runX (N n:Nat) (m:MX τ) (a:Addr) (qs:List PV) (t:τ):Option τ:=if qs.length + 1=n then (m (Zp N (.opq a :: qs)) t).bind outX else none
noncomputable def minH (H E:Hp):Hp:=fun b=>match E b with
  | none=>H b
  | some _=>none
theorem minH_l {H E:Hp} {b:Addr} {o:HO} (h:minH H E b=some o):H b=some o∧E b=none:=by
  unfold minH at h
  cases q:E b with
  | none=>rw [q] at h;exact ⟨h,rfl⟩
  | some u=>rw [q] at h;cases h
theorem QfN {H E:Hp} {b:Addr} {o:HO} (h:H b=some o) (n:E b=none):minH H E b=some o:=by unfold minH;rw [n];exact h
theorem Xs {H E:Hp} {b:Addr} (h:minH H E b=none):E b≠none∨H b=none:=by
  unfold minH at h
  cases q:E b with
  | none=>rw [q] at h;exact .inr h
  | some u=>exact .inl fun z=>by cases z
variable {P':Program} {w:World} {K:PySem.W.Frag} {mg:Str→Option Value} {base:Heap} {P:Hp→Hp→Addr→τ→Prop}
theorem fnX {x qual:Str} {st:Stmt} {f:Addr} {fd:FuncData} {N ps:List Str} {k n:Nat} {m:MX τ} (Fn:Fun K x qual st f fd) (Sc:FnScope N ps (Qe st)) (hn:ps.length=n)
    (hbody:∀ (cdv:Value) (A:Around) (outer:List Env) (s:Shared) (H:Hp) (E:XK),Room k (A.deeper (envOfC qual (Qe st) s.heap.objs.size f cdv)) →
      XMs (cxOf CX0 P' w K mg base N qual (Qe st) f cdv A outer s H E).nox P 0 (Qm st) m):FnOk P' w K mg base CX0 (k + 1) f fd ps (spX K P n (runX N.length n m)):=by
  refine Fn.ok Sc (fun vs H Q E h=>by rw [h.1,hn]) fun cdv A outer s H vs Q E hr h => ?_
  refine ⟨_,hbody cdv A outer s H E hr,?_⟩
  obtain ⟨hl,F,G,a,t,us,qs,t',rfl,h1,h2,h3,h4,h5,h6,wv⟩:=h
  unfold runX at h6
  have hq:qs.length + 1=n:=by rw [← h5.length];exact hl
  rw [if_pos hq] at h6
  obtain ⟨o,e1,e2⟩:=Qh h6
  have T:SR K H F F (XL N (.ref a :: us)) H (Zp N.length (.opq a :: qs)):=Qco h1 (.cons (by unfold Rep;rfl) h5)
  have hsub:∀ b o,orH (minH H G) G b=some o→H b=some o:=fun b o e=>by
    rcases Xz e with z | ⟨_,z⟩
    · exact (minH_l z).1
    · exact h2 b o z
  refine ⟨minH H G,F,F,G,a,_,t,o,⟨⟨T.sub,hsub,T.f0,fun b o e => .inl e,T.len,T.fz,fun i xs e => ?_,T.dj⟩,?_,h4,fun b o e => ?_,h3⟩,e1,?_⟩
  · obtain ⟨c,vs,k1,k2,k3,k4,k5⟩:=T.ow i xs e
    rw [k5] at k2;cases k2
  · unfold QL Zp
    rfl
  · unfold minH;rw [e]
  · cases o with
    | nx γ t2 =>
      cases e2
      intro σ' H' F' E' S
      refine wv H' F' E' ⟨S.sr.f0,S.sr.sub,fun b o e=>S.sr.base b o (YS (S.db b o e) e),fun b o e n=>S.sr.base b o (Qbs b o (QfN e n)),fun b o e => ?_,fun b o e=>Xs (S.db b o e),S.df⟩ S.own
      rcases S.sr.fb b o e with z | z
      · exact .inl z
      · exact .inr ((Xs (Yt z).1).symm)
    | _=>cases e2
theorem frz1_fz {γ:PEnv} {i j:Nat} {p:PV} (h:γ[j]?=some (.fz p)):(PM.frz1 γ i)[j]?=some (.fz p):=by
  unfold PM.frz1
  split
  · rename_i ys e
    by_cases e':i=j
    · subst e';rw [h] at e;cases e
    · rw [List.getElem?_set_ne e'];exact h
  · exact h
theorem QhW:∀ (ms:List Nat) {γ:PEnv} {j:Nat} {p:PV},γ[j]?=some (.fz p)→(PM.frz ms γ)[j]?=some (.fz p)
  | [],_,_,_,h=>h
  | i :: ms,γ,j,p,h=>QhW ms (γ:=PM.frz1 γ i) (frz1_fz h)
noncomputable def HasM (P:Hp→Hp→Addr→τ→Prop) (C:Addr) (m:Str) (okm:τ→Bool):Prop:=∀ F E a t,okm t=true→P F E a t→∃ dx fs,E a=some (.ins C dx fs)∧fs.lookup m=none
theorem SX.called {K:PySem.W.Frag} {P:Hp→Hp→Addr→τ→Prop} {j:Nat} {B F₀ F' E F2 E2 H' H2:Hp} {a:Addr} {σ:St} {γ:PEnv} {t':τ} (T:SR K (orH B E) F₀ F' σ H' γ) (hat:QL γ j=some a) (hdb:∀ b o,E b=some o→B b=none) (G:GrowX F' E H' F2 E2 H2) (hp:P F2 E2 a t'):SX K P j B F₀ F2 E2 a σ H2 γ t':=by
  have e0:∀ b o,B b=some o→E b=none:=fun b o h=>by
    cases q:E b with
    | none=>rfl
    | some u=>rw [hdb b u q] at h;cases h
  refine ⟨⟨G.sub,fun b o e => ?_,T.f0.trans G.ext,fun b o e => ?_,T.len,fun i p e => ?_,fun i ys e => ?_,T.dj⟩,hat,hp,fun b o e => ?_,G.dj⟩
  · rcases Xz e with z | ⟨z1,z2⟩
    · exact G.same b o (T.base b o (Qbs b o z)) (e0 b o z)
    · exact G.esub b o z2
  · have hE2:E2 b=none:=by
      cases q:E2 b with
      | none=>rfl
      | some u=>rw [G.dj b u q] at e;cases e
    rcases G.new b o e with z | z | z
    · exact (T.fb b o z).imp id fun y=>Qcf (Yt y).1 hE2
    · exact .inr (Qcf (Yt (T.base.free z)).1 hE2)
    · refine .inr (Qcf ?_ hE2)
      cases q:E b with
      | none=>exact absurd q z
      | some u=>exact hdb b u q
  · obtain ⟨v,k1,k2⟩:=T.fz i p e
    exact ⟨v,k1,k2.mono G.ext⟩
  · obtain ⟨c,ts,k1,k2,k3,k4,k5⟩:=T.ow i ys e
    obtain ⟨z1,z2⟩:=Yt k5
    refine ⟨c,ts,k1,G.same c _ k2 z2,k3.mono G.ext,?_,Qcf z1 ?_⟩
    · cases q:F2 c with
      | none=>rfl
      | some u =>
        rcases G.new c u q with y | y | y
        · rw [k4] at y;cases y
        · rw [k2] at y;cases y
        · exact absurd z2 y
    · cases q:E2 c with
      | none=>rfl
      | some u =>
        rcases G.enew c u q with y | y
        · exact absurd z2 y
        · rw [k2] at y;cases y
  · rcases G.enew b o e with z | z
    · cases q:E b with
      | none=>exact absurd q z
      | some u=>exact hdb b u q
    · exact (Yt (T.base.free z)).1
end
end L2.PM

noncomputable section
namespace L2.PM
open PySem PySem.Spec PyProof.Rows
structure OT where
  ks:List Str
  ps:List PV
  mv:Option (List PV)
noncomputable def QcJ (km:Str) (b:Addr):Option (List PV)→List (Str×V)
  | none=>[]
  | some _=>[(km,.ref b)]
noncomputable def Qfu (K:PySem.W.Frag) (F E:Hp) (a dx b:Addr):Option (List PV)→Prop
  | none=>True
  | some xs=>b≠a∧b≠dx∧∃ ws,E b=some (.lst ws)∧RepL K F xs ws
theorem Qfu.mono {K:PySem.W.Frag} {F F' E:Hp} {a dx b:Addr} (e:Same F F'):∀ {mv:Option (List PV)},Qfu K F E a dx b mv→Qfu K F' E a dx b mv
  | none,_=>trivial
  | some _,⟨h1,h2,ws,h3,h4⟩=>⟨h1,h2,ws,h3,h4.mono e⟩
noncomputable def ObjG (K:PySem.W.Frag) (C:Addr) (km:Str) (F E:Hp) (a:Addr) (t:OT):Prop:=∃ dx b vs,E a=some (.ins C dx (t.ks.zip vs++QcJ km b t.mv))∧E dx=some (.own a)∧dx≠a∧t.ks.length=vs.length∧Qfu K F E a dx b t.mv∧RepL K F t.ps vs
theorem Qr (K:PySem.W.Frag) (C:Addr) (km:Str):QaU (ObjG K C km):=fun _ _ _ _ _ e ⟨dx,b,vs,h1,h2,h3,h4,h5,h6⟩=>⟨dx,b,vs,h1,h2,h3,h4,h5.mono e,h6.mono e⟩
noncomputable def XG (C:Addr) (km:Str) (t:OT) (b:Addr):PV:=match t.mv with
  | none => .obj C t.ks t.ps
  | some xs => .obj C (t.ks++[km]) (t.ps++[.lst xs])
theorem QgC {ks:List Str} {vs:List V} {km:Str} {v:V} (h:ks.length=vs.length):(ks++[km]).zip (vs++[v])=ks.zip vs++[(km,v)]:=by
  rw [List.zip_append h];rfl
theorem QdQ {K:PySem.W.Frag} {C:Addr} {km:Str} {F E:Hp} {a:Addr} {t:OT} (hE:∀ b o,E b=some o→F b=none) (h:ObjG K C km F E a t):∃ b,Rep K (orH F E) (XG C km t b) (.ref a):=by
  obtain ⟨dx,b,vs,h1,h2,h3,h4,h5,h6⟩:=h
  refine ⟨b,?_⟩
  unfold XG
  cases q:t.mv with
  | none =>
    rw [q] at h1
    unfold Rep
    exact ⟨a,dx,vs,rfl,by rw [← List.append_nil (t.ks.zip vs)];exact YS (hE _ _ h1) h1,YS (hE _ _ h2) h2,h4,h6.mono Qbs⟩
  | some n =>
    rw [q] at h1 h5
    obtain ⟨_,_,ws,h7,h8⟩:=h5
    unfold Rep
    refine ⟨a,dx,vs++[.ref b],rfl,?_,YS (hE _ _ h2) h2,by simp [h4],(h6.mono Qbs).snoc (by unfold Rep;exact ⟨b,ws,rfl,.of (YS (hE _ _ h7) h7),h8.mono Qbs⟩)⟩
    rw [QgC h4]
    exact YS (hE _ _ h1) h1
section
variable {τ:Type} {X:Cx} {P:Hp→Hp→Addr→τ→Prop} {j:Nat} {st:Stmt} {sts:List Stmt} {e c:Expr} {ms ns:List Nat} {pos p2:Pos}
noncomputable def QeU (K:PySem.W.Frag) (P:Hp→Hp→Addr→τ→Prop) (rd:τ→Addr→PV):Prop:=∀ (F E:Hp) (a:Addr) (t:τ),(∀ b o,E b=some o→F b=none)→P F E a t→∃ b,Rep K (orH F E) (rd t b) (.ref a)
theorem Xq (K:PySem.W.Frag) (C:Addr) (km:Str):QeU K (ObjG K C km) (XG C km):=fun F E a t hE h=>QdQ hE h
noncomputable def allB {α:Type} (f:Addr→Option α):Option α:=open Classical in if h:∃ k,∀ b,f b=some k then some (Classical.choose h) else none
theorem YM {α:Type} {f:Addr→Option α} {k:α} (h:allB f=some k) (b:Addr):f b=some k:=by
  unfold allB at h
  split at h
  · rename_i q
    cases h
    exact Classical.choose_spec q b
  · cases h
theorem XW {α:Type} {f:Addr→Option α} {k:α} (h:∀ b,f b=some k):allB f=some k:=by
  unfold allB
  have q:∃ k,∀ b,f b=some k:=⟨k,h⟩
  rw [dif_pos q]
  have:=Classical.choose_spec q 0
  rw [h 0] at this
  exact this.symm
theorem SX.seeA {K:PySem.W.Frag} {B F₀ F E H:Hp} {a:Addr} {σ:St} {γ:PEnv} {t:τ} (S:SX K P j B F₀ F E a σ H γ t) {rd:τ→Addr→PV} (hr:QeU K P rd) (ms:List Nat):∃ b F1,Same F1 H∧ERep K F1 σ (γ.set j (.fz (rd t b))) ms:=by
  obtain ⟨b,hb⟩:=hr F E a t S.df S.own
  have S':SX K (fun F' E' a' p=>∀ F2,Same F' F2→(∀ b o,E' b=some o→F2 b=none)→Rep K (orH F2 E') p (.ref a')) j B F₀ F E a σ H γ (rd t b):=⟨S.sr,S.at_,fun F2 e hE=>hb.mono fun c o q=>by
    rcases Xz q with z | ⟨_,z⟩
    · exact Qbs c o (e c o z)
    · exact YS (hE c o z) z,S.db,S.df⟩
  obtain ⟨F1,h1,h2⟩:=S'.see (rd:=some) (fun F' E' a' t' p hE' h e=>by cases e;exact h F' (Same.refl _) hE') rfl ms
  exact ⟨b,F1,h1,h2⟩
noncomputable def xIfA (j:Nat) (rd:τ→Addr→PV) (tt:PEnv→Option Bool) (s1 s2:MX τ):MX τ:=fun γ t=>(allB fun b=>tt (γ.set j (.fz (rd t b)))).bind fun k=>if k=true then s1 γ t else s2 γ t
theorem xm_ifA {rd:τ→Addr→PV} (hr:QeU X.K P rd) {tt:PEnv→Option Bool} {xs ys:List Stmt} {s1 s2:MX τ} (hc:TM X ms c tt) (ha:XMs X P j xs s1) (hb:XMs X P j ys s2):XM X P j (.If c xs ys pos) (xIfA j rd tt s1 s2):=PS.imp (ps_if hc ha hb) fun D σ H ⟨B,F₀,F,E,a,γ,t,o,S,e,ok⟩=>by
  obtain ⟨k,e1,e2⟩:=Qh e
  obtain ⟨b,F1,hs,er⟩:=S.seeA hr ms
  refine ⟨F1,γ.set j (.fz (rd t b)),k,hs,er,YM e1 b,fun H' F' g => ?_⟩
  cases k with
  | true=>rw [if_pos rfl] at e2 ⊢;exact ⟨B,F₀,F,E,a,γ,t,o,S.same g.same,e2,ok⟩
  | false=>rw [if_neg Bool.false_ne_true] at e2 ⊢;exact ⟨B,F₀,F,E,a,γ,t,o,S.same g.same,e2,ok⟩
noncomputable def QhK (j i:Nat) (rd:τ→Addr→PV) (m:MEx):MX τ:=fun γ t=>(allB fun b=>m (γ.set j (.fz (rd t b)))).bind fun r=>if flat r=true∧i≠j then some (.nx (γ.set i (.fz r)) t) else none
theorem xm_setA {rd:τ→Addr→PV} (hr:QeU X.K P rd) (mono:QaU P) {m:MEx} {i:Nat} {x:Str} (hN:X.N.Nodup) (hi:X.N[i]?=some x) (hx:Loc X.env.scope x) (h:EM X ms e m) (hs:swapsWith e (some (.Name x p2)) pos.line X.env=pure false:=by rfl) (hf:X.fn x=true∨X.env.scope.names.lookup x=some .local:=by first | exact .inl rfl | exact .inr rfl | assumption) :
    XM X P j (.Assign [.Name x p2] e pos) (QhK j i rd m):=PS.imp (Qdy hN hi hx h hs hf) fun D σ H ⟨B,F₀,F,E,a,γ,t,o,S,e,ok⟩=>by
  obtain ⟨r,e1,e2⟩:=Qh e
  obtain ⟨⟨hf,hij⟩,rfl⟩:=QD e2
  obtain ⟨b,F1,hs,er⟩:=S.seeA hr ms
  refine ⟨F1,γ.set j (.fz (rd t b)),r,hs,er,YM e1 b,fun v H' F' g q => ?_⟩
  have T:=(S.sr.same g.same).setFz i (q.flat (F':=F) hf)
  refine ok _ H' F E ⟨T,?_,S.own,S.db,S.df⟩
  have:=S.at_
  unfold QL at this ⊢
  rw [List.getElem?_set_ne hij]
  exact this
end
end L2.PM

noncomputable section
namespace L2.PM
open PySem PySem.Spec PyProof.Rows
theorem Qfc {F E H:Hp} {c:Addr} {o0 o:HO} (h1:Same F H) (h2:Same E H) (h3:∀ b o,E b=some o→F b=none) (hc:E c=some o0):GrowX F E H F (upd E c o) (upd H c o):=by
  have cF:=h3 c o0 hc
  refine ⟨Same.refl _,fun b u e => ?_,fun b u e => ?_,fun b u e n => ?_,fun b u e => .inl e,fun b u e => ?_,fun b u e => ?_⟩
  · rw [Ql (Qo e cF)];exact h1 b u e
  · by_cases z:b=c
    · subst z;rw [Qp] at e ⊢;exact e
    · rw [Ql z] at e ⊢;exact h2 b u e
  · rw [Ql fun z=>by subst z;rw [hc] at n;cases n];exact e
  · by_cases z:b=c
    · subst z;exact .inl (by rw [hc];exact fun q=>by cases q)
    · rw [Ql z] at e;exact .inl (by rw [e];exact fun q=>by cases q)
  · by_cases z:b=c
    · subst z;exact cF
    · rw [Ql z] at e;exact h3 b u e
theorem QgI {f:Str} {y:V} {tl:List (Str×V)}:∀ {ks:List Str} {vs:List V} {i:Nat},ks.length=vs.length→ks[i]?=some f→f∉ks.take i→putF f y (ks.zip vs++tl)=ks.zip (vs.set i y)++tl
  | [],vs,i,_,h,_=>by simp at h
  | k :: ks,[],i,h,_,_=>by simp at h
  | k :: ks,v :: vs,0,_,h,_=>by
    simp at h
    subst h
    simp [putF]
  | k :: ks,v :: vs,i + 1,hl,h,hn=>by
    rw [List.take_succ_cons,List.mem_cons,not_or] at hn
    have ih:=QgI (f:=f) (y:=y) (tl:=tl) (ks:=ks) (vs:=vs) (i:=i) (by simpa using hl) (by simpa using h) hn.2
    simp only [List.zip_cons_cons,List.set_cons_succ,List.cons_append,putF]
    rw [if_neg (fun z=>hn.1 z.symm),ih]
theorem Qek {f:Str} {y:V}:∀ {ks:List Str} {vs:List V},ks.length=vs.length→f∉ks→putF f y (ks.zip vs)=ks.zip vs++[(f,y)]
  | [],[],_,_=>rfl
  | [],_ :: _,h,_=>by simp at h
  | _ :: _,[],h,_=>by simp at h
  | k :: ks,v :: vs,h,hn=>by
    rw [List.mem_cons,not_or] at hn
    have ih:=Qek (f:=f) (y:=y) (ks:=ks) (vs:=vs) (by simpa using h) hn.2
    simp only [List.zip_cons_cons,List.cons_append,putF]
    rw [if_neg (fun z=>hn.1 z.symm),ih]
section
variable {X:Cx} {j:Nat} {st:Stmt} {sts:List Stmt} {e c:Expr} {ms ns:List Nat} {pos p2:Pos} {C:Addr} {km f:Str}
noncomputable def QcF (ks:List Str) (f:Str):Option Nat:=ks.findIdx? (·==f)
noncomputable def putT (f:Str) (r:PV) (t:OT):Option OT:=if t.ks.length < 900 then match QcF t.ks f with
  | some i=>some ⟨t.ks,t.ps.set i r,t.mv⟩
  | none=>match t.mv with
    | none=>some ⟨t.ks++[f],t.ps++[r],none⟩
    | some _=>none
  else none
noncomputable def QcG (ms:List Nat) (f:Str) (m:MEx):MX OT:=fun γ t=>(m γ).bind fun r=>(putT f r t).map fun t' => .nx (frz ms γ) t'
theorem QfG {ks:List Str} {i:Nat} (h:QcF ks f=some i):ks[i]?=some f∧f∉ks.take i:=by
  unfold QcF at h
  rw [List.findIdx?_eq_some_iff_getElem] at h
  obtain ⟨h1,h2,h3⟩:=h
  refine ⟨by rw [List.getElem?_eq_getElem h1,beq_iff_eq.mp h2],fun z => ?_⟩
  obtain ⟨k,hk,e⟩:=List.mem_iff_getElem.mp z
  rw [List.getElem_take] at e
  rw [List.length_take] at hk
  have:=h3 k (by omega)
  rw [e] at this
  simp at this
theorem QfH {ks:List Str} (h:QcF ks f=none):f∉ks:=by
  unfold QcF at h
  rw [List.findIdx?_eq_none_iff] at h
  intro z
  have:=h f z
  simp at this
theorem put_ok {K:PySem.W.Frag} {F E:Hp} {a dx b:Addr} {t t':OT} {vs:List V} {r:PV} {y:V} (hp:putT f r t=some t') (h1:E a=some (.ins C dx (t.ks.zip vs++QcJ km b t.mv))) (h2:E dx=some (.own a)) (h3:dx≠a) (h4:t.ks.length=vs.length) (h5:Qfu K F E a dx b t.mv) (h6:RepL K F t.ps vs) (hy:Rep K F r y) :
    (t.ks.zip vs++QcJ km b t.mv).length < 1000∧ObjG K C km F (upd E a (.ins C dx (putF f y (t.ks.zip vs++QcJ km b t.mv)))) a t':=by
  unfold putT at hp
  obtain ⟨hl,hp⟩:=Xi hp
  have hz:(t.ks.zip vs++QcJ km b t.mv).length < 1000:=by
    rw [List.length_append,List.length_zip]
    have:(QcJ km b t.mv).length≤1:=by cases t.mv <;> simp [QcJ]
    omega
  refine ⟨hz,?_⟩
  have hdx:upd E a (.ins C dx (putF f y (t.ks.zip vs++QcJ km b t.mv))) dx=some (.own a):=by rw [Ql h3];exact h2
  have hlast:∀ mv,Qfu K F E a dx b mv→Qfu K F (upd E a (.ins C dx (putF f y (t.ks.zip vs++QcJ km b t.mv)))) a dx b mv:=fun mv h=>by
    cases mv with
    | none=>trivial
    | some n =>
      obtain ⟨q1,q2,ws,q3,q4⟩:=h
      exact ⟨q1,q2,ws,by rw [Ql q1];exact q3,q4⟩
  split at hp
  · rename_i i hi
    cases hp
    obtain ⟨k1,k2⟩:=QfG hi
    refine ⟨dx,b,vs.set i y,?_,hdx,h3,by rw [List.length_set];exact h4,hlast _ h5,h6.set i hy⟩
    rw [Qp,QgI h4 k1 k2]
  · rename_i hi
    split at hp
    · rename_i hm
      cases hp
      refine ⟨dx,b,vs++[y],?_,hdx,h3,by simp [h4],trivial,h6.snoc hy⟩
      rw [Qp,hm]
      show some (HO.ins C dx (putF f y (t.ks.zip vs++[])))=some (HO.ins C dx ((t.ks++[f]).zip (vs++[y])++[]))
      rw [List.append_nil,List.append_nil,Qek h4 (QfH hi),QgC h4]
    · cases hp
theorem xm_fset (hc:Cls X.K C) (hn:Xw X.K C f) {m:MEx} (ps:PS X st (sFld X.K (tVar j) (tM X.K ms m) f)):XM X (ObjG X.K C km) j st (QcG ms f m):=PS.imp ps fun D σ H ⟨B,F₀,F,E,a,γ,t,o,S,e,ok⟩=>by
  obtain ⟨r,e1,e⟩:=Qh e
  obtain ⟨t',e2,rfl⟩:=Yh e
  obtain ⟨v,hv,rv⟩:=S.sr.fz j _ (Ym S.at_)
  unfold Rep at rv
  subst rv
  obtain ⟨F1,S1,x1,er⟩:=S.sr.see ms
  refine ⟨F1,γ,r,S1.sub,er,e1,fun y H' F' gr q => ?_⟩
  have T:=S1.grow gr
  have hat:QL (PM.frz ms γ) j=some a:=by
    have:=QhW ms (Ym S.at_)
    unfold QL
    rw [this]
  have SX1:=S.next (Qr X.K C km) T (hat.trans S.at_.symm) (x1.trans gr.ext)
  have hE:Same E H':=fun b o e=>gr.same b o (S.sr.base b o (YS (S.db b o e) e))
  obtain ⟨dx,b,vs,h1,h2,h3,h4,h5,h6⟩:=SX1.own
  obtain ⟨hz,hp⟩:=put_ok e2 h1 h2 h3 h4 h5 h6 q
  refine ⟨.ref a,hv,a,C,dx,_,rfl,hE _ _ h1,hc,hn,hz,?_⟩
  exact ok σ _ F' _ (SX.called T hat S.db (Qfc gr.sub hE SX1.df h1) hp)
end
end L2.PM

noncomputable section
namespace L2.PM
open PySem PySem.Spec PyProof.Rows
section
variable {X:Cx} {j:Nat} {st:Stmt} {sts:List Stmt} {e c:Expr} {ms ns:List Nat} {pos p2:Pos} {C:Addr} {km f:Str}
theorem Qbu {γ:PEnv} {a:Addr} (ms:List Nat) (h:QL γ j=some a):QL (PM.frz ms γ) j=some a:=by
  have:=QhW ms (Ym h)
  unfold QL
  rw [this]
noncomputable def xFnew (ms:List Nat) (km:Str) (mo:PEnv→Option (List PV)):MX OT:=fun γ t=>(mo γ).bind fun r=>if r.isEmpty=true∧t.ks.length < 900∧t.ks.contains km=false∧t.mv=none then some (.nx (frz ms γ) ⟨t.ks,t.ps,some []⟩) else none
theorem xm_fnew (hc:Cls X.K C) (hn:Xw X.K C km) {mo:PEnv→Option (List PV)} (ps:PS X st (sFld X.K (tVar j) (tMO X.K ms mo) km)):XM X (ObjG X.K C km) j st (xFnew ms km mo):=PS.imp ps fun D σ H ⟨B,F₀,F,E,a,γ,t,o,S,e,ok⟩=>by
  obtain ⟨r,e1,e⟩:=Qh e
  obtain ⟨⟨c1,c2,c3,c4⟩,rfl⟩:=QD e
  obtain rfl:r=[]:=by simpa using c1
  obtain ⟨v,hv,rv⟩:=S.sr.fz j _ (Ym S.at_)
  unfold Rep at rv
  subst rv
  obtain ⟨F1,S1,x1,er⟩:=S.sr.see ms
  refine ⟨F1,γ,[],S1.sub,er,e1,fun d us H' F' gr n nF hH q => ?_⟩
  have hu:us=[]:=by unfold RepL at q;exact q
  subst hu
  have hat:=Qbu ms S.at_
  have SX1:=S.next (Qr X.K C km) S1 (hat.trans S.at_.symm) x1
  have hE0:Same E H:=fun b o e=>S.sr.base b o (YS (S.db b o e) e)
  have hE:Same E H':=fun b o e=>gr.same b o (hE0 b o e)
  obtain ⟨dx,b,vs,h1,h2,h3,h4,h5,h6⟩:=SX1.own
  rw [c4] at h1
  have h1:E a=some (.ins C dx (t.ks.zip vs)):=by rw [h1];show some (HO.ins C dx (t.ks.zip vs++[]))=_;rw [List.append_nil]
  refine ⟨.ref a,hv,a,C,dx,_,rfl,hE _ _ h1,hc,hn,by rw [List.length_zip];omega,?_⟩
  rw [Qek h4 (by simpa using c3)]
  have da:d≠a:=fun z=>by subst z;rw [hE0 _ _ h1] at n;cases n
  have ddx:d≠dx:=fun z=>by subst z;rw [hE0 _ _ h2] at n;cases n
  have aF:F' a=none:=by
    cases y:F' a with
    | none=>rfl
    | some u =>
      rcases gr.new a u y with z | z
      · rw [SX1.df _ _ h1] at z;cases z
      · rw [hE0 _ _ h1] at z;cases z
  generalize hN:HO.ins C dx (t.ks.zip vs++[(km,.ref d)])=N
  refine ok σ _ F' (upd (upd E d (.lst [])) a N) (SX.called S1 hat S.db ⟨gr.ext,fun b u e => ?_,fun b u e => ?_,fun b u e z => ?_,fun b u e=>(gr.new b u e).imp id .inl,fun b u e => ?_,fun b u e => ?_⟩ ⟨dx,d,vs,?_,?_,h3,h4,⟨da,ddx,[],?_,.nil⟩,h6.mono gr.ext⟩)
  · rw [Ql (Qo e aF)];exact gr.sub b u e
  · by_cases z1:b=a
    · subst z1;rw [Qp] at e ⊢;exact e
    · rw [Ql z1] at e ⊢
      by_cases z2:b=d
      · subst z2;rw [Qp] at e;cases e;exact hH
      · rw [Ql z2] at e;exact hE b u e
  · rw [Ql fun y=>by subst y;rw [h1] at z;cases z];exact gr.same b u e
  · by_cases z1:b=a
    · subst z1;exact .inl (by rw [h1];exact fun y=>by cases y)
    · rw [Ql z1] at e
      by_cases z2:b=d
      · subst z2;exact .inr n
      · rw [Ql z2] at e;exact .inl (by rw [e];exact fun y=>by cases y)
  · by_cases z1:b=a
    · subst z1;exact aF
    · rw [Ql z1] at e
      by_cases z2:b=d
      · subst z2;exact nF
      · rw [Ql z2] at e
        cases y:F' b with
        | none=>rfl
        | some w =>
          rcases gr.new b w y with z | z
          · rw [SX1.df _ _ e] at z;cases z
          · rw [hE0 _ _ e] at z;cases z
  · rw [Qp,← hN];rfl
  · rw [Ql h3,Ql (Ne.symm ddx)];exact h2
  · rw [Ql da];exact Qp
theorem QcY {ks:List Str} {vs:List V} {v:V} (h:ks.contains km=false):(ks.zip vs++[(km,v)]).lookup km=some v:=by
  induction ks generalizing vs with
  | nil=>simp
  | cons k ks ih =>
    rw [List.contains_cons,Bool.or_eq_false_iff] at h
    cases vs with
    | nil=>simp
    | cons u vs =>
      simp only [List.zip_cons_cons,List.cons_append,List.lookup_cons,h.1]
      exact ih h.2
noncomputable def Qgk (ms:List Nat) (km:Str) (m:MEx):MX OT:=fun γ t=>(m γ).bind fun r=>match t.mv with
  | some xs=>if xs.length < LIM∧t.ks.contains km=false then some (.nx (frz ms γ) ⟨t.ks,t.ps,some (xs++[r])⟩) else none
  | none=>none
theorem xm_fapp (hc:Cls X.K C) (hn:Xw X.K C km) {m:MEx} (ps:PS X st (Qjs (tBM X.K "list" Qed (tFld X.K (tVar j) km) (tMA X.K ms (Qc m aNil))))):XM X (ObjG X.K C km) j st (Qgk ms km m):=PS.imp ps fun D σ H ⟨B,F₀,F,E,a,γ,t,o,S,e,ok⟩=>by
  obtain ⟨r,e1,e⟩:=Qh e
  split at e
  · rename_i n hm
    obtain ⟨⟨c1,c2⟩,rfl⟩:=QD e
    obtain ⟨v,hv,rv⟩:=S.sr.fz j _ (Ym S.at_)
    unfold Rep at rv
    subst rv
    have hE0:Same E H:=fun b o e=>S.sr.base b o (YS (S.db b o e) e)
    obtain ⟨dx0,b0,vs0,h1,h2,h3,h4,h5,h6⟩:=S.own
    rw [hm] at h1 h5
    obtain ⟨q1,q2,ws,q3,q4⟩:=h5
    obtain ⟨F1,S1,x1,er⟩:=S.sr.see ms
    refine ⟨.ref a,hv,a,C,dx0,_,.ref b0,rfl,hE0 _ _ h1,hc,hn,QcY c2,QgE (.of (hE0 _ _ q3)),F1,γ,[r],S1.sub,er,by simp [Qc,aNil,e1],fun us H' F' gr q => ?_⟩
    unfold RepL at q
    obtain ⟨y,z,rfl,qy,qz⟩:=q
    unfold RepL at qz
    subst qz
    have T:=S1.grow gr
    have hat:=Qbu ms S.at_
    have SX1:=S.next (Qr X.K C km) T (hat.trans S.at_.symm) (x1.trans gr.ext)
    have hE:Same E H':=fun b o e=>gr.same b o (hE0 b o e)
    refine ⟨b0,ws,y,rfl,rfl,hE _ _ q3,by rw [q4.length];exact Nat.lt_of_lt_of_le c1 Yu,?_⟩
    refine ok σ _ F' _ (SX.called T hat S.db (Qfc gr.sub hE SX1.df q3) ⟨dx0,b0,vs0,?_,?_,h3,h4,⟨q1,q2,_,Qp,(q4.mono (x1.trans gr.ext)).snoc qy⟩,h6.mono (x1.trans gr.ext)⟩)
    · rw [Ql (Ne.symm q1)];exact h1
    · rw [Ql (Ne.symm q2)];exact h2
  · cases e
end
end L2.PM

noncomputable section
namespace L2.PM
open PySem PySem.Spec PyProof.Rows
section
variable {X:Cx} {j n:Nat} {st:Stmt} {sts:List Stmt} {e c:Expr} {ms ns:List Nat} {pos p2:Pos} {C:Addr} {km f:Str}
noncomputable def QhM (j:Nat) (ms:List Nat) (ma:PEnv→Option (List PV)) (g:Addr→List PV→OT→Option OT) (mx:MX OT):MSt:=fun γ=>(ma γ).bind fun qs=>(allB fun a=>g a qs ⟨[],[],none⟩).bind fun t=>(allB fun a=>mx ((frz ms γ).set j (.fz (.opq a))) t).bind fun o=>match o with
  | .rt r=>if j < γ.length then some (.rt r) else none
  | _=>none
theorem Qgy (γ:PEnv) (i:Nat):(PM.frz1 γ i).length=γ.length:=by
  unfold PM.frz1
  split
  · rw [List.length_set]
  · rfl
theorem QdU:∀ (ms:List Nat) (γ:PEnv),(PM.frz ms γ).length=γ.length
  | [],_=>rfl
  | i :: ms,γ=>by
    show (PM.frz ms (PM.frz1 γ i)).length=_
    rw [QdU ms,Qgy]
theorem ss_make {ma:PEnv→Option (List PV)} {g:Addr→List PV→OT→Option OT} {mx:MX OT} {E0':XK} (hn:∀ a qs t t',g a qs t=some t'→qs.length + 1=n)
    (ps:PS X st (tAsg (tMake C (spX X.K (ObjG X.K C km) n g) [] E0' (tMA X.K ms ma)) (QcK j))) (hr:XMs X (ObjG X.K C km) j sts mx):SMs X (st :: sts) (QhM j ms ma g mx):=PSs.imp (QaV ps hr) fun D σ H ⟨B,F₀,F,γ,o,S,e,ok⟩=>by
  obtain ⟨qs,e1,e⟩:=Qh e
  obtain ⟨t,e2,e⟩:=Qh e
  obtain ⟨ob,e3,e⟩:=Qh e
  cases ob with
  | rt r =>
    obtain ⟨hj,rfl⟩:=QD e
    obtain ⟨F1,S1,x1,er⟩:=S.see ms
    refine ⟨F1,γ,qs,S1.sub,er,e1,fun us H' F' gr q x dx nx ndx hdx => ?_⟩
    rw [List.append_nil]
    have hj':j < (PM.frz ms γ).length:=by rw [QdU];exact hj
    have T0:=S1.grow gr
    generalize hHn:upd (upd H' dx (.own x)) x (.ins C dx [])=Hn
    generalize hEn:upd (upd (fun _=>none) dx (.own x)) x (HO.ins C dx [])=En
    have sH:Same H' Hn:=fun b u e=>by
      rw [← hHn,Ql (Qo e nx),Ql (Qo e ndx)];exact e
    have Ex:En x=some (.ins C dx []):=by rw [← hEn];exact Qp
    have Ed:En dx=some (.own x):=by rw [← hEn,Ql hdx];exact Qp
    have Eg:∀ b u,En b=some u→b=x∨b=dx:=fun b u e=>by
      by_cases z1:b=x
      · exact .inl z1
      by_cases z2:b=dx
      · exact .inr z2
      rw [← hEn,Ql z1,Ql z2] at e
      cases e
    have sE:Same En Hn:=fun b u e=>by
      rcases Eg b u e with rfl | rfl
      · rw [Ex] at e;cases e;rw [← hHn];exact Qp
      · rw [Ed] at e;cases e;rw [← hHn,Ql hdx];exact Qp
    have nE:∀ b u,H' b=some u→En b=none:=fun b u e=>by
      cases y:En b with
      | none=>rfl
      | some w =>
        rcases Eg b w y with rfl | rfl
        · rw [nx] at e;cases e
        · rw [ndx] at e;cases e
    have Edis:∀ b u,En b=some u→F' b=none:=fun b u e=>by
      cases y:F' b with
      | none=>rfl
      | some w=>rw [nE b w (gr.sub b w y)] at e;cases e
    have hnl:=hn _ _ _ _ (YM e2 x)
    refine ⟨by rw [List.length_cons,q.length];exact hnl,F',En,x,⟨[],[],none⟩,us,qs,t,rfl,gr.sub.trans sH,sE,Edis,⟨dx,x,[],Ex,Ed,hdx,rfl,trivial,.nil⟩,q,YM e2 x,fun H2 F2 E2 G hp=>⟨rfl,?_⟩⟩
    have T1:=(T0.same sH).setFz j (p := .opq x) (v := .ref x) (by unfold Rep;rfl)
    have db:∀ b u,En b=some u→B b=none:=fun b u e=>by
      cases y:B b with
      | none=>rfl
      | some w=>rw [nE b w (T0.base b w y)] at e;cases e
    have T2:SR X.K (orH B En) F₀ F' (σ.set j (some (.ref x))) Hn ((PM.frz ms γ).set j (.fz (.opq x))):=by
      refine ⟨T1.sub,fun b u e => ?_,T1.f0,fun b u e => ?_,T1.len,T1.fz,fun i ys e => ?_,T1.dj⟩
      · rcases Xz e with z | ⟨_,z⟩
        · exact T1.base b u z
        · exact sE b u z
      · exact (T1.fb b u e).imp id fun z=>Qcf z (nE b u (gr.sub b u e))
      · obtain ⟨d,ts,k1,k2,k3,k4,k5⟩:=T1.ow i ys e
        refine ⟨d,ts,k1,k2,k3,k4,Qcf k5 ?_⟩
        have hij:j≠i:=fun z=>by
          subst z
          rw [List.getElem?_set_self hj'] at e;cases e
        rw [List.getElem?_set_ne hij] at e
        obtain ⟨d2,ts2,l1,l2,_⟩:=T0.ow i ys e
        rw [List.getElem?_set_ne hij] at k1
        rw [l1] at k1
        cases k1
        exact nE _ _ l2
    have hat:QL ((PM.frz ms γ).set j (.fz (.opq x))) j=some x:=by
      unfold QL
      rw [List.getElem?_set_self hj']
    exact ⟨B,F₀,F2,E2,x,_,t,.rt r,SX.called T2 hat db G hp,YM e3 x,ok⟩
  | _=>cases e
noncomputable def okM (km m:Str) (t:OT):Bool := !t.ks.contains m && !(m==km)
theorem QgR {K:PySem.W.Frag} {m:Str}:HasM (ObjG K C km) C m (okM km m):=fun F E a t hok ⟨dx,b,vs,h1,h2,h3,h4,h5,h6⟩=>by
  unfold okM at hok
  rw [Bool.and_eq_true,Bool.not_eq_true',Bool.not_eq_true'] at hok
  refine ⟨dx,_,h1,?_⟩
  have key:∀ (ks:List Str) (vs:List V) (tl:List (Str×V)),ks.contains m=false→tl.lookup m=none→(ks.zip vs++tl).lookup m=none:=by
    intro ks
    induction ks with
    | nil=>intro vs tl _ h;simpa using h
    | cons k ks ih =>
      intro vs tl hc h
      rw [List.contains_cons,Bool.or_eq_false_iff] at hc
      cases vs with
      | nil=>simpa using h
      | cons v vs =>
        simp only [List.zip_cons_cons,List.cons_append,List.lookup_cons,hc.1]
        exact ih vs tl hc.2 h
  refine key _ _ _ hok.1 ?_
  cases t.mv with
  | none=>rfl
  | some n=>simp only [QcJ,List.lookup_cons,hok.2,List.lookup_nil]
end
end L2.PM

noncomputable section
namespace L2.PM
open PySem PySem.Spec PyProof.Rows
section
variable {τ:Type} {X:Cx} {K:PySem.W.Frag} {P:Hp→Hp→Addr→τ→Prop} {j:Nat} {ms:List Nat} {pos:Pos}
theorem SX.up {B F₀ F F1 E H:Hp} {a:Addr} {σ:St} {γ:PEnv} {t:τ} (S:SX K P j B F₀ F E a σ H γ t) (e1:Same F₀ F1) (e:Same F1 F):SX K P j B F1 F E a σ H γ t:=⟨S.sr.up e1 e,S.at_,S.own,S.db,S.df⟩
theorem SX.down {B F₀ F F1 E H:Hp} {a:Addr} {σ:St} {γ:PEnv} {t:τ} (S:SX K P j B F1 F E a σ H γ t) (e1:Same F₀ F1) (fb1:∀ b o,F1 b=some o→F₀ b=some o∨(B b=none∧E b=none)):SX K P j B F₀ F E a σ H γ t :=
  ⟨S.sr.down e1 fun b o e=>(fb1 b o e).imp id fun z=>Qcf z.1 z.2,S.at_,S.own,S.db,S.df⟩
noncomputable def xFor (j:Nat) (ms:List Nat) (mi:PEnv→Option (List PV)) (g:PV→PEnv→Option PEnv) (b:MX τ):MX τ:=fun γ t=>(mi γ).bind fun xs=>forX j g b xs (frz ms γ) t
theorem QhE (mono:QaU P) {g:PV→PEnv→Option PEnv} {ts:List Nat} {sb:MX τ} {D:Ends} {B F₀ F' E H':Hp} {a:Addr} {J:It} {xs:List PV} {γ1:PEnv} {t:τ} {σ:St} {o:OutX τ} (S1:SX K P j B F₀ F' E a σ H' γ1 t) (it:ItRep K J F' xs) (e2:forX j g sb xs γ1 t=some o) (ok:Qif K P j B F₀ a D o) :
    ∃ W:Nat→Nat→St→Hp→Prop,(∃ m,W 0 m σ H')∧∀ i m σ H,W i m σ H →
      (J.stop i H∧D.nx σ H)∨(J.go i H∧∃ N:St→Hp→Prop,(∀ σ' H',N σ' H'→∃ m',m' < m∧W (i + 1) m' σ' H')∧∀ x H',J.yld i H x H'→tMG K ts g x σ H' fun σ2 H2=>tMX K P j sb { D with nx:=N,ct:=N,bk:=D.nx } σ2 H2):=by
  have fbB:∀ b o,F' b=some o→F₀ b=some o∨B b=none:=fun b o e=>(S1.sr.fb b o e).imp id fun z=>(Yt z).1
  have dn:∀ {F E H:Hp} {σ:St} {γ:PEnv} {t:τ},SX K P j B F' F E a σ H γ t→SX K P j B F₀ F E a σ H γ t:=fun {F E H σ γ t} S=>by
    refine S.down S1.sr.f0 fun b o e => ?_
    rcases fbB b o e with z | z
    · exact .inl z
    · refine .inr ⟨z,?_⟩
      cases q:E b with
      | none=>rfl
      | some u =>
        have:=S.sr.f0 b o e
        rw [S.df b u q] at this;cases this
  refine ⟨fun i m σ H=>m=xs.length - i∧i≤xs.length∧∃ F E γ t,SX K P j B F' F E a σ H γ t∧forX j g sb (xs.drop i) γ t=some o,⟨xs.length,by simp,Nat.zero_le _,F',E,γ1,t,S1.up S1.sr.f0 (Same.refl _),by simpa using e2⟩,?_⟩
  rintro i m σ2 H2 ⟨rfl,hi,F2,E2,γ2,t2,S2,e2⟩
  have x2:=S2.sr.f0
  by_cases hlt:i < xs.length
  · refine .inr ⟨it.go i H2 hlt (x2.trans S2.sr.sub),fun σ H=>∃ F E γ t,SX K P j B F' F E a σ H γ t∧forX j g sb (xs.drop (i + 1)) γ t=some o,fun σ' H' q=>⟨xs.length - (i + 1),by omega,rfl,hlt,q⟩,fun x H3 y => ?_⟩
    obtain ⟨p,e3,hy⟩:=it.yld i H2 x H3 hlt (x2.trans S2.sr.sub) y
    obtain ⟨F3,g3,r3⟩:=hy F2 x2 S2.sr.sub
    have S3:=S2.sr.grow g3
    have ed:xs.drop i=p :: xs.drop (i + 1):=by
      have q:=(List.getElem?_eq_some_iff.mp e3)
      obtain ⟨q1,q2⟩:=q
      rw [← q2]
      exact List.drop_eq_getElem_cons q1
    rw [ed] at e2
    unfold forX at e2
    obtain ⟨γ4,e4,e2⟩:=Qh e2
    obtain ⟨c,e2⟩:=Xi e2
    obtain ⟨ob,e5,e2⟩:=Qh e2
    refine ⟨orH B E2,F',F3,γ2,p,γ4,S3,r3,e4,fun σ4 S4 _ _ => ?_⟩
    have S5:=S2.next mono S4 c g3.ext
    refine ⟨B,F',F3,E2,a,γ4,t2,ob,S5,e5,?_⟩
    cases ob with
    | nx γ5 t5=>exact fun σ H F E S=>⟨F,E,γ5,t5,S,e2⟩
    | ct γ5 t5=>exact fun σ H F E S=>⟨F,E,γ5,t5,S,e2⟩
    | bk γ5 t5 =>
      cases e2
      exact fun σ H F E S=>ok σ H F E (dn S)
    | rt p =>
      cases e2
      exact fun v H F gr r=>ok v H F (gr.down S1.sr.f0 fbB) r
    | ro ys =>
      cases e2
      exact fun c vs H F gr n nF hH r=>ok c vs H F (gr.down S1.sr.f0 fbB) n nF hH r
  · have e:i=xs.length:=by omega
    subst e
    rw [List.drop_length] at e2
    cases e2
    exact .inl ⟨it.stop H2 (x2.trans S2.sr.sub),ok σ2 H2 F2 E2 (dn S2)⟩
theorem xm_for (mono:QaU P) {tg iter:Expr} {ts:List Nat} {mi:PEnv→Option (List PV)} {g:PV→PEnv→Option PEnv} {sb:MX τ} {body:List Stmt} (hp:PassesOwn (model X.prog X.w) X.A X.env X.xe) (hc:X.calm=true) (hi:IM X ms tg iter mi) (hg:GM X ts tg g) (hb:XMs X P j body sb)
    (hs:∀ x,foldedSetIterable iter X.env x=pure x:=by intro _;rfl):XM X P j (.For tg iter body [] pos) (xFor j ms mi g sb):=PS.imp (QhU hp hc hi hg hb hs) fun D σ H ⟨B,F₀,F,E,a,γ,t,o,S,e,ok⟩=>by
  obtain ⟨xs,e1,e2⟩:=Qh e
  obtain ⟨F1,S1,x1,er⟩:=S.sr.see ms
  refine ⟨F1,γ,xs,S1.sub,er,e1,fun J H' F' gr it => ?_⟩
  exact QhE mono (S.next mono (S1.grow gr) ((Qbu ms S.at_).trans S.at_.symm) (x1.trans gr.ext)) it e2 ok
end
end L2.PM

noncomputable section
namespace L2.PM
open PySem PySem.Spec PyProof.Rows
noncomputable def YV (P:Program) (w:World) (K:PySem.W.Frag) (mg:Str→Option Value) (base:Heap) (k:Nat) (C:Addr) (m:Str) (n:Nat) (g:List PV→Option PV):Prop :=
  ∃ f fd ps,FnOk P w K mg base CX0 k f fd ps (spM K n g)∧Cls K C∧Meth K C m f∧YE K fd ps []
noncomputable def QjA (P:Program) (w:World) (K:PySem.W.Frag) (mg:Str→Option Value) (base:Heap) (k:Nat) (C:Addr) (km x:Str) (n:Nat) (g:Addr→List PV→OT→Option OT):Prop :=
  ∃ f fd ps,FnOk P w K mg base CX0 k f fd ps (spX K (ObjG K C km) n g)∧Mk K C f∧mg x=some (.ref C)∧YE K fd ps []
noncomputable def CFld (K:PySem.W.Frag) (C:Addr) (f:Str):Prop:=Cls K C∧Xw K C f
theorem runX_len {τ:Type} {N n:Nat} {m:MX τ}:∀ a qs t t',runX N n m a qs t=some t'→qs.length + 1=n:=fun a qs t t' h=>by
  unfold runX at h
  by_cases c:qs.length + 1=n
  · exact c
  · rw [if_neg c] at h;cases h
noncomputable def Qcc:List PV→Option PV:=fun qs=>open Classical in if ∃ ns:List Int,ns.length≤63∧qs=[.lst (ns.map .int)] then some (.bl true) else none
theorem trueOn_ok (ns:List Int) (h:ns.length≤63):Qcc [.lst (ns.map .int)]=some (.bl true):=if_pos ⟨ns,h,rfl⟩
theorem Qhq {g:List PV→Option PV} (h:∀ ns:List Int,ns.length≤63→g [.lst (ns.map .int)]=some (.bl true)) {qs:List PV} {r:PV} (e:Qcc qs=some r):g qs=some r:=by
  unfold Qcc at e
  split at e
  · rename_i q
    obtain ⟨ns,hn,rfl⟩:=q
    cases e
    exact h ns hn
  · cases e
section
variable {X:Cx} {o e:Expr} {es:List Expr} {sts:List Stmt} {ms ns:List Nat} {m mo:MEx} {ma:PEnv→Option (List PV)} {C:Addr} {f mm km x y:Str} {p p1 p2 p3 pos apos cpos:Pos} {k n j:Nat}
theorem em_mtd {pl:Sem Bool} {g:List PV→Option PV} (h:EM X ms o mo) (c:YV X.prog X.w X.K X.mg X.base k C mm n g) (hn:∀ ps r,g ps=some r→ps.length=n) (hr:Room k X.A)
    (ha:AM X ns (e :: es) ma) (hst:starEach (e :: es) X.env=(false,eval e X.env) :: starEach es X.env:=by rfl) (hpl:(backTo pos (starEach es X.env)).any (·.1)=false:=by rfl)
    (ht:eval (.Call (.Attribute o mm apos) (e :: es) [] pos) X.env=(do
      let ov ← eval o X.env
      standAt apos.atName
      let (f,first) ← holding [ov] (getMethod ov mm pl)
      callWith pos f first (backTo pos (starEach (e :: es) X.env)) (backToKw pos (keywordEach [] X.env))):=by rfl) :
    EM X (ms++ns) (.Call (.Attribute o mm apos) (e :: es) [] pos) (YT C mm g mo ma):=by
  obtain ⟨f,fd,ps,F,hc,hm,hb⟩:=c
  exact em_meth h hc hm F hn hr hb ha hst hpl ht
theorem YG {pl:Sem Bool} {g:List PV→Option PV} (h:EM X ms o mo) (c:YV X.prog X.w X.K X.mg X.base k C mm n g) (hn:∀ ps r,g ps=some r→ps.length=n) (hr:Room k X.A)
    (ht:eval (.Call (.Attribute o mm apos) [] [] pos) X.env=(do
      let ov ← eval o X.env
      standAt apos.atName
      let (f,first) ← holding [ov] (getMethod ov mm pl)
      callWith pos f first (backTo pos (starEach [] X.env)) (backToKw pos (keywordEach [] X.env))):=by rfl) :
    EM X ms (.Call (.Attribute o mm apos) [] [] pos) (YT C mm g mo aNil):=by
  obtain ⟨f,fd,ps,F,hc,hm,hb⟩:=c
  exact em_meth0 h hc hm F hn hr hb ht
theorem QcM (h:EM X ms o mo) (c:CFld X.K C f) (hb:attributeBase o f X.env (eval o X.env)=eval o X.env:=by rfl):EM X ms (.Attribute o f pos) (mFld C f mo):=em_fld h c.1 c.2 hb
theorem ss_mk {g:Addr→List PV→OT→Option OT} {mx:MX OT} (hN:X.N.Nodup) (hi:X.N[j]?=some y) (hx:Loc X.env.scope y) (c:QjA X.prog X.w X.K X.mg X.base k C km x n g) (hn:∀ a qs t t',g a qs t=some t'→qs.length + 1=n) (hr:Room (k + 1) X.A) (hg:Gl X x)
    (ha:AM X ms (e :: es) ma) (hb:XMs X (ObjG X.K C km) j sts mx) (hdb:(x==("__debug__":Str))=false:=by decide) (he:starEach (e :: es) X.env=(false,eval e X.env) :: starEach es X.env:=by rfl) (hpl:(backTo cpos (starEach es X.env)).any (·.1)=false:=by rfl)
    (hs:swapsWith (.Call (.Name x p) (e :: es) [] cpos) (some (.Name y p2)) pos.line X.env=pure false:=by rfl) (hf:X.fn y=true∨X.env.scope.names.lookup y=some .local:=by first | exact .inl rfl | exact .inr rfl | assumption) :
    SMs X (.Assign [.Name y p2] (.Call (.Name x p) (e :: es) [] cpos) pos :: sts) (QhM j ms ma g mx):=by
  obtain ⟨f,fd,ps,F,M,hm,hbd⟩:=c
  exact ss_make hn (Qdy hN hi hx (Qin (E:=E0) M F hr hg hm hbd .nil Qew ha hdb he hpl) hs hf) hb
theorem Qgj (hx:PE X (.Name x p3) (tVar j)) (c:CFld X.K C f) (h:EM X ms e m) (hs:swapsWith e (some (.Attribute (.Name x p3) f p2)) pos.line X.env=pure false:=by rfl):XM X (ObjG X.K C km) j (.Assign [.Attribute (.Name x p3) f p2] e pos) (QcG ms f m) :=
  xm_fset c.1 c.2 (ps_fld hx h hs)
theorem xm_fn {mo:PEnv→Option (List PV)} (hx:PE X (.Name x p3) (tVar j)) (c:CFld X.K C km) (h:EO X ms e mo) (hs:swapsWith e (some (.Attribute (.Name x p3) km p2)) pos.line X.env=pure false:=by rfl):XM X (ObjG X.K C km) j (.Assign [.Attribute (.Name x p3) km p2] e pos) (xFnew ms km mo) :=
  xm_fnew c.1 c.2 (ps_fld hx h hs)
theorem xm_fa (hx:PE X (.Name x p3) (tVar j)) (c:CFld X.K C km) (ps:PS X (.Expr (.Call (.Attribute (.Attribute (.Name x p3) km p2) "append" apos) [e] [] cpos) pos) (Qjs (tBM X.K "list" Qed (tFld X.K (tVar j) km) (tMA X.K ms (Qc m aNil))))):XM X (ObjG X.K C km) j (.Expr (.Call (.Attribute (.Attribute (.Name x p3) km p2) "append" apos) [e] [] cpos) pos) (Qgk ms km m) :=
  xm_fapp c.1 c.2 ps
end
end L2.PM

namespace L2
open PySem PySem.Spec PySem.Calls PyProof.Rows PySem.W PySem.Builtin PySem.Builtin.ObjectAttr PySem.Builtin.Getset_descriptor
structure XCl (K:PySem.W.Frag) (D:Addr):Prop where
  ga:findIn K (.ref D) "__getattribute__"=some (some (.builtin "BaseException.__getattribute__"))
  gn:findIn K (.ref D) "__getattr__"=some none
  be:mroIn K D (.type "BaseException")=some true
  ob:mroIn K D (.type "object")=some true
  cl:findIn K (.ref D) "__class__"=some (some (.builtin "object.__class__"))
  gg:specialIn K (.builtin "object.__class__") "__get__"=some (some (.builtin "getset_descriptor.__get__"))
  tk:takesIn K (.builtin "object.__class__")=some true
noncomputable def OfC (x D:Addr) (h:Heap):Prop:=∃ ox,h.get? x=some ox∧ox.cls = .ref D
section
variable {prog:Program} {w:World} {M:Model} {A:Around} {E:Value→Shared→Prop} {s:Shared} {K:PySem.W.Frag} {x D:Addr}
theorem OfC.type {h:Heap} (I:OfC x D h):Looks M h (typeOf (.ref x)) (.ref D):=by
  obtain ⟨ox,h1,h2⟩:=I
  exact h2 ▸ (Looks.ld h1).andThen .now
theorem xc_check {nv:Value} {Q:Unit→Shared→Prop} (X:K.In s.heap) (I:OfC x D s.heap) (C:XCl K D) (hq:Q () s):wpAny M A (checkBuiltinCall "BaseException.__getattribute__" ⟨[.ref x,nv],[]⟩) Q E s:=by
  have kd:builtinKind "BaseException.__getattribute__"=some .slot:=by decide +kernel
  have sp:splitId "BaseException.__getattribute__"=some ("BaseException","__getattribute__"):=by decide +kernel
  have ok:=F.args_bexc_ga (.ref x) nv
  have L:Looks M s.heap (isInstance (.ref x) (.type "BaseException")) true:=(OfC.type (M:=M) I).andThen (looks_mroIn X C.be)
  obtain ⟨h,g,d,t,os⟩:=s
  simp only [checkBuiltinCall,kd,sp]
  refine wpAny_bind (Looks.at L ?_)
  repeat (any_goals (first | assumption | wp_step))
theorem xc_find {h:Heap} (X:K.In h) (C:XCl K D):Looks M h (Builtin.ObjectAttr.find (.ref x) (.ref D) "__class__") (.bind (.builtin "getset_descriptor.__get__") (.builtin "object.__class__")) :=
  (looks_findIn X C.cl).andThen ((show Looks M h (Builtin.ObjectAttr.getOf (some (.builtin "object.__class__"))) _ from looks_specialIn X C.gg).andThen ((show Looks M h (Builtin.ObjectAttr.dataDescriptor? (some (.builtin "object.__class__")) (some (.builtin "getset_descriptor.__get__"))) (some (_,_)) from (looks_takesIn X C.tk).andThen .now).andThen (Looks.tag .now)))
theorem QhS {c:Addr} {b:Value} {r:Bool} (h:mroIn K c b=some r):(clsIn K c).isSome=true:=by
  unfold mroIn at h
  obtain ⟨cd,hc,_⟩:=Option.bind_eq_some_iff.mp h
  rw [hc];rfl
theorem xc_get {R:Result→Shared→Prop} (X:K.In s.heap) (I:OfC x D s.heap) (C:XCl K D) (hq:R (.ok (.ret (.ref D))) s):codeAny (model prog w) A (.call (.builtin "getset_descriptor.__get__") ⟨[.builtin "object.__class__",.ref x,.ref D],[]⟩) R s:=by
  have L0:=OfC.type (M:=model prog w) I
  have L1:=looks_mroIn (M:=model prog w) X C.ob
  obtain ⟨h,g,d,t,os⟩:=s
  exact codeAny_call_builtin KF.slot_gs.plain KF.entry_gs (KF.slot_gs.check _ _ _ _ _ _ _ _ KF.type_class (KF.args_gs _ _ _) (by
    unfold Builtin.«getset_descriptor.__get__» descrGet;rw [dga_obj]
    refine wpAny_bind (wpAny_pure ?_);unfold descrGetter descrCheckInstance descrNameAndClass isInstance
    simp only [KF.owner_class];repeat lk
    exact ⟨Code.quiet_builtin _ (by decide +kernel),codeAny_builtin KF.entry_class (by unfold Builtin.«object.__class__» shownTypeOf;(repeat lk);exact hq)⟩))
theorem xc_class {Q:Option Value→Shared→Prop} (X:K.In s.heap) (I:OfC x D s.heap) (C:XCl K D) (hq:Q (some (.ref D)) { s with toks:=s.toks + 1 }):wpAny (model prog w) A (getAttr? (.ref x) "__class__") Q E s:=by
  have L0:=OfC.type (M:=model prog w) I
  have L1:=looks_findIn (M:=model prog w) X C.ga
  have L2:=looks_findIn (M:=model prog w) X C.gn
  have L3:=xc_find (M:=model prog w) (x:=x) X C
  obtain ⟨h,g,d,t,os⟩:=s
  have f3:=F.attr_ValueError.ga.bind (.ref x)
  have hx0:(false&&onTheHeap (Value.builtin "BaseException.__getattribute__"))=false:=rfl
  have hx2:(Value.builtin "BaseException.__getattribute__"==Value.builtin "object.__getattribute__")=false:=by decide +kernel
  have hx1:(onTheHeap (Value.ref D)&&Value.builtin "BaseException.__getattribute__"==Value.builtin "object.__getattribute__")=false:=by rw [hx2];rfl
  unfold getAttr? getAttrBy?
  refine wpAny_bind (wpAny_mkText (wpAny_bind (wpAny_attempt ?_)))
  unfold getAttrBy
  refine wpAny_holding (wpAny_bind (Looks.at L0 (wpAny_bind (Looks.at L1 ?_))))
  dsimp only
  rw [if_neg (by rw [hx1];decide)]
  repeat (any_goals (first | assumption | with_reducible refine Looks.at L2 ?_ | with_reducible refine Looks.at L0 ?_ | wp_step))
  refine codeAny_call_builtin F.attr_ValueError.ga.plain F.entry_bexc_ga (xc_check X I C ?_)
  show wpAny _ _ (Builtin.«object.__getattribute__» ⟨[.ref x,.str "__class__" t],[]⟩) _ _ _
  unfold Builtin.«object.__getattribute__»
  repeat (any_goals (first | assumption | with_reducible refine Looks.at L3 ?_ | with_reducible refine Looks.at L0 ?_ | wp_step))
  refine xc_get X I C ?_
  repeat (any_goals (first | assumption | wp_step))
theorem QgN (C:XCl K D):KitX K (.ref x) (.ref D) (OfC x D) where
  ty:=fun _ _ _ I=>I.type
  it:=fun _ _ X _=>by
    obtain ⟨cd,hc⟩:=Option.isSome_iff_exists.mp (QhS C.be)
    unfold clsIn at hc
    split at hc
    · rename_i e0
      exact fun A' Q' E' s' k q=>by
        unfold isType loadHead
        exact wpAny_bind (wpAny_loadPart (k _ _ (X _ _ e0)) (wpAny_pure q))
    · cases hc
  ne:=fun h tp dd its n sl X htp=>by
    obtain ⟨cd,hc⟩:=Option.isSome_iff_exists.mp (QhS C.be)
    refine Bool.eq_false_iff.mpr fun q => ?_
    cases (Value.ref.inj (beq_iff_eq.mp q))
    unfold clsIn at hc
    split at hc
    · rename_i e0
      cases (X _ _ e0).symm.trans htp
    · cases hc
  ca:=fun X I k=>xc_class X I C k
theorem Qjf {C:Addr} {b:Bool} {Q:Bool→Shared→Prop} (X:K.In s.heap) (I:OfC x C s.heap) (hD:XCl K D) (hty:typeIn K (.ref D)=some (.type "type")) (hs:mroIn K C (.ref D)=some b) (hq:Q b s):wpAny M A (excMatches (.ref x) (.ref D)) Q E s:=by
  have L0:=OfC.type (M:=M) I
  have L1:=looks_typeIn (M:=M) X hty
  have L2:=looks_mroIn (M:=M) X hs
  have L3:=looks_mroIn (M:=M) X hD.be
  have L4:=(QgN (x:=x) (K:=K) hD).it M s.heap X
  have f:=tc_notTuple
  obtain ⟨cd,hc⟩:=Option.isSome_iff_exists.mp (QhS hD.be)
  unfold clsIn at hc
  split at hc
  · rename_i e0
    have e1:=X _ _ e0
    obtain ⟨h,g,d,t,os⟩:=s
    unfold excMatches isInstance
    repeat (first | with_reducible refine Looks.at L0 ?_ | with_reducible refine Looks.at L1 ?_ | with_reducible refine Looks.at L2 ?_ | with_reducible refine Looks.at L3 ?_ | with_reducible refine wpAny_loadPart_at e1 ?_ | wp_step)
    cases b <;> (repeat (first | wp_step)) <;> exact hq
  · cases hc
end
end L2

namespace L2
open PySem PySem.Spec PySem.Calls PyProof.Rows
theorem Xn.at_ {P:Program} {w:World} {H:Hp} {h:Heap} {a:Addr} {o:HO} (x:Xn P w H h a o):∃ ob,h.get? a=some ob:=by
  cases o with
  | lst xs=>obtain ⟨_,_,_,_,e⟩:=x;exact ⟨_,e⟩
  | tup xs=>obtain ⟨_,_,_,ob,e,_⟩:=x;exact ⟨_,e⟩
  | dK kvs=>obtain ⟨_,_,_,_,o,_,_,e,_⟩:=x;exact ⟨_,e⟩
  | dT kvs=>obtain ⟨_,_,_,_,o,_,_,e,_⟩:=x;exact ⟨_,e⟩
  | set S n=>obtain ⟨o,_,_,_,e,_⟩:=x;exact ⟨_,e⟩
  | ins C dx fs=>obtain ⟨_,_,_,e,_⟩:=x;exact ⟨_,e⟩
  | own y=>exact x
  | xd fs=>obtain ⟨_,⟨_,_,_,e,_⟩,_⟩:=x;exact ⟨_,e⟩
  | rng lo hi=>obtain ⟨_,_,_,e⟩:=x;exact ⟨_,e⟩
  | frz ob u=>obtain ⟨e,_⟩:=x;exact ⟨_,e⟩
  | tbl ps=>exact ⟨_,(show h.get? a=some _ from x)⟩
  | met f y=>exact ⟨_,(show h.get? a=some _ from x)⟩
  | ext φ=>obtain ⟨_,e,_⟩:=x;exact e
structure Fly (P:Program) (w:World) (outer:List Env) (H:Hp) (h0:Heap) (H':Hp) (B:Heap) (e C:Addr) (a0:Value) (h:Heap):Prop where
  fl:Heap.FlyingW B outer e (.ref C) a0 h
  ok:HOk P w H' B
  keep:∀ b o,h0.get? b=some o→H b=none→b∉frs outer→B.get? b=some o
  there:∀ b o,h0.get? b=some o→b∉frs outer→∃ o',B.get? b=some o'
  slot:∀ b o,h0.get? b=some o→H b=none→b∈frs outer→∃ sl,h.get? b=some { o with slots:=sl }
  free:∀ b o,h0.get? b=some o→H b=none→H' b=none
  tups:∀ b xs,H b=some (.tup xs)→H' b=some (.tup xs)
  frzs:∀ b o u,H b=some (.frz o u)→H' b=some (.frz o u)
  tbls:∀ b ps,H b=some (.tbl ps)→∃ more,H' b=some (.tbl (ps++more))
noncomputable def CX1 (P:Program) (w:World):CXT:=fun outer H s E e s'=>∃ a C a0 H' B,e = .ref a∧s'.os=s.os∧AllBare s'.gens∧Fly P w outer H s.heap H' B a C a0 s'.heap∧E (.ref C) none H'
section
variable {P:Program} {w:World} {outer:List Env} {H H':Hp} {h0 h h' B:Heap} {e C:Addr} {a0:Value}
theorem Fly.un (F:Fly P w outer H h0 H' B e C a0 h) (hf:∀ b∈frs outer,H b=none):Un (frs outer) [] H H' h0 h where
  keep:=fun b o q n hb _=>F.fl.1 b o (F.keep b o q n hb)
  slot:=fun b o q n hb _=>F.slot b o q n hb
  free:=fun b o q n _=>F.free b o q n
  there:=fun b o q _=>by
    by_cases hb:b∈frs outer
    · obtain ⟨sl,z⟩:=F.slot b o q (hf b hb) hb
      exact ⟨_,z⟩
    · obtain ⟨o',z⟩:=F.there b o q hb
      exact ⟨o',F.fl.1 b o' z⟩
  tups:=F.tups
  frzs:=F.frzs
  tbls:=F.tbls
theorem Fly.hok (F:Fly P w outer H h0 H' B e C a0 h):HOk P w H' h:=F.ok.kept F.fl.1
theorem Fly.on (F:Fly P w outer H h0 H' B e C a0 h) (fl:Heap.FlyingW B outer e (.ref C) a0 h') (u:h.UpToSlots h'):Fly P w outer H h0 H' B e C a0 h' :=
  ⟨fl,F.ok,F.keep,F.there,fun b o q n hb=>by
    obtain ⟨sl,z⟩:=F.slot b o q n hb
    obtain ⟨_,o2,z2,nf⟩:=F.fl.2.2.1.mem hb
    rw [z] at z2;cases z2
    obtain ⟨sl2,z3⟩:=u b _ z nf
    exact ⟨sl2,z3⟩,F.free,F.tups,F.frzs,F.tbls⟩
theorem Fly.new (F:Fly P w outer H h0 H' B e C a0 h):H' e=none:=by
  cases q:H' e with
  | none=>rfl
  | some o =>
    obtain ⟨ob,z⟩:=(F.ok e o q).at_
    rw [F.fl.2.1] at z;cases z
end
section
variable {P:Program} {w:World} {K:PySem.W.Frag} {mg:Str→Option Value} {base:Heap} {N:List Str} {qual:Str} {scope:Scope} {f:Addr} {cd:Value} {A:Around} {outer:List Env} {s s2:Shared} {H H2:Hp} {E:XK}
  {pins:List (Addr×Obj)} {σ:St} {h':Heap} {e C:Addr} {vs:List Value}
theorem Qfy (I:Inv (cxOf (CX1 P w) P w K mg base N qual scope f cd A outer s H E) pins σ H2 s2) (hx:Heap.MadeExcOf s2.heap h' e (.ref C) vs) (hE:E (.ref C) none H2) :
    (cxOf (CX1 P w) P w K mg base N qual scope f cd A outer s H E).xe (.ref e) { s2 with heap:=h' }:=by
  generalize hX:cxOf (CX1 P w) P w K mg base N qual scope f cd A outer s H E=X at I
  have hst:X.stack=envOfC qual scope s.heap.objs.size f cd :: outer:=by rw [← hX];rfl
  have hou:X.outer=outer:=by rw [← hX];rfl
  have hfr:X.A.frames=some X.stack:=I.ok.frames
  have hA:X.A=A.deeper (envOfC qual scope s.heap.objs.size f cd):=by rw [← hX];rfl
  have hL:X.env.locals=s.heap.objs.size:=by rw [← hX];rfl
  have hs0:X.s₀=s:=by rw [← hX];rfl
  have hH0:X.H₀=H:=by rw [← hX];rfl
  have hex:X.ex=[]:=by rw [← hX];rfl
  have hp:X.prog=P:=by rw [← hX];rfl
  have hw:X.w=w:=by rw [← hX];rfl
  have hxe:X.xe=fun e s'=>wpAny (model P w) (A.deeper (envOfC qual scope s.heap.objs.size f cd)) (leaving (envOfC qual scope s.heap.objs.size f cd) e) (fun _ s''=>CX1 P w outer H s E e s'') (fun e' s''=>CX1 P w outer H s E e' s'') s':=by rw [← hX];rfl
  rw [hxe]
  have hfs:X.fs=frs outer:=by show frs X.outer=_;rw [hou]
  generalize hfb:frs (envOfC qual scope s.heap.objs.size f cd :: outer)=as
  have hin:∀ env∈X.stack,∀ a,env.frame=some a→a∈as:=fun env he a ha=>by
    rw [← hfb];rw [hst] at he
    exact List.mem_filterMap.mpr ⟨env,he,ha⟩
  have hfree:∀ b∈as,H2 b=none:=fun b hb=>I.stkFree b (by rw [hst,hfb];exact hb)
  have hsub:∀ b∈as,b=s.heap.objs.size∨b∈frs outer:=fun b hb=>by
    have:=I.stkSub b (by rw [hst,hfb];exact hb)
    rw [hL,hfs] at this
    exact List.mem_cons.mp this
  have hold:∀ b o,s.heap.get? b=some o→b∉frs outer→b∉as:=fun b o q nb hb=>by
    rcases hsub b hb with z | z
    · exact absurd (Heap.lt_size q) (by rw [z];exact Nat.lt_irrefl _)
    · exact nb z
  have fun2:=I.stack
  rw [hst] at hfr
  refine wpAny_leaves_madeW (base:=PySem.W.hideAll s2.heap as) (by rw [← hA];exact hfr) rfl (fun b o q=>PySem.W.of_hideAll _ q) (by rw [← hst];exact PySem.W.funFrames_hide fun2 hin) hx fun h'' t x1 x2 x3 x4 => ?_
  have base:=I.base
  rw [hs0,hH0,hfs,hex] at base
  refine ⟨e,C,.ref t,H2,_,rfl,?_,I.bare,⟨x1,?_,fun b o q n hb => ?_,fun b o q hb => ?_,fun b o q n hb => ?_,fun b o q n=>base.free b o q n (by simp),base.tups,base.frzs,base.tbls⟩,hE⟩
  · show s2.os=_;rw [← hs0];exact I.os
  · intro a o q
    have hk:=I.hok
    rw [hp,hw] at hk
    refine (hk a o q).stay (fun b u hb z=>PySem.W.hideAll_get _ z fun hm => ?_) (fun _ z=>z) fun _ _ z=>z
    rcases hb with rfl | hb
    · rw [hfree b hm] at q;cases q
    · rw [hfree b hm] at hb;cases hb
  · exact PySem.W.hideAll_get _ (base.keep b o q n hb (by simp)) (hold b o q hb)
  · obtain ⟨o',z⟩:=base.there b o q (by simp)
    exact ⟨o',PySem.W.hideAll_get _ z (hold b o q hb)⟩
  · obtain ⟨sl,z⟩:=base.slot b o q n hb (by simp)
    have hf2:=I.funs
    rw [hou] at hf2
    obtain ⟨_,o2,z2,nf⟩:=hf2.mem hb
    rw [z] at z2;cases z2
    obtain ⟨sl2,z3⟩:=x4 b _ (hx.keeps _ _ z) nf
    exact ⟨sl2,z3⟩
end
end L2

namespace L2
open PySem PySem.Spec PySem.Calls PyProof.Rows
noncomputable def valB:List Value:=[.type "ValueError",.type "Exception",.type "BaseException",.type "object"]
noncomputable def XNew (K:PySem.W.Frag) (C:Addr):Prop:=PySem.W.excIn K C valB "ValueError.__new__"=true
theorem XNew.parts {K:PySem.W.Frag} {C:Addr} {h:Heap} (X:K.In h) (q:XNew K C):∃ bm N nm qn bs hd sn sub ab col dd k0 k1 k2 k3 k5 mN,h.get? C=some (excClassObj nm qn C N bs bm hd sn sub ab col dd k0 k1 k2 k3 k5 "ValueError.__new__")∧h.Ns N mN∧mN "__init__"=none∧OwnTail h valB bm:=by
  unfold XNew PySem.W.excIn at q
  split at q
  case h_2=>cases q
  case h_1 dd cd sl e0 =>
    split at q
    case h_2=>cases q
    case h_1 C2 bm a0 a1 a2 a3 nn a5 e1 e2 =>
      rw [Bool.and_eq_true,Bool.and_eq_true,Bool.and_eq_true,Bool.and_eq_true,Bool.and_eq_true] at q
      obtain ⟨⟨⟨⟨⟨q1,q2⟩,q3⟩,q4⟩,q5⟩,q6⟩:=q
      have q1:=beq_iff_eq.mp q1
      have q2:=beq_iff_eq.mp q2
      have q6:=beq_iff_eq.mp q6
      rw [Bool.not_eq_true'] at q3
      subst q1 q2
      obtain ⟨nm,bs,mro,ns,qn,hd,sn,sub,ab,col,del⟩:=cd
      cases e1
      cases q3
      have e3:sl = #[a0,a1,a2,a3,some (.builtin "ValueError.__new__"),a5]:=Array.toList_inj.mp e2
      cases e3
      exact ⟨bm,ns,nm,qn,bs,hd,sn,sub,ab,col,dd,a0,a1,a2,a3,a5,_,X _ _ e0,.of_isNs (PySem.W.isNs_of_in X q5),PySem.W.nsMap_none_of_in X q5 q6,PySem.W.tail_of_in X q4⟩
noncomputable def sRaise (C:Addr) (E:XK) (t:TA):TS:=fun _ σ H=>t σ H fun vs H1=>vs.length≤sizeLine∧E (.ref C) none H1
section
variable {X:Cx} {x:Str} {np cpos pos:Pos} {e:Expr} {es:List Expr} {C:Addr} {E:XK} {t:TA}
noncomputable def Qie (X:Cx) (E:XK):Prop:=∀ (pins:List (Addr×Obj)) (σ:St) (H:Hp) (s:Shared) (h':Heap) (a C:Addr) (vs:List Value),Inv X pins σ H s→Heap.MadeExcOf s.heap h' a (.ref C) vs→E (.ref C) none H→X.xe (.ref a) { s with heap:=h' }
theorem ps_raise (hx:Qie X E) (hh:X.A.handled=none) (hg:Gl X x) (hm:X.mg x=some (.ref C)) (hk:XNew X.K C) (ha:PA X (e :: es) t)
    (hst:starEach (e :: es) X.env=(false,eval e X.env) :: starEach es X.env:=by rfl) (hpl:(backTo cpos (starEach es X.env)).any (·.1)=false:=by rfl) (hd:(x==("__debug__":Str))=false:=by decide) :
    PS X (.Raise (some (.Call (.Name x np) (e :: es) [] cpos)) none pos) (sRaise C E t):=by
  intro pins s σ H D I h
  obtain ⟨bm,N,nm,qn,bs,hd',sn,sub,ab,col,dd,k0,k1,k2,k3,k5,mN,hC,hN,hni,T⟩:=hk.parts I.mod.kin
  refine wpAny_Raise_call_subT (C:=C) (nm:=nm) (q:=qn) (N:=N) (bs:=bs) (bm:=bm) (hdct:=hd') (sn:=sn) (sub:=sub) (ab:=ab) (col:=col) (dd:=dd) (k0:=k0) (k1:=k1) (k2:=k2) (k3:=k3) (k5:=k5)
    F.excBase_ValueError (mN:=mN) (T.hasType F.excBase_ValueError.hasBase) hh (by rw [hst];show (false||(backTo cpos (starEach es X.env)).any (·.1))=false;rw [hpl];rfl) hni (QcE I hg hm ⟨rfl,?_⟩ hd)
  rw [hst]
  refine Calls.evalArgs_plain ?_
  have h0:=ha cpos pins s σ H _ I h
  rw [hst] at h0
  exact thn h0 fun us s2 ⟨vs,H1,I1,r,z,q⟩=>⟨rfl,by show us.length≤_;rw [← r.length];exact z,I1.bk _ _ hC,hN.keeps I1.bk,T.keeps I1.bk,fun h' a hmd=>hx pins σ H1 s2 h' a C us I1 hmd q⟩
end
theorem QaX {P:Program} {w:World} {K:PySem.W.Frag} {mg:Str→Option Value} {base:Heap} {N:List Str} {qual:Str} {scope:Scope} {f:Addr} {cd:Value} {A:Around} {outer:List Env} {s:Shared} {H:Hp} {E:XK} :
    Qie (cxOf (CX1 P w) P w K mg base N qual scope f cd A outer s H E) E:=fun _ _ _ _ _ _ _ _ I hm q=>Qfy I hm q
end L2

namespace L2
open PySem PySem.Spec PySem.Calls PyProof.Rows
noncomputable def Cx.inExc (X:Cx) (a:Addr) (oe:Obj):Cx:={ X with A:=X.A.mark (some (.ref a)),calm:=false,pn:=X.pn++[(a,oe)],xe:=fun _ _=>False }
section
variable {X:Cx} {pins:List (Addr×Obj)} {σ:St} {H:Hp} {s:Shared} {a:Addr} {oe:Obj}
theorem Inv.inExc (I:Inv X pins σ H s) (he:s.heap.get? a=some oe) (hn:H a=none) (hl:a≠X.env.locals) (hf:a∉X.fs) (hd:∀ v,oe.data ≠ .cell v):Inv (X.inExc a oe) pins σ H s:=by
  have ok:=I.ok
  refine ⟨⟨ok.mod,ok.kind,ok.glob,ok.blt,ok.above,ok.inj,ok.has,ok.cab,(fun z=>nomatch z),ok.frames,ok.stk,ok.exf,ok.bs,ok.bsz,ok.noex,ok.exfs,ok.funs,ok.frf⟩,I.os,I.bare,I.base,I.loc,I.cell,I.free,I.freeC,fun p hp => ?_,I.hok,I.len⟩
  rcases List.mem_append.mp hp with hp | hp
  · rcases List.mem_append.mp (show p∈X.pn++[(a,oe)] from hp) with hp | hp
    · exact I.pin p (List.mem_append_left _ hp)
    · cases (List.mem_singleton.mp hp)
      exact ⟨he,hn,hl,hf,hd⟩
  · exact I.pin p (List.mem_append_right _ hp)
theorem Inv.outExc (I:Inv (X.inExc a oe) pins σ H s) (ok:X.Ok):Inv X pins σ H s :=
  ⟨ok,I.os,I.bare,I.base,I.loc,I.cell,I.free,I.freeC,fun p hp=>I.pin p ((List.mem_append.mp hp).elim (fun z=>List.mem_append_left _ (List.mem_append_left _ z)) fun z=>List.mem_append_right _ z),I.hok,I.len⟩
theorem Qba {M:Model} {A:Around} {E:Value→Shared→Prop} {i:Nat} {n:Str} {pos:Pos} {Q:Unit→Shared→Prop} (I:Inv X pins σ H s) (hN:X.N.Nodup) (hi:X.N[i]?=some n) (hl:X.env.scope.names.lookup n=some .local)
    (h:∀ s',Inv X pins (σ.set i none) H s'→Q () s'):wpAny M A (do bindName X.env n .none;unbindBehindTheSuite X.env n pos) Q E s:=by
  obtain ⟨m,hn,hlk⟩:=id I.loc
  have cne:=I.cne
  have low:∀ b o,X.s₀.heap.get? b=some o→b≠X.env.locals:=fun b o e=>Nat.ne_of_lt (Nat.lt_of_lt_of_le (Heap.lt_size e) I.ok.above)
  refine wpAny_nameGoes_keeps hl hn (by rw [I.ok.kind];rfl) fun h' v hn' hs=>h _ ?_
  refine ⟨I.ok,I.os,I.bare,⟨fun b o e n hb hx=>(hs.2 b (low b o e)).trans (I.base.keep b o e n hb hx),fun b o e n hb hx => ?_,I.base.free,fun b o e hx => ?_,I.base.tups,I.base.frzs,I.base.tbls⟩,⟨_,hn',fun j y v' e1 e2 e3 => ?_⟩,fun y c e => ?_,I.free,I.freeC,fun p hp => ?_,fun b ob e => ?_,by simpa using I.len⟩
  · obtain ⟨sl,e1⟩:=I.base.slot b o e n hb hx
    exact ⟨sl,(hs.2 b (low b o e)).trans e1⟩
  · obtain ⟨o',e1⟩:=I.base.there b o e hx
    exact ⟨o',(hs.2 b (low b o e)).trans e1⟩
  · have hj:j≠i:=fun z=>by
      subst z
      rw [List.getElem?_set] at e2
      simp at e2
    rw [List.getElem?_set_ne (Ne.symm hj)] at e2
    obtain ⟨u,r,q⟩:=hlk j y v' e1 e2 e3
    refine ⟨u,r,?_⟩
    rcases q with ⟨k,e⟩ | ⟨k,c,e,z⟩
    · have:y≠n:=fun e'=>hj (Qeo hN e1 (e' ▸ hi))
      exact .inl ⟨k,by simp [this,e]⟩
    · exact .inr ⟨k,c,e,z.sameBut hs (cne y c e)⟩
  · obtain ⟨w',z⟩:=I.cell y c e
    exact ⟨w',z.sameBut hs (cne y c e)⟩
  · obtain ⟨e,n,ne,nf,d⟩:=I.pin p hp
    exact ⟨(hs.2 p.1 ne).trans e,n,ne,nf,d⟩
  · refine (I.hok b ob e).stay (fun c w' hc q=>(hs.2 c fun z => ?_).trans q) (fun _ q=>q) fun _ _ q=>q
    subst z
    rcases hc with z | z
    · rw [← z,I.free] at e;cases e
    · rw [I.free] at z;cases z
structure XCat (K:PySem.W.Frag) (D:Addr):Prop where
  cl:XCl K D
  ty:PySem.W.typeIn K (.ref D)=some (.type "type")
noncomputable def Lands (X:Cx) (D:Addr) (sts:List Stmt) (i:Nat) (Ds:Ends) (σ:St):XK:=fun cls _ H'=>∃ C,cls = .ref C∧PySem.W.mroIn X.K C (.ref D)=some true∧∀ a oe,oe.cls = .ref C→∃ t,PSs (X.inExc a oe) sts t ∧
  t { nx:=fun σ' H''=>Ds.nx (σ'.set i none) H'',rt:=Ds.rt,bk:=fun σ' H''=>Ds.bk (σ'.set i none) H'',ct:=fun σ' H''=>Ds.ct (σ'.set i none) H'' } (σ.set i (some (.ref a))) H'
variable {s':Shared} {e:Value} {x n:Str} {np pos:Pos} {D:Addr} {b₀:Stmt} {suite:List Stmt} {rest:List ExceptHandler} {i:Nat} {Ds:Ends}
theorem Qjo (I:Inv X pins σ H s) (hst:X.stack=X.env :: X.outer) (hfm:X.env.frame=some X.env.locals) (hcx:CX1 X.prog X.w X.stack H s (Lands X D (b₀ :: suite) i Ds σ) e s')
    (hg:Gl X x) (hm:X.mg x=some (.ref D)) (hD:XCat X.K D) (hN:X.N.Nodup) (hi:X.N[i]?=some n) (hl:X.env.scope.names.lookup n=some .local) (hdb:(x==("__debug__":Str))=false:=by decide) :
    wpAny (model X.prog X.w) X.A (noteFrame e X.env) (fun _ s₂=>wpAny (model X.prog X.w) X.A (setFlight e none) (fun _ s₃ =>
      wpAny (model X.prog X.w) X.A (handleBy e X.env (.ExceptHandler (some (.Name x np)) (some n) (b₀ :: suite) pos :: rest)) (SP X pins Ds) X.xe s₃) X.xe s₂) X.xe s':=by
  obtain ⟨a,C,a0,H',B,rfl,ho,hb,F,C',hC,hsub,hE⟩:=hcx
  cases hC
  have hfr:=I.ok.frames
  have fl:=F.fl
  rw [hst] at hfr fl
  refine wpAny_looks_onW hfr hfm fl fun h4 held sm4 => ?_
  refine wpAny_landsW held fun h5 fl5 sm5 => ?_
  rw [← hst] at fl5
  have F5:=F.on fl5 (sm4.trans sm5)
  have mk:∀ h6,Fly X.prog X.w X.stack H s.heap H' B a C a0 h6→∃ oe,h6.get? a=some oe∧oe.cls = .ref C∧Inv (X.inExc a oe) pins σ H' { s' with heap:=h6 }:=fun h6 F6=>by
    have I6:Inv X pins σ H' { s' with heap:=h6 }:=I.call' ho (F6.un I.stkFree) F6.hok hb (fun _ z=>nomatch z)
    obtain ⟨oe,vs,he,hc,hd,_⟩:=F6.fl.first
    have nf:a∉frs X.stack:=fun z=>by
      obtain ⟨_,o2,z2,nf⟩:=F6.fl.2.2.1.mem z
      rw [he] at z2;cases z2
      exact nf vs hd
    have mem:∀ b,b=X.env.locals∨b∈X.fs→b∈frs X.stack:=fun b hb=>by
      rw [hst];unfold frs
      rw [List.filterMap_cons,hfm]
      exact List.mem_cons.mpr hb
    exact ⟨oe,he,hc,I6.inExc he F6.new (fun z=>nf (mem a (.inl z))) (fun z=>nf (mem a (.inr z))) fun v q=>by rw [hd] at q;cases q⟩
  obtain ⟨oe5,he5,hc5,I5⟩:=mk h5 F5
  refine wpAny_handleBy_cons (codeAny_handlers_test (QcE (X:=X.inExc a oe5) I5 hg hm (Qjf I5.kIn ⟨oe5,he5,hc5⟩ hD.cl hD.ty hsub ?_) hdb)) (by intro q;cases q)
  refine codeAny_handlers_suite_as (lands_againW (s:={ s' with heap:=h5 }) F5.fl fun h6 fl6 sm6 => ?_)
  obtain ⟨oe,he,hc,I6⟩:=mk h6 (F5.on fl6 sm6)
  obtain ⟨t,ht,q⟩:=hE a oe hc
  refine Xf (X:=X.inExc a oe) (v := .ref a) I6 hN hi (.inl hl) rfl (fun s7 I7 => ?_) (.inr hl)
  refine wpAny_mono (ht pins s7 _ H' _ I7 q) (fun f s8 z => ?_) fun _ _ z=>z.elim
  cases f with
  | next =>
    obtain ⟨σ',H'',J,q⟩:=z
    exact Qba (J.outExc I.ok) hN hi hl fun s9 J9=>⟨_,H'',J9,q⟩
  | brk =>
    obtain ⟨σ',H'',J,q⟩:=z
    exact Qba (J.outExc I.ok) hN hi hl fun s9 J9=>⟨_,H'',J9,q⟩
  | cont =>
    obtain ⟨σ',H'',J,q⟩:=z
    exact Qba (J.outExc I.ok) hN hi hl fun s9 J9=>⟨_,H'',J9,q⟩
  | ret u =>
    obtain ⟨v,σ',H'',J,r,q⟩:=z
    exact Qba (J.outExc I.ok) hN hi hl fun s9 J9=>⟨v,_,H'',J9,r,q⟩
end
end L2

namespace L2
open PySem PySem.Spec PySem.Calls PyProof.Rows
noncomputable def PXE (X:Cx) (e:Expr) (t:XK→TE):Prop:=∀ (pins:List (Addr×Obj)) (s:Shared) (σ:St) (H:Hp) (Q:VK) (E:XK),Inv X pins σ H s →
  (∀ H1 s1 e s2,Inv X pins σ H1 s1→CX1 X.prog X.w X.stack H1 s1 E e s2→X.xe e s2)→t E σ H Q→wpAny (model X.prog X.w) X.A (eval e X.env) (EP X pins σ Q) X.xe s
noncomputable def PX (X:Cx) (st:Stmt) (t:(St→XK)→TS):Prop:=∀ (pins:List (Addr×Obj)) (s:Shared) (σ:St) (H:Hp) (D:Ends) (E:St→XK),Inv X pins σ H s →
  (∀ σ1 H1 s1 e s2,Inv X pins σ1 H1 s1→CX1 X.prog X.w X.stack H1 s1 (E σ1) e s2→X.xe e s2)→t E D σ H→wpAny (model X.prog X.w) X.A (exec st X.env) (SP X pins D) X.xe s
noncomputable def PXs (X:Cx) (sts:List Stmt) (t:(St→XK)→TS):Prop:=∀ (pins:List (Addr×Obj)) (s:Shared) (σ:St) (H:Hp) (D:Ends) (E:St→XK),Inv X pins σ H s →
  (∀ σ1 H1 s1 e s2,Inv X pins σ1 H1 s1→CX1 X.prog X.w X.stack H1 s1 (E σ1) e s2→X.xe e s2)→t E D σ H→wpAny (model X.prog X.w) X.A (execs sts X.env) (SP X pins D) X.xe s
section
variable {X:Cx} {st:Stmt} {sts:List Stmt} {k:Nat} {f C:Addr} {fd:FuncData} {ps:List Str} {sp:Sp} {dvs:List V} {ds:List Value} {x m:Str} {p pos apos:Pos} {e o:Expr} {es:List Expr} {ta:TE} {t:TA}
theorem PXs.imp {t t':(St→XK)→TS} (h:PXs X sts t) (i:∀ E D σ H,t' E D σ H→t E D σ H):PXs X sts t':=fun pins s σ H D E I hx q=>h pins s σ H D E I hx (i E D σ H q)
theorem PX.imp {t t':(St→XK)→TS} (h:PX X st t) (i:∀ E D σ H,t' E D σ H→t E D σ H):PX X st t':=fun pins s σ H D E I hx q=>h pins s σ H D E I hx (i E D σ H q)
theorem pxs_one {t:(St→XK)→TS} (h:PX X st t):PXs X [st] t:=fun pins s σ H D E I hx q=>wpAny_execs_cons (thn (h pins s σ H D E I hx q) fun f s1 q=>by
  cases f with
  | next=>exact wpAny_execs_nil q
  | ret v=>exact q
  | brk=>exact q
  | cont=>exact q)
theorem px_if {c:Expr} {xs ys:List Stmt} {tc:TT} {t u:(St→XK)→TS} (hc:PT X c tc) (ha:PXs X xs t) (hb:PXs X ys u):PX X (.If c xs ys pos) (fun E=>tIfS tc (t E) (u E)):=fun pins s σ H D E I hx h =>
  wpAny_If (thn (hc pins s σ H _ I h) fun d s1 ⟨H1,I1,q1⟩=>by
    cases d with
    | true=>exact ha pins s1 σ H1 D E I1 hx q1
    | false=>exact hb pins s1 σ H1 D E I1 hx q1)
theorem px_set {i:Nat} {te:XK→TE} {pos':Pos} (hN:X.N.Nodup) (hi:X.N[i]?=some x) (hx:Loc X.env.scope x) (he:PXE X e te) (hs:swapsWith e (some (.Name x pos')) pos.line X.env=pure false:=by rfl) (hf:X.fn x=true∨X.env.scope.names.lookup x=some .local:=by first | exact .inl rfl | exact .inr rfl | assumption) :
    PX X (.Assign [.Name x pos'] e pos) (fun E D σ H=>tAsg (te (E σ)) (QcK i) D σ H):=fun pins s σ H D E I hxx h =>
  wpAny_Assign_Name (thn (he pins s σ H _ (E σ) I (fun H1 s1 e s2=>hxx σ H1 s1 e s2) h) fun v s1 ⟨y,H1,I1,r1,q1⟩=>Xf I1 hN hi hx r1 (fun s2 I2=>⟨_,H1,I2,q1⟩) hf) hs
theorem run_fnX {pins:List (Addr×Obj)} {σ:St} {H:Hp} {s:Shared} {Q:VK} {us:List Value} {vs:List V} {E:XK} (F:FnOk X.prog X.w X.K X.mg X.base (CX1 X.prog X.w) k f fd ps sp) (hr:Room k X.A) (hb:YE X.K fd ps ds) (hd:Vals dvs ds)
    (I:Inv X pins σ H s) (hx:∀ e s2,CX1 X.prog X.w X.stack H s E e s2→X.xe e s2) (r:Vals vs us) (h:sp (vs++dvs) H Q E):wpAny (model X.prog X.w) X.A (call (.ref f) us) (EP X pins σ Q) X.xe s:=by
  have r2:Vals (vs++dvs) (us++ds):=r.append hd
  have hl:(us++ds).length=ps.length:=by rw [← r2.length];exact F.len _ _ _ _ h
  refine wpAny_call (codeAny_mono (F.run X.A X.stack s H ⟨us,[]⟩ _ _ Q E hr I.env0 (hb s us I.kIn hl) r2 h) fun r s' hq => ?_)
  rcases r with e | (_ | _ | _ | u)
  · exact hx e s' hq
  all_goals first | exact I.after hq | exact False.elim hq
theorem pxe_meth {pl:Sem Bool} (he:PE X o ta) (c:Cls X.K C) (hm:Meth X.K C m f) (F:FnOk X.prog X.w X.K X.mg X.base (CX1 X.prog X.w) k f fd ps sp) (hr:Room k X.A) (hb:YE X.K fd ps ds) (hd:Vals dvs ds) (ha:PA X (e :: es) t)
    (hst:starEach (e :: es) X.env=(false,eval e X.env) :: starEach es X.env:=by rfl) (hpl:(backTo pos (starEach es X.env)).any (·.1)=false:=by rfl)
    (ht:eval (.Call (.Attribute o m apos) (e :: es) [] pos) X.env=(do
      let ov ← eval o X.env
      standAt apos.atName
      let (f,first) ← holding [ov] (getMethod ov m pl)
      callWith pos f first (backTo pos (starEach (e :: es) X.env)) (backToKw pos (keywordEach [] X.env))):=by rfl) :
    PXE X (.Call (.Attribute o m apos) (e :: es) [] pos) (fun E=>QhL C m sp dvs E ta t):=by
  intro pins s σ H Q E I hx h
  refine PySem.W.methodCall_KW (pl:=pl) (thn (he pins s σ H _ I h) fun u s1 ⟨x,H1,I1,rx,a,dx,fs,ex,ea,l,q⟩ => ?_) ht
  subst ex
  obtain rfl:u=Value.ref a:=rx
  refine QbH I1 ea c hm l (PySem.W.callWith_K (first:=[.ref a]) (h₀:=X.base) I.ok.mod.kin hm.kp (thn (ha pos pins s1 σ H1 _ I1 q) fun us s2 ⟨vs,H2,I2,r,q2⟩=>⟨I2.kIn,?_⟩) hst hpl)
  exact run_fnX (us := .ref a :: us) (vs := .ref a :: vs) F hr hb hd I2 (fun e s3=>hx H2 s2 e s3 I2) (.cons rfl r) q2
theorem ps_try {body suite:List Stmt} {b₀:Stmt} {rest:List ExceptHandler} {i:Nat} {n:Str} {np hpos:Pos} {D:Addr} {tb:(St→XK)→TS} (hst:X.stack=X.env :: X.outer) (hfm:X.env.frame=some X.env.locals) (hb:∀ xe,PXs (X.wish xe) body tb)
    (hg:Gl X x) (hm:X.mg x=some (.ref D)) (hD:XCat X.K D) (hN:X.N.Nodup) (hi:X.N[i]?=some n) (hl:X.env.scope.names.lookup n=some .local) (hdb:(x==("__debug__":Str))=false:=by decide) :
    PS X (.Try body (.ExceptHandler (some (.Name x np)) (some n) (b₀ :: suite) hpos :: rest) [] [] pos) (fun Ds σ H=>tb (fun σ'=>Lands X D (b₀ :: suite) i Ds σ') Ds σ H):=by
  intro pins s σ H Ds I h
  have w:=hb (fun e s₁=>wpAny (model X.prog X.w) X.A (noteFrame e X.env) (fun _ s₂=>wpAny (model X.prog X.w) X.A (setFlight e none) (fun _ s₃=>wpAny (model X.prog X.w) X.A (handleBy e X.env (.ExceptHandler (some (.Name x np)) (some n) (b₀ :: suite) hpos :: rest)) (SP X pins Ds) X.xe s₃) X.xe s₂) X.xe s₁)
    pins s σ H Ds (fun σ'=>Lands X D (b₀ :: suite) i Ds σ') (I.wish _) (fun σ1 H1 s1 e s2 J hcx=>Qjo J.unwish hst hfm hcx hg hm hD hN hi hl hdb) h
  refine wpAny_Try_except (thn w fun fl s1 q => ?_)
  · have q:=q.unwish
    cases fl with
    | next=>exact wpAny_execs_nil q
    | ret v=>exact q
    | brk=>exact q
    | cont=>exact q
end
end L2

noncomputable section
namespace L2.PM
open PySem PySem.Spec PyProof.Rows
noncomputable abbrev OutE (τ:Type):=OutX τ ⊕ (PEnv×τ×Nat)
noncomputable abbrev MXE (τ:Type):=PEnv→τ→Option (OutE τ)
section
variable {τ:Type}
noncomputable def OutEOk (K:PySem.W.Frag) (P:Hp→Hp→Addr→τ→Prop) (j:Nat) (B F₀:Hp) (a:Addr) (CA:Nat→Addr) (D:Ends) (E:St→XK):OutE τ→Prop
  | .inl o=>Qif K P j B F₀ a D o
  | .inr (γ,t,k)=>∀ σ H F G,SX K P j B F₀ F G a σ H γ t→E σ (.ref (CA k)) none H
noncomputable def tMXE (K:PySem.W.Frag) (P:Hp→Hp→Addr→τ→Prop) (j:Nat) (CA:Nat→Addr) (m:MXE τ):(St→XK)→TS:=fun E D σ H=>∃ B F₀ F G a γ t o,SX K P j B F₀ F G a σ H γ t∧m γ t=some o∧OutEOk K P j B F₀ a CA D E o
noncomputable def XME (X:Cx) (P:Hp→Hp→Addr→τ→Prop) (j:Nat) (CA:Nat→Addr) (st:Stmt) (m:MXE τ):Prop:=PX X st (tMXE X.K P j CA m)
noncomputable def XMEs (X:Cx) (P:Hp→Hp→Addr→τ→Prop) (j:Nat) (CA:Nat→Addr) (sts:List Stmt) (m:MXE τ):Prop:=PXs X sts (tMXE X.K P j CA m)
noncomputable def XR (X:Cx) (E:XK) (P:Hp→Hp→Addr→τ→Prop) (j:Nat) (CA:Nat→Addr) (st:Stmt) (m:MXE τ):Prop:=PS X st (tMXE X.K P j CA m (fun _=>E))
noncomputable def XRs (X:Cx) (E:XK) (P:Hp→Hp→Addr→τ→Prop) (j:Nat) (CA:Nat→Addr) (sts:List Stmt) (m:MXE τ):Prop:=PSs X sts (tMXE X.K P j CA m (fun _=>E))
variable {X:Cx} {E:XK} {P:Hp→Hp→Addr→τ→Prop} {j:Nat} {CA:Nat→Addr} {st:Stmt} {sts:List Stmt} {e c:Expr} {ms:List Nat} {pos p2:Pos}
theorem _root_.L2.PS.nox {t:TS} (h:PS X.nox st t):PS X st t:=fun pins s σ H D I hw=>wpAny_mono (h pins s σ H D (I.wish _) hw) (fun _ _ q=>q.unwish) fun _ _ z=>False.elim z
noncomputable def Qdw (m:MX τ):MXE τ:=fun γ t=>(m γ t).map .inl
theorem Qab {m:MX τ} (h:XMs X.nox P j sts m):XRs X E P j CA sts (Qdw m):=PSs.imp (PSs.nox h) fun D σ H ⟨B,F₀,F,G,a,γ,t,o,S,e,ok⟩=>by
  obtain ⟨o1,e1,rfl⟩:=Yh e
  exact ⟨B,F₀,F,G,a,γ,t,o1,S,e1,ok⟩
noncomputable def eSeq (s1 s2:MXE τ):MXE τ:=fun γ t=>(s1 γ t).bind fun o=>match o with
  | .inl (.nx γ' t')=>s2 γ' t'
  | o=>some o
theorem Qeb {s1 s2:MXE τ} (h:XR X E P j CA st s1) (hr:XRs X E P j CA sts s2):XRs X E P j CA (st :: sts) (eSeq s1 s2):=PSs.imp (QaV h hr) fun D σ H ⟨B,F₀,F,G,a,γ,t,o,S,e,ok⟩=>by
  obtain ⟨o1,e1,e2⟩:=Qh e
  refine ⟨B,F₀,F,G,a,γ,t,o1,S,e1,?_⟩
  rcases o1 with (⟨γ',t'⟩ | p | xs | ⟨γ',t'⟩ | ⟨γ',t'⟩) | ⟨γ',t',k⟩
  · exact fun σ' H' F' G' S'=>⟨B,F₀,F',G',a,γ',t',o,S',e2,ok⟩
  all_goals (cases e2;exact ok)
theorem QfV {s1:MXE τ} (h:XR X E P j CA st s1):XRs X E P j CA [st] s1:=Qee h
noncomputable def eIfA (j:Nat) (rd:τ→Addr→PV) (tt:PEnv→Option Bool) (s1 s2:MXE τ):MXE τ:=fun γ t=>(allB fun b=>tt (γ.set j (.fz (rd t b)))).bind fun k=>if k=true then s1 γ t else s2 γ t
theorem QfW {rd:τ→Addr→PV} (hr:QeU X.K P rd) {tt:PEnv→Option Bool} {xs ys:List Stmt} {s1 s2:MXE τ} (hc:TM X.nox ms c tt) (ha:XRs X E P j CA xs s1) (hb:XRs X E P j CA ys s2):XR X E P j CA (.If c xs ys pos) (eIfA j rd tt s1 s2):=PS.imp (ps_if (PT.nox hc) ha hb) fun D σ H ⟨B,F₀,F,G,a,γ,t,o,S,e,ok⟩=>by
  obtain ⟨k,e1,e2⟩:=Qh e
  obtain ⟨b,F1,hs,er⟩:=S.seeA hr ms
  refine ⟨F1,γ.set j (.fz (rd t b)),k,hs,er,YM e1 b,fun H' F' g => ?_⟩
  cases k with
  | true=>rw [if_pos rfl] at e2 ⊢;exact ⟨B,F₀,F,G,a,γ,t,o,S.same g.same,e2,ok⟩
  | false=>rw [if_neg Bool.false_ne_true] at e2 ⊢;exact ⟨B,F₀,F,G,a,γ,t,o,S.same g.same,e2,ok⟩
noncomputable def Qcl (ms:List Nat) (ma:PEnv→Option (List PV)) (k:Nat):MXE τ:=fun γ t=>(ma γ).bind fun qs=>if qs.length < 9 then some (.inr (frz ms γ,t,k)) else none
theorem Qcn (mono:QaU P) {es:List Expr} {x:Str} {np cpos:Pos} {ma:PEnv→Option (List PV)} {k:Nat} (hx:Qie X E) (hh:X.A.handled=none) (hg:Gl X x) (hm:X.mg x=some (.ref (CA k))) (hk:XNew X.K (CA k)) (ha:AM X ms (e :: es) ma)
    (hst:starEach (e :: es) X.env=(false,eval e X.env) :: starEach es X.env:=by rfl) (hpl:(backTo cpos (starEach es X.env)).any (·.1)=false:=by rfl) (hd:(x==("__debug__":Str))=false:=by decide) :
    XR X E P j CA (.Raise (some (.Call (.Name x np) (e :: es) [] cpos)) none pos) (Qcl ms ma k):=PS.imp (ps_raise hx hh hg hm hk ha hst hpl hd) fun D σ H ⟨B,F₀,F,G,a,γ,t,o,S,e,ok⟩=>by
  obtain ⟨qs,e1,e⟩:=Qh e
  obtain ⟨hl,rfl⟩:=QD e
  obtain ⟨F1,S1,x1,er⟩:=S.sr.see ms
  refine ⟨F1,γ,qs,S1.sub,er,e1,fun vs H' F' gr q=>⟨?_,?_⟩⟩
  · rw [q.length];exact Nat.le_of_lt (Nat.lt_of_lt_of_le hl (by decide))
  · exact ok σ H' F' G (S.next mono (S1.grow gr) ((Qbu ms S.at_).trans S.at_.symm) (x1.trans gr.ext))
noncomputable def spXE (K:PySem.W.Frag) (P:Hp→Hp→Addr→τ→Prop) (CA:Nat→Addr) (n:Nat) (g:Addr→List PV→τ→Option (τ ⊕ (τ×Nat))):Sp:=fun vs H Q E=>vs.length=n∧∃ F G a t us qs o,vs = .ref a :: us∧Same F H∧Same G H∧(∀ b o,G b=some o→F b=none)∧P F G a t∧RepL K F qs us∧g a qs t=some o∧match o with
  | .inl t'=>∀ H' F' G',GrowX F G H F' G' H'→P F' G' a t'→Q .non H'
  | .inr (t',k)=>∀ H' F' G',GrowX F G H F' G' H'→P F' G' a t'→E (.ref (CA k)) none H'
noncomputable def outE:OutE τ→Option (τ ⊕ (τ×Nat))
  | .inl (.nx _ t)=>some (.inl t)
  | .inr (_,t,k)=>some (.inr (t,k))
  | _=>none
noncomputable def Qfs (N n:Nat) (m:MXE τ) (a:Addr) (qs:List PV) (t:τ):Option (τ ⊕ (τ×Nat)):=if qs.length + 1=n then (m (Zp N (.opq a :: qs)) t).bind outE else none
theorem QeY {N n:Nat} {m:MXE τ}:∀ a qs t t',Qfs N n m a qs t=some t'→qs.length + 1=n:=fun a qs t t' h=>by
  unfold Qfs at h
  exact (Xi h).1
end
theorem _root_.L2.Fun.okX {P:Program} {w:World} {K:PySem.W.Frag} {mg:Str→Option Value} {base:Heap} {x qual:Str} {st:Stmt} {f:Addr} {fd:FuncData} {N ps:List Str} {k:Nat} {sp:Sp} (F:Fun K x qual st f fd) (S:FnScope N ps (Qe st)) (len:∀ vs H Q E,sp vs H Q E→vs.length=ps.length)
    (hbody:∀ (cdv:Value) (A:Around) (outer:List Env) (s:Shared) (H:Hp) (vs:List V) (Q:VK) (E:XK),Room k (A.deeper (envOfC qual (Qe st) s.heap.objs.size f cdv))→sp vs H Q E →
      ∃ t,PSs (cxOf (CX1 P w) P w K mg base N qual (Qe st) f cdv A outer s H E) (Qm st) t∧t { nx:=fun _ H'=>Q .non H',rt:=Q } (XL N vs) H):FnOk P w K mg base (CX1 P w) (k + 1) f fd ps sp:=by
  obtain ⟨oc,od,kV,doc,pm,an,cdv,ct,osl,rfl,lk,hcd⟩:=F.ex
  exact fn_of lk hcd S len fun A outer s H vs Q E hr hsp=>hbody cdv A outer s H vs Q E hr hsp
section
variable {τ:Type} {P':Program} {w:World} {K:PySem.W.Frag} {mg:Str→Option Value} {base:Heap} {P:Hp→Hp→Addr→τ→Prop} {CA:Nat→Addr}
theorem QgF {N:List Str} {F G H:Hp} {a:Addr} {t:τ} {us:List V} {qs:List PV} (h1:Same F H) (h2:Same G H) (h3:∀ b o,G b=some o→F b=none) (h4:P F G a t) (h5:RepL K F qs us):SX K P 0 (minH H G) F F G a (XL N (.ref a :: us)) H (Zp N.length (.opq a :: qs)) t:=by
  have T:SR K H F F (XL N (.ref a :: us)) H (Zp N.length (.opq a :: qs)):=Qco h1 (.cons (by unfold Rep;rfl) h5)
  refine ⟨⟨T.sub,fun b o e => ?_,T.f0,fun b o e => .inl e,T.len,T.fz,fun i xs e => ?_,T.dj⟩,?_,h4,fun b o e => ?_,h3⟩
  · rcases Xz e with z | ⟨_,z⟩
    · exact (minH_l z).1
    · exact h2 b o z
  · obtain ⟨c,vs,k1,k2,k3,k4,k5⟩:=T.ow i xs e
    rw [k5] at k2;cases k2
  · unfold QL Zp
    rfl
  · unfold minH;rw [e]
theorem SX.grown {F G H F' G' H':Hp} {j:Nat} {a:Addr} {σ:St} {γ:PEnv} {t:τ} (S:SX K P j (minH H G) F F' G' a σ H' γ t):GrowX F G H F' G' H':=by
  refine ⟨S.sr.f0,S.sr.sub,fun b o e=>S.sr.base b o (YS (S.db b o e) e),fun b o e n=>S.sr.base b o (Qbs b o (QfN e n)),fun b o e => ?_,fun b o e=>Xs (S.db b o e),S.df⟩
  rcases S.sr.fb b o e with z | z
  · exact .inl z
  · exact .inr ((Xs (Yt z).1).symm)
theorem fnXE {x qual:Str} {st:Stmt} {f:Addr} {fd:FuncData} {N ps:List Str} {k n:Nat} {m:MXE τ} (Fn:Fun K x qual st f fd) (Sc:FnScope N ps (Qe st)) (hn:ps.length=n)
    (hbody:∀ (cdv:Value) (A:Around) (outer:List Env) (s:Shared) (H:Hp) (E:XK),Room k (A.deeper (envOfC qual (Qe st) s.heap.objs.size f cdv)) →
      XRs (cxOf (CX1 P' w) P' w K mg base N qual (Qe st) f cdv A outer s H E) E P 0 CA (Qm st) m):FnOk P' w K mg base (CX1 P' w) (k + 1) f fd ps (spXE K P CA n (Qfs N.length n m)):=by
  refine Fn.okX Sc (fun vs H Q E h=>by rw [h.1,hn]) fun cdv A outer s H vs Q E hr h => ?_
  refine ⟨_,hbody cdv A outer s H E hr,?_⟩
  obtain ⟨hl,F,G,a,t,us,qs,o,rfl,h1,h2,h3,h4,h5,h6,wv⟩:=h
  unfold Qfs at h6
  obtain ⟨_,h6⟩:=Xi h6
  obtain ⟨o1,e1,e2⟩:=Qh h6
  refine ⟨minH H G,F,F,G,a,_,t,o1,QgF h1 h2 h3 h4 h5,e1,?_⟩
  rcases o1 with (⟨γ',t'⟩ | p | xs | ⟨γ',t'⟩ | ⟨γ',t'⟩) | ⟨γ',t',k⟩
  · cases e2
    exact fun σ' H' F' G' S=>wv H' F' G' S.grown S.own
  all_goals first | cases e2;done | skip
  cases e2
  exact fun σ' H' F' G' S=>wv H' F' G' S.grown S.own
end
end L2.PM

noncomputable section
namespace L2.PM
open PySem PySem.Spec PyProof.Rows
section
variable {τ:Type} {X:Cx} {P:Hp→Hp→Addr→τ→Prop} {j:Nat} {CA:Nat→Addr} {st:Stmt} {sts:List Stmt} {e c:Expr} {es:List Expr} {ms:List Nat} {pos p2:Pos}
theorem QhR {m:MXE τ} (h:XME X P j CA st m):XMEs X P j CA [st] m:=pxs_one h
noncomputable def eIf (tt:PEnv→Option Bool) (s1 s2:MXE τ):MXE τ:=fun γ t=>(tt γ).bind fun k=>if k=true then s1 γ t else s2 γ t
theorem xe_if {tt:PEnv→Option Bool} {xs ys:List Stmt} {s1 s2:MXE τ} (hc:TM X ms c tt) (ha:XMEs X P j CA xs s1) (hb:XMEs X P j CA ys s2):XME X P j CA (.If c xs ys pos) (eIf tt s1 s2):=PX.imp (px_if hc ha hb) fun E D σ H ⟨B,F₀,F,G,a,γ,t,o,S,e,ok⟩=>by
  obtain ⟨k,e1,e2⟩:=Qh e
  obtain ⟨F1,S1,x1,er⟩:=S.sr.see ms
  refine ⟨F1,γ,k,S1.sub,er,e1,fun H' F' g => ?_⟩
  cases k with
  | true=>rw [if_pos rfl] at e2 ⊢;exact ⟨B,F₀,F,G,a,γ,t,o,S.same g.same,e2,ok⟩
  | false=>rw [if_neg Bool.false_ne_true] at e2 ⊢;exact ⟨B,F₀,F,G,a,γ,t,o,S.same g.same,e2,ok⟩
noncomputable def XO (j i:Nat) (ms:List Nat) (okm:τ→Bool) (g:Addr→List PV→τ→Option (τ ⊕ (τ×Nat))) (ma:PEnv→Option (List PV)):MXE τ:=fun γ t=>(ma γ).bind fun qs=>(QL γ j).bind fun a=>if okm t=true∧i≠j then (g a qs t).map fun o=>match o with
  | .inl t' => .inl (.nx ((frz ms γ).set i (.fz .non)) t')
  | .inr (t',k) => .inr (frz ms γ,t',k)
  else none
theorem xe_meth {n i:Nat} {C:Addr} {mm:Str} {g:Addr→List PV→τ→Option (τ ⊕ (τ×Nat))} {ma:PEnv→Option (List PV)} {okm:τ→Bool} (mono:QaU P) (hM:HasM P C mm okm) (hn:∀ a qs t t',g a qs t=some t'→qs.length + 1=n)
    (ps:PX X st (fun E D σ H=>tAsg (QhL C mm (spXE X.K P CA n g) [] (E σ) (tVar j) (tMA X.K ms ma)) (QcK i) D σ H)):XME X P j CA st (XO j i ms okm g ma):=PX.imp ps fun E D σ H ⟨B,F₀,F,G,a,γ,t,o,S,e,ok⟩=>by
  obtain ⟨qs,e1,e⟩:=Qh e
  obtain ⟨a',e2,e⟩:=Qh e
  rw [S.at_] at e2
  cases e2
  obtain ⟨⟨hok,hij⟩,e⟩:=Xi e
  obtain ⟨o',e3,rfl⟩:=Yh e
  obtain ⟨dx,fs,w1,w2⟩:=hM _ _ _ _ hok S.own
  obtain ⟨v,hv,rv⟩:=S.sr.fz j _ (Ym S.at_)
  unfold Rep at rv
  subst rv
  have ha:H a=some (.ins C dx fs):=S.sr.base a _ (YS (S.db _ _ w1) w1)
  obtain ⟨F1,S1,x1,er⟩:=S.sr.see ms
  refine ⟨.ref a,hv,a,dx,fs,rfl,ha,w2,F1,γ,qs,S1.sub,er,e1,fun us H' F' gr q => ?_⟩
  dsimp only
  rw [List.append_nil]
  have T:=S1.grow gr
  have hG:Same G H':=fun b o e=>gr.same b o (S.sr.base b o (YS (S.db b o e) e))
  have hat:=Qbu ms S.at_
  have SX1:SX X.K P j B F₀ F' G a σ H' (PM.frz ms γ) t:=S.next mono T (hat.trans S.at_.symm) (x1.trans gr.ext)
  refine ⟨by have:=hn _ _ _ _ e3;rw [List.length_cons,q.length];exact this,F',G,a,t,us,qs,o',rfl,gr.sub,hG,SX1.df,SX1.own,q,e3,?_⟩
  cases o' with
  | inl t' =>
    intro H2 F2 G2 GX hp
    have S2:=SX.called T hat S.db GX hp
    refine ok _ H2 F2 G2 ⟨S2.sr.setFz i (p := .non) (v := .non) (by unfold Rep;rfl),?_,S2.own,S2.db,S2.df⟩
    have:=S2.at_
    unfold QL at this ⊢
    rw [List.getElem?_set_ne hij]
    exact this
  | inr z=>exact fun H2 F2 G2 GX hp=>ok σ H2 F2 G2 (SX.called T hat S.db GX hp)
theorem SR.setUn {K:PySem.W.Frag} {B F₀ F H:Hp} {σ:St} {γ:PEnv} (S:SR K B F₀ F σ H γ) (i:Nat):SR K B F₀ F (σ.set i none) H (γ.set i .un):=by
  have ne:∀ {k:Nat} {x:Slot},(γ.set i .un)[k]?=some x→x ≠ .un→k≠i∧γ[k]?=some x:=fun {k x} e z=>by
    have hk:k≠i:=fun h=>by
      subst h
      rw [List.getElem?_set] at e
      simp at e
      exact z e.2.symm
    rw [List.getElem?_set_ne (Ne.symm hk)] at e
    exact ⟨hk,e⟩
  refine ⟨S.sub,S.base,S.f0,S.fb,by simpa using S.len,fun k p e => ?_,fun k xs e => ?_,fun k l xs ys a hkl e1 e2 e3 => ?_⟩
  · obtain ⟨hk,e⟩:=ne e (by intro h;cases h)
    rw [List.getElem?_set_ne (Ne.symm hk)]
    exact S.fz k p e
  · obtain ⟨hk,e⟩:=ne e (by intro h;cases h)
    rw [List.getElem?_set_ne (Ne.symm hk)]
    exact S.ow k xs e
  · obtain ⟨hk,e1⟩:=ne e1 (by intro h;cases h)
    obtain ⟨hl,e2⟩:=ne e2 (by intro h;cases h)
    rw [List.getElem?_set_ne (Ne.symm hk)] at e3
    rw [List.getElem?_set_ne (Ne.symm hl)]
    exact S.dj k l xs ys a hkl e1 e2 e3
noncomputable def sufK (i:Nat) (o:Option Out):Option PEnv:=match o with
  | some (.nx γ)=>some (γ.set i .un)
  | _=>none
noncomputable def xTry (j i:Nat) (ks:List Nat) (mb:MXE τ) (sm:Nat→Addr→MSt):MX τ:=fun γ t=>(mb γ t).bind fun o=>match o with
  | .inl o=>some o
  | .inr (γ1,t1,k)=>if ks.contains k=true∧i≠j then (allB fun a=>sufK i (sm k a (γ1.set i (.fz (.opq a))))).bind fun γ2=>if QL γ2 j=QL γ1 j then some (.nx γ2 t1) else none else none
theorem xm_try (mono:QaU P) {body suite:List Stmt} {b₀:Stmt} {rest:List ExceptHandler} {i:Nat} {n x:Str} {np hpos:Pos} {D:Addr} {ks:List Nat} {mb:MXE τ} {sm:Nat→Addr→MSt}
    (hst:X.stack=X.env :: X.outer) (hfm:X.env.frame=some X.env.locals) (hb:∀ xe,XMEs (X.wish xe) P j CA body mb) (hs:∀ k a oe,oe.cls = .ref (CA k)→ks.contains k=true→SMs (X.inExc a oe) (b₀ :: suite) (sm k a)) (hks:∀ k,ks.contains k=true→PySem.W.mroIn X.K (CA k) (.ref D)=some true)
    (hg:Gl X x) (hm:X.mg x=some (.ref D)) (hD:XCat X.K D) (hN:X.N.Nodup) (hi:X.N[i]?=some n) (hl:X.env.scope.names.lookup n=some .local) (hdb:(x==("__debug__":Str))=false:=by decide) :
    XM X P j (.Try body (.ExceptHandler (some (.Name x np)) (some n) (b₀ :: suite) hpos :: rest) [] [] pos) (xTry j i ks mb sm):=PS.imp (ps_try (tb:=tMXE X.K P j CA mb) hst hfm hb hg hm hD hN hi hl hdb) fun Ds σ H ⟨B,F₀,F,G,a,γ,t,o,S,e,ok⟩=>by
  obtain ⟨o1,e1,e2⟩:=Qh e
  refine ⟨B,F₀,F,G,a,γ,t,o1,S,e1,?_⟩
  rcases o1 with o1 | ⟨γ1,t1,k⟩
  · cases e2
    exact ok
  · obtain ⟨⟨hk,hij⟩,e2⟩:=Xi e2
    obtain ⟨γ2,e3,e2⟩:=Qh e2
    obtain ⟨hat,rfl⟩:=QD e2
    intro σ' H' F' G' S'
    refine ⟨CA k,rfl,hks k hk,fun ea oe hc=>⟨_,hs k ea oe hc hk,?_⟩⟩
    have e4:=YM e3 ea
    unfold sufK at e4
    split at e4
    · rename_i γ3 e5
      cases e4
      have T:=S'.sr.setFz i (p := .opq ea) (v := .ref ea) (by unfold Rep;rfl)
      have hj:∀ {γ':PEnv} {x:Slot},QL (γ'.set i x) j=QL γ' j:=fun {γ' x}=>by
        unfold QL
        rw [List.getElem?_set_ne hij]
      refine QcS (P:=P) (j:=j) mono ⟨B,F₀,F',G',a,γ1.set i (.fz (.opq ea)),t1,.nx γ3 t1,⟨T,hj.trans S'.at_,S'.own,S'.db,S'.df⟩,?_,fun σ3 H3 F3 G3 S3 => ?_⟩
      · unfold Yo
        rw [e5]
        show (if QL γ3 j=QL (γ1.set i (.fz (.opq ea))) j then _ else _)=_
        rw [if_pos]
        rw [hj]
        rw [hj] at hat
        exact hat
      · exact ok _ H3 F3 G3 ⟨S3.sr.setUn i,hj.trans S3.at_,S3.own,S3.db,S3.df⟩
    · cases e4
noncomputable def mIsE (i:Nat) (a:Addr) (b:Bool):MEx:=fun γ=>match getV γ i with
  | some (.opq a')=>if a'=a then some (.bl b) else none
  | _=>none
structure XIs (K:PySem.W.Frag) (C:Addr) (d:Value) (b:Bool):Prop where
  cl:XCl K C
  one:PySem.W.kitOne K (.ref C) d=some b
theorem Qhh {C:Addr} {d:Value} {b:Bool} {a:Addr} {oe:Obj} {dv:V} (hd:RelV dv d) (hdd:∀ u,RelV dv u→u=d) (hc:oe.cls = .ref C) (h:XIs X.K C d b):Qaa (X.inExc a oe) (.builtin "isinstance") (fun vs H Q=>vs=[.ref a,dv]∧Q (.bl b) H):=by
  intro pins s σ H vs us Q I rs h1
  obtain ⟨rfl,h2⟩:=h1
  obtain ⟨u,w',rfl,ru,rw'⟩:=vals2 rs
  obtain rfl:=hdd _ rw'
  obtain rfl:u=Value.ref a:=ru
  have hp:=(I.pin (a,oe) (List.mem_append_left _ (List.mem_append_right _ (List.mem_singleton.mpr rfl)))).1
  exact PySem.W.kia_one (QgN h.cl) I.kIn ⟨oe,hp,hc⟩ h.one (fun z=>nomatch z) fun tk=>⟨.bl b,H,I.tok tk,rfl,h2⟩
theorem QbE {i:Nat} {C D:Addr} {b:Bool} {a:Addr} {oe:Obj} {x n:Str} {p3 p4:Pos} (hc:oe.cls = .ref C) (h:XIs X.K C (.ref D) b) (he:PE (X.inExc a oe) (.Name n p4) (tVar i)) (hg:Gl X "isinstance") (hm:X.mg "isinstance"=none) (hgT:Gl X x) (hmT:X.mg x=some (.ref D))
    (hdb:(x==("__debug__":Str))=false:=by decide):EM (X.inExc a oe) [i] (.Call (.Name "isinstance" p2) [.Name n p4,.Name x p3] [] pos) (mIsE i a b) :=
  PE.imp (Qcr (Qhh (dv := .ref D) rfl (fun _ z=>z) hc h) hg hm (by kernel_rfl) (YF he (YF (pe_glob (X:=X.inExc a oe) (v := .ref D) hgT hmT rfl hdb) QbA (by rfl)) (by rfl)) (by decide) (by decide) (by rfl) (by rfl)) fun σ H Q ⟨F,γ,r,k1,k2,k3,w⟩=>by
    unfold mIsE at k3
    split at k3
    · rename_i a' hv
      obtain ⟨rfl,rfl⟩:=QD k3
      obtain ⟨v,e1,e2⟩:=k2 i (by simp) _ hv
      unfold Rep at e2
      subst e2
      exact ⟨_,e1,rfl,w.here k1 (Yc _)⟩
    · cases k3
theorem em_isEB {i:Nat} {C:Addr} {T:String} {b:Bool} {a:Addr} {oe:Obj} {x n:Str} {p3 p4:Pos} (hc:oe.cls = .ref C) (h:XIs X.K C (.type T) b) (he:PE (X.inExc a oe) (.Name n p4) (tVar i)) (hg:Gl X "isinstance") (hm:X.mg "isinstance"=none) (hgT:Gl X x) (hmT:X.mg x=none) (hvT:bootBuiltins x=some (.type T))
    (hn:x ≠ "__name__":=by decide) (hdb:(x==("__debug__":Str))=false:=by decide):EM (X.inExc a oe) [i] (.Call (.Name "isinstance" p2) [.Name n p4,.Name x p3] [] pos) (mIsE i a b) :=
  PE.imp (Qcr (Qhh (dv := .ty T) rfl (fun _ z=>z) hc h) hg hm (by kernel_rfl) (YF he (YF (Qio (X:=X.inExc a oe) (v := .ty T) hgT hmT hvT rfl hn hdb) QbA (by rfl)) (by rfl)) (by decide) (by decide) (by rfl) (by rfl)) fun σ H Q ⟨F,γ,r,k1,k2,k3,w⟩=>by
    unfold mIsE at k3
    split at k3
    · rename_i a' hv
      obtain ⟨rfl,rfl⟩:=QD k3
      obtain ⟨v,e1,e2⟩:=k2 i (by simp) _ hv
      unfold Rep at e2
      subst e2
      exact ⟨_,e1,rfl,w.here k1 (Yc _)⟩
    · cases k3
end
end L2.PM

noncomputable section
namespace L2.PM
open PySem PySem.Spec PyProof.Rows
theorem QiM {C:Addr} {km:Str} {t:OT} {b:Addr}:XG C km t b=XG C km t 0:=by
  unfold XG
  cases t.mv <;> rfl
noncomputable def Qjx (C:Addr) (km:Str) (g:Addr→List PV→OT→Option OT) (ma:PEnv→Option (List PV)):MEx:=fun γ=>(ma γ).bind fun qs=>(allB fun a=>g a qs ⟨[],[],none⟩).bind fun t=>some (XG C km t 0)
section
variable {X:Cx} {o e:Expr} {es:List Expr} {sts:List Stmt} {ms ns:List Nat} {m mo:MEx} {ma:PEnv→Option (List PV)} {C:Addr} {f mm km x y:Str} {p p1 p2 p3 pos apos cpos:Pos} {k n j:Nat}
theorem em_newL {g:Addr→List PV→OT→Option OT} (c:QjA X.prog X.w X.K X.mg X.base k C km x n g) (hn:∀ a qs t t',g a qs t=some t'→qs.length + 1=n) (hr:Room (k + 1) X.A) (hg:Gl X x)
    (ha:AM X ms (e :: es) ma) (hdb:(x==("__debug__":Str))=false:=by decide) (he:starEach (e :: es) X.env=(false,eval e X.env) :: starEach es X.env:=by rfl) (hpl:(backTo cpos (starEach es X.env)).any (·.1)=false:=by rfl) :
    EM X ms (.Call (.Name x p) (e :: es) [] cpos) (Qjx C km g ma):=by
  obtain ⟨f,fd,ps,F,M,hm,hbd⟩:=c
  refine PE.imp (Qin (E:=E0) M F hr hg hm hbd .nil Qew ha hdb he hpl) fun σ H Q ⟨F,γ,r,k1,k2,k3,w⟩ => ?_
  obtain ⟨qs,e1,k3⟩:=Qh k3
  obtain ⟨t,e2,e3⟩:=Qh k3
  refine ⟨F,γ,qs,k1,k2,e1,fun us H' F' gr q x dx nx ndx hdx => ?_⟩
  rw [List.append_nil]
  generalize hHn:upd (upd H' dx (.own x)) x (.ins C dx [])=Hn
  generalize hEn:upd (upd (fun _=>none) dx (.own x)) x (HO.ins C dx [])=En
  have sH:Same H' Hn:=fun b u e=>by
    rw [← hHn,Ql (Qo e nx),Ql (Qo e ndx)];exact e
  have Ex:En x=some (.ins C dx []):=by rw [← hEn];exact Qp
  have Ed:En dx=some (.own x):=by rw [← hEn,Ql hdx];exact Qp
  have Eg:∀ b u,En b=some u→b=x∨b=dx:=fun b u e=>by
    by_cases z1:b=x
    · exact .inl z1
    by_cases z2:b=dx
    · exact .inr z2
    rw [← hEn,Ql z1,Ql z2] at e
    cases e
  have sE:Same En Hn:=fun b u e=>by
    rcases Eg b u e with rfl | rfl
    · rw [Ex] at e;cases e;rw [← hHn];exact Qp
    · rw [Ed] at e;cases e;rw [← hHn,Ql hdx];exact Qp
  have nE:∀ b u,H' b=some u→En b=none:=fun b u e=>by
    cases y:En b with
    | none=>rfl
    | some w =>
      rcases Eg b w y with rfl | rfl
      · rw [nx] at e;cases e
      · rw [ndx] at e;cases e
  have Edis:∀ b u,En b=some u→F' b=none:=fun b u e=>by
    cases y:F' b with
    | none=>rfl
    | some w=>rw [nE b w (gr.sub b w y)] at e;cases e
  have hnl:=hn _ _ _ _ (YM e2 x)
  have free:∀ b,H' b=none→H b=none:=fun b e=>by
    cases y:H b with
    | none=>rfl
    | some u=>rw [gr.same b u y] at e;cases e
  have free2:∀ b,(En b≠none∨Hn b=none)→H b=none:=fun b e=>by
    refine free b ?_
    cases y:H' b with
    | none=>rfl
    | some u =>
      rcases e with z | z
      · exact absurd (nE b u y) z
      · rw [sH b u y] at z;cases z
  refine ⟨by rw [List.length_cons,q.length];exact hnl,F',En,x,⟨[],[],none⟩,us,qs,t,rfl,gr.sub.trans sH,sE,Edis,⟨dx,x,[],Ex,Ed,hdx,rfl,trivial,.nil⟩,q,YM e2 x,fun H2 F2 E2 G hp=>⟨rfl,?_⟩⟩
  obtain ⟨b,hb⟩:=QdQ G.dj hp
  obtain rfl:XG C km t 0=r:=Option.some.inj e3
  rw [QiM (b:=b)] at hb
  refine w (.ref x) H2 (orH F2 E2) ⟨fun b u e=>Qbs b u (G.ext b u (gr.ext b u e)),fun b u e => ?_,fun b u e => ?_,fun b u e => ?_⟩ hb
  · rcases Xz e with z | ⟨_,z⟩
    · exact G.sub b u z
    · exact G.esub b u z
  · have:=gr.same b u e
    exact G.same b u (sH b u this) (nE b u this)
  · rcases Xz e with z | ⟨_,z⟩
    · rcases G.new b u z with y | y | y
      · exact gr.new b u y
      · exact .inr (free2 b (.inr y))
      · exact .inr (free2 b (.inl y))
    · exact .inr (free2 b (G.enew b u z))
end
section
variable {τ:Type}
noncomputable def tMXV (K:PySem.W.Frag) (P:Hp→Hp→Addr→τ→Prop) (j:Nat) (m:PEnv→τ→Option (PV×τ)):TS:=fun D σ H=>∃ B F₀ F G a γ t p t',SX K P j B F₀ F G a σ H γ t∧m γ t=some (p,t') ∧
  ∀ v H' F' G',Grow F₀ (orH B G') F' H'→P F' G' a t'→(∀ b o,G' b=some o→B b=none)→(∀ b o,G' b=some o→F' b=none)→Rep K F' p v→D.rt v H'
noncomputable def XVs (X:Cx) (P:Hp→Hp→Addr→τ→Prop) (j:Nat) (sts:List Stmt) (m:PEnv→τ→Option (PV×τ)):Prop:=PSs X sts (tMXV X.K P j m)
variable {X:Cx} {P:Hp→Hp→Addr→τ→Prop} {j:Nat} {st:Stmt} {sts:List Stmt} {e c:Expr} {ms:List Nat} {pos p2:Pos}
noncomputable def vSeq (s1:MX τ) (s2:PEnv→τ→Option (PV×τ)):PEnv→τ→Option (PV×τ):=fun γ t=>(s1 γ t).bind fun o=>match o with
  | .nx γ' t'=>s2 γ' t'
  | _=>none
theorem Qea {s1:MX τ} {s2:PEnv→τ→Option (PV×τ)} (h:XM X P j st s1) (hr:XVs X P j sts s2):XVs X P j (st :: sts) (vSeq s1 s2):=PSs.imp (QaV h hr) fun D σ H ⟨B,F₀,F,G,a,γ,t,p,t',S,e,ok⟩=>by
  obtain ⟨o1,e1,e2⟩:=Qh e
  refine ⟨B,F₀,F,G,a,γ,t,o1,S,e1,?_⟩
  cases o1 with
  | nx γ' t1=>exact fun σ' H' F' G' S'=>⟨B,F₀,F',G',a,γ',t1,p,t',S',e2,ok⟩
  | _=>cases e2
noncomputable def Qfr (m:MSt):PEnv→τ→Option (PV×τ):=fun γ t=>(m γ).bind fun o=>match o with
  | .rt p=>some (p,t)
  | _=>none
theorem xv_post (mono:QaU P) {m:MSt} (h:SMs X sts m):XVs X P j sts (Qfr m):=PSs.imp h fun D σ H ⟨B,F₀,F,G,a,γ,t,p,t',S,e,ok⟩=>by
  obtain ⟨o1,e1,e2⟩:=Qh e
  cases o1 with
  | rt r =>
    cases e2
    refine ⟨orH B G,F,F,γ,.rt p,S.sr.up S.sr.f0 (Same.refl _),e1,fun v H' F' g q => ?_⟩
    refine ok v H' F' G (g.down S.sr.f0 S.sr.fb) (mono _ _ _ _ _ g.ext S.own) S.db (fun b o z => ?_) q
    cases y:F' b with
    | none=>rfl
    | some u =>
      rcases g.new b u y with z1 | z1
      · rw [S.df b o z] at z1;cases z1
      · rw [YS (S.db b o z) z] at z1;cases z1
  | _=>cases e2
noncomputable def spXV (K:PySem.W.Frag) (P:Hp→Hp→Addr→τ→Prop) (n:Nat) (g:Addr→List PV→τ→Option (PV×τ)):Sp:=fun vs H Q _=>vs.length=n∧∃ F G a t us qs p t',vs = .ref a :: us∧Same F H∧Same G H∧(∀ b o,G b=some o→F b=none)∧P F G a t∧RepL K F qs us∧g a qs t=some (p,t') ∧
  ∀ v H' F' G',GrowX F G H F' G' H'→P F' G' a t'→Rep K F' p v→Q v H'
noncomputable def QhO (N n:Nat) (m:PEnv→τ→Option (PV×τ)) (a:Addr) (qs:List PV) (t:τ):Option (PV×τ):=if qs.length + 1=n then m (Zp N (.opq a :: qs)) t else none
theorem QiK {N n:Nat} {m:PEnv→τ→Option (PV×τ)}:∀ a qs t t',QhO N n m a qs t=some t'→qs.length + 1=n:=fun a qs t t' h=>by
  unfold QhO at h
  exact (Xi h).1
variable {P':Program} {w:World} {K:PySem.W.Frag} {mg:Str→Option Value} {base:Heap}
theorem fnXV {x qual:Str} {st:Stmt} {f:Addr} {fd:FuncData} {N ps:List Str} {k n:Nat} {m:PEnv→τ→Option (PV×τ)} (Fn:Fun K x qual st f fd) (Sc:FnScope N ps (Qe st)) (hn:ps.length=n)
    (hbody:∀ (cdv:Value) (A:Around) (outer:List Env) (s:Shared) (H:Hp) (E:XK),Room k (A.deeper (envOfC qual (Qe st) s.heap.objs.size f cdv)) →
      XVs (cxOf CX0 P' w K mg base N qual (Qe st) f cdv A outer s H E).nox P 0 (Qm st) m):FnOk P' w K mg base CX0 (k + 1) f fd ps (spXV K P n (QhO N.length n m)):=by
  refine Fn.ok Sc (fun vs H Q E h=>by rw [h.1,hn]) fun cdv A outer s H vs Q E hr h => ?_
  refine ⟨_,hbody cdv A outer s H E hr,?_⟩
  obtain ⟨hl,F,G,a,t,us,qs,p,t',rfl,h1,h2,h3,h4,h5,h6,wv⟩:=h
  unfold QhO at h6
  obtain ⟨_,h6⟩:=Xi h6
  refine ⟨minH H G,F,F,G,a,_,t,p,t',QgF h1 h2 h3 h4 h5,h6,fun v H' F' G' g hp db df r=>wv v H' F' G' ⟨g.ext,g.sub,fun b o e=>g.same b o (YS (db b o e) e),fun b o e n=>g.same b o (Qbs b o (QfN e n)),fun b o e => ?_,fun b o e=>Xs (db b o e),df⟩ hp r⟩
  rcases g.new b o e with z | z
  · exact .inl z
  · exact .inr ((Xs (Yt z).1).symm)
noncomputable def QeL (j i:Nat) (ms:List Nat) (g:Addr→List PV→τ→Option (PV×τ)) (ma:PEnv→Option (List PV)):MX τ:=fun γ t=>(ma γ).bind fun qs=>(QL γ j).bind fun a=>(g a qs t).bind fun z=>if i≠j then some (.nx ((frz ms γ).set i (.fz z.1)) z.2) else none
theorem xm_callV (mono:QaU P) {n i:Nat} {g:Addr→List PV→τ→Option (PV×τ)} {ma:PEnv→Option (List PV)} (hn:∀ a qs t t',g a qs t=some t'→qs.length + 1=n)
    (ps:PS X st (tAsg (Qjt (spXV X.K P n g) [] E0 (Qgl (tVar j) (tMA X.K ms ma))) (QcK i))):XM X P j st (QeL j i ms g ma):=PS.imp ps fun D σ H ⟨B,F₀,F,G,a,γ,t,o,S,e,ok⟩=>by
  obtain ⟨qs,e1,e⟩:=Qh e
  obtain ⟨a',e2,e⟩:=Qh e
  rw [S.at_] at e2
  cases e2
  obtain ⟨⟨p,t'⟩,e3,e⟩:=Qh e
  obtain ⟨hij,rfl⟩:=QD e
  obtain ⟨v,hv,rv⟩:=S.sr.fz j _ (Ym S.at_)
  unfold Rep at rv
  subst rv
  obtain ⟨F1,S1,x1,er⟩:=S.sr.see ms
  refine ⟨.ref a,hv,F1,γ,qs,S1.sub,er,e1,fun us H' F' gr q => ?_⟩
  dsimp only
  rw [List.append_nil]
  have T:=S1.grow gr
  have hG:Same G H':=fun b o e=>gr.same b o (S.sr.base b o (YS (S.db b o e) e))
  have hat:=Qbu ms S.at_
  have SX1:SX X.K P j B F₀ F' G a σ H' (PM.frz ms γ) t:=S.next mono T (hat.trans S.at_.symm) (x1.trans gr.ext)
  refine ⟨by have:=hn _ _ _ _ e3;rw [List.length_cons,q.length];exact this,F',G,a,t,us,qs,p,t',rfl,gr.sub,hG,SX1.df,SX1.own,q,e3,fun v H2 F2 G2 GX hp r => ?_⟩
  have S2:=SX.called T hat S.db GX hp
  refine ok _ H2 F2 G2 ⟨S2.sr.setFz i r,?_,S2.own,S2.db,S2.df⟩
  have:=S2.at_
  unfold QL at this ⊢
  rw [List.getElem?_set_ne hij]
  exact this
end
noncomputable def spCp (K:PySem.W.Frag) (C:Addr) (km:Str):Sp:=fun vs H Q _=>vs.length=1∧∃ F G a t xs,vs=[.ref a]∧Same G H∧ObjG K C km F G a t∧t.ks.contains km=false∧t.mv=some xs∧∀ c us,H c=none→RepL K F xs us→Q (.ref c) (upd H c (.lst us))
section
variable {X:Cx} {j:Nat} {st:Stmt} {e c:Expr} {ms:List Nat} {pos p2 p3 apos cpos:Pos} {C:Addr} {km x mm:Str} {P':Program} {w:World} {K:PySem.W.Frag} {mg:Str→Option Value} {base:Heap}
theorem fnCp {x qual:Str} {st:Stmt} {f:Addr} {fd:FuncData} {N ps:List Str} {k:Nat} (hc:Cls K C) (hf:Xw K C km) (Fn:Fun K x qual st f fd) (Sc:FnScope N ps (Qe st)) (hn:ps.length=1)
    (hbody:∀ (cdv:Value) (A:Around) (outer:List Env) (s:Shared) (H:Hp) (E:XK),Room k (A.deeper (envOfC qual (Qe st) s.heap.objs.size f cdv)) →
      PSs (cxOf CX0 P' w K mg base N qual (Qe st) f cdv A outer s H E).nox (Qm st) (tRet (tCB (fun xs H Q=>∃ p ys,xs=[.ref p]∧(SqL K H p ys∨SqT K H p ys)∧∀ l,H l=none→Q (.ref l) (upd H l (.lst ys))) (Qgl (tFld K (tVar 0) km) tNil)))) :
    FnOk P' w K mg base CX0 (k + 1) f fd ps (spCp K C km):=by
  refine Fn.ok Sc (fun vs H Q E h=>by rw [h.1,hn]) fun cdv A outer s H vs Q E hr h => ?_
  refine ⟨_,hbody cdv A outer s H E hr,?_⟩
  obtain ⟨hl,F,G,a,t,xs,rfl,h1,⟨dx,b,us,h2,h3,h4,h5,h6,h7⟩,h8,h9,wv⟩:=h
  rw [h9] at h2 h6
  obtain ⟨q1,q2,ws,q3,q4⟩:=h6
  exact ⟨.ref a,rfl,a,C,dx,_,.ref b,rfl,h1 _ _ h2,hc,hf,QcY h8,b,ws,rfl,.inl (.of (h1 _ _ q3)),fun l hl=>wv l ws hl q4⟩
noncomputable def xCp (j i:Nat) (km mm:Str):MX OT:=fun γ t=>match t.mv with
  | some xs=>if t.ks.contains km=false∧okM km mm t=true∧i≠j∧i < γ.length then some (.nx (γ.set i (.ow xs)) t) else none
  | none=>none
theorem xm_cp {i:Nat} (ps:PS X st (tAsg (QhL C mm (spCp X.K C km) [] E0 (tVar j) tNil) (QcK i))):XM X (ObjG X.K C km) j st (xCp j i km mm):=PS.imp ps fun D σ H ⟨B,F₀,F,G,a,γ,t,o,S,e,ok⟩=>by
  unfold xCp at e
  split at e
  · rename_i xs hm
    obtain ⟨⟨c1,c2,hij,hi⟩,rfl⟩:=QD e
    obtain ⟨v,hv,rv⟩:=S.sr.fz j _ (Ym S.at_)
    unfold Rep at rv
    subst rv
    have hG:Same G H:=fun b o e=>S.sr.base b o (YS (S.db b o e) e)
    obtain ⟨dx,fs,w1,w2⟩:=QgR (K:=X.K) (C:=C) (km:=km) (m:=mm) _ _ _ _ c2 S.own
    refine ⟨.ref a,hv,a,dx,fs,rfl,hG _ _ w1,w2,⟨rfl,F,G,a,t,xs,rfl,hG,S.own,c1,hm,fun l us hl r => ?_⟩⟩
    have nB:orH B G l=none:=by
      cases q:orH B G l with
      | none=>rfl
      | some o=>rw [S.sr.base l o q] at hl;cases hl
    have nF:F l=none:=by
      cases q:F l with
      | none=>rfl
      | some o=>rw [S.sr.sub l o q] at hl;cases hl
    have T:SR X.K (orH B G) F₀ F σ (upd H l (.lst us)) γ:=S.sr.same fun b o e=>by rw [Ql (Qo e hl)];exact e
    refine ok _ _ F G ⟨T.setOw i Qp r nF nB fun k ys hk e1 e2 => ?_,?_,S.own,S.db,S.df⟩
    · obtain ⟨d,ts,k1,k2,_⟩:=S.sr.ow k ys e1
      rw [e2] at k1
      cases k1
      rw [hl] at k2;cases k2
    · have:=S.at_
      unfold QL at this ⊢
      rw [List.getElem?_set_ne hij]
      exact this
  · cases e
end
end L2.PM

noncomputable section
namespace L2
open PySem PySem.Spec PyProof.Rows
noncomputable def tPar3 (i j l:Nat) (ta:TA):TS:=fun D σ H=>ta σ H fun vs H1=>∃ v w u,vs=[v,w,u]∧D.nx (((σ.set i (some v)).set j (some w)).set l (some u)) H1
theorem ps_par3 {X:Cx} {pos:Pos} {i j l:Nat} {x y z:Str} {a b c:Expr} {ta:TA} {px py pz pt:Pos} {kt k2 pt2} (hc:X.calm=true) (hN:X.N.Nodup) (hi:X.N[i]?=some x) (hj:X.N[j]?=some y) (hk:X.N[l]?=some z) (hij:i≠j) (hil:i≠l) (hjl:j≠l)
    (hx:X.env.scope.names.lookup x=some .local) (hy:X.env.scope.names.lookup y=some .local) (hz:X.env.scope.names.lookup z=some .local) (ha:PA X [a,b,c] ta)
    (hw:swappedStores [.Tuple [.Name x px,.Name y py,.Name z pz] kt pt] (.Tuple [a,b,c] k2 pt2) X.env=pure (some [x,y,z]))
    (hs:swapsWithSole [.Tuple [.Name x px,.Name y py,.Name z pz] kt pt] (.Tuple [a,b,c] k2 pt2) pos.line X.env=pure false:=by rfl) :
    PS X (.Assign [.Tuple [.Name x px,.Name y py,.Name z pz] kt pt] (.Tuple [a,b,c] k2 pt2) pos) (tPar3 i j l ta):=by
  intro pins s σ H D I h
  rw [exec_Assign_arm];refine wpAny_bind (wpAny_standAt ?_);rw [hs];refine wpAny_bind (wpAny_pure ?_);rw [if_neg (by decide)]
  refine wpAny_bind (Tuple_ (thn (ha _ pins s σ H _ I h) fun us s1 ⟨vs,H1,I1,r1,v,w,u,e1,q1⟩ => ?_))
  subst e1
  obtain ⟨u1,u2,u3,rfl,rv,rw',ru⟩:∃ u1 u2 u3,us=[u1,u2,u3]∧RelV v u1∧RelV w u2∧RelV u u3:=by
    cases r1 with
    | cons p q=>cases q with
      | cons p' q'=>cases q' with
        | cons p2 q2=>cases q2;exact ⟨_,_,_,rfl,p,p',p2⟩
  refine wpAny_newObj_type ?_ (by show 3≤sizeLine;decide)
  have I2:Inv X pins σ H1 { s1 with heap:=s1.heap.push { cls := .type "tuple",data := .seq [u1,u2,u3].toArray } }:=I1.kept (t':=s1.toks) fun b o e=>Heap.get?_push_of_some _ e
  rw [hw];refine wpAny_bind (wpAny_pure ?_)
  show wpAny (model X.prog X.w) X.A (do rule "assign.swapped-stores";let items ← unpackItems (.ref s1.heap.objs.size) 3 none;assignInOrder [fun v=>bindName X.env z v,fun v=>bindName X.env y v,fun v=>bindName X.env x v] items.reverse;pure Flow.next) _ _ _
  refine wpAny_bind (wpAny_rule (wpAny_bind (unpackItems_tuple (items := #[u1,u2,u3]) (I.ok.hd hc) (IsTup.new s1.heap _) fun h' hx' => ?_)))
  have I3:=I2.kept (h':=h') (t':=s1.toks) fun b o e=>hx' b o (Nat.ne_of_lt (Heap.lt_size e)) e
  show wpAny _ _ (assignInOrder [fun v=>bindName X.env z v,fun v=>bindName X.env y v,fun v=>bindName X.env x v] [u3,u2,u1] >>= fun _=>pure Flow.next) _ _ _
  refine wpAny_bind (assignInOrder_cons (wpAny_bindName (Xf I3 hN hk (.inl hz) ru (fun s2 I4 => ?_) (.inr hz))))
  refine assignInOrder_cons (wpAny_bindName (Xf I4 hN hj (.inl hy) rw' (fun s3 I5 => ?_) (.inr hy)))
  refine assignInOrder_cons (wpAny_bindName (Xf I5 hN hi (.inl hx) rv (fun s4 I6=>assignInOrder_nil (wpAny_pure ?_)) (.inr hx)))
  rw [List.set_comm _ _ (Ne.symm hij),List.set_comm (l:=σ) _ _ (Ne.symm hil),List.set_comm _ _ (Ne.symm hjl)] at I6
  exact ⟨_,H1,I6,q1⟩
end L2
namespace L2.PM
open PySem PySem.Spec PyProof.Rows
section
variable {X:Cx} {j n:Nat} {st:Stmt} {sts:List Stmt} {e c:Expr} {es:List Expr} {ms ns:List Nat} {ma:PEnv→Option (List PV)} {m:MEx} {pos p p2 p3 apos cpos:Pos} {C:Addr} {km f x y mm:Str} {k:Nat} {CA:Nat→Addr}
theorem em_pe (h:EM X ms e m):PE X e (tM X.K ms m):=h
noncomputable def sPar3 (i j l:Nat) (m:MEx):MSt:=fun γ=>(m γ).bind fun p=>if flat p=true∧l < γ.length then some (.nx (((γ.set i (.fz p)).set j (.ow [])).set l (.ow []))) else none
theorem sm_par3 {i j l:Nat} (hij:i≠j) (hil:i≠l) (hjl:j≠l) (ps:PS X st (tPar3 i j l (Qgl (tM X.K ms m) (Qgl (tLst tNil) (Qgl (tLst tNil) tNil))))):SM X st (sPar3 i j l m):=PS.imp ps fun D σ H ⟨B,F₀,F,γ,o,S,e,ok⟩=>by
  obtain ⟨p,e1,e2⟩:=Qh e
  obtain ⟨⟨hf,hl⟩,rfl⟩:=QD e2
  obtain ⟨F1,S1,x1,er⟩:=S.see ms
  refine ⟨F1,γ,p,S1.sub,er,e1,fun v H' F' g q=>⟨Nat.zero_le _,fun p1 n1=>⟨Nat.zero_le _,fun p2 n2=>⟨v,.ref p1,.ref p2,rfl,?_⟩⟩⟩⟩
  have T:=(S.same g.same).setFz i (q.flat (F':=F) hf)
  have free:∀ {H2:Hp} {d:Addr},Same H H2→H2 d=none→F d=none∧B d=none:=fun {H2 d} s n=>⟨(S.sub.trans s).free n,(S.base.trans s).free n⟩
  have s1:Same H' (upd H' p1 (.lst [])):=fun b o e=>by rw [Ql (Qo e n1)];exact e
  have s2:Same (upd H' p1 (.lst [])) (upd (upd H' p1 (.lst [])) p2 (.lst [])):=fun b o e=>by rw [Ql (Qo e n2)];exact e
  have nOw:∀ {H2:Hp} {γ2:PEnv} {σ2:St} {d:Addr},SR X.K B F₀ F σ2 H2 γ2→H2 d=none→∀ (k:Nat) ys,γ2[k]?=some (.ow ys)→σ2[k]?≠some (some (.ref d)):=fun {H2 γ2 σ2 d} T n k ys e1 e2=>by
    obtain ⟨a,us,h1,h2,_⟩:=T.ow k ys e1
    rw [e2] at h1;cases h1
    rw [n] at h2;cases h2
  obtain ⟨f1,f2⟩:=free g.same n1
  obtain ⟨f3,f4⟩:=free (g.same.trans s1) n2
  have T1:=(T.same s1).setOw j (xs:=[]) (vs:=[]) (a:=p1) Qp .nil f1 f2 fun k ys _ e1=>nOw T n1 k ys e1
  have T2:=(T1.same s2).setOw l (xs:=[]) (vs:=[]) (a:=p2) Qp .nil f3 f4 fun k ys _ e1=>nOw T1 n2 k ys e1
  exact ok _ _ F T2
noncomputable def QhQ (P:Program) (w:World) (K:PySem.W.Frag) (mg:Str→Option Value) (base:Heap) (k:Nat) (C:Addr) (km m:Str) (n:Nat) (CA:Nat→Addr) (g:Addr→List PV→OT→Option (OT ⊕ (OT×Nat))):Prop :=
  ∃ f fd ps,FnOk P w K mg base (CX1 P w) k f fd ps (spXE K (ObjG K C km) CA n g)∧Cls K C∧Meth K C m f∧YE K fd ps []
noncomputable def CalXV (P:Program) (w:World) (K:PySem.W.Frag) (mg:Str→Option Value) (base:Heap) (k:Nat) (C:Addr) (km x:Str) (n:Nat) (g:Addr→List PV→OT→Option (PV×OT)):Prop :=
  ∃ f fd ps,FnOk P w K mg base CX0 k f fd ps (spXV K (ObjG K C km) n g)∧mg x=some (.ref f)∧PySem.W.keepIn K (.ref f)=true∧YE K fd ps []
noncomputable def CalCp (P:Program) (w:World) (K:PySem.W.Frag) (mg:Str→Option Value) (base:Heap) (k:Nat) (C:Addr) (km m:Str):Prop :=
  ∃ f fd ps,FnOk P w K mg base CX0 k f fd ps (spCp K C km)∧Cls K C∧Meth K C m f∧YE K fd ps []
theorem xe_mt {i:Nat} {pl:Sem Bool} {g:Addr→List PV→OT→Option (OT ⊕ (OT×Nat))} (hN:X.N.Nodup) (hi:X.N[i]?=some y) (hy:Loc X.env.scope y) (hx:PE X (.Name x p2) (tVar j)) (c:QhQ X.prog X.w X.K X.mg X.base k C km mm n CA g) (hn:∀ a qs t t',g a qs t=some t'→qs.length + 1=n) (hr:Room k X.A)
    (ha:AM X ms (e :: es) ma) (hst:starEach (e :: es) X.env=(false,eval e X.env) :: starEach es X.env:=by rfl) (hpl:(backTo cpos (starEach es X.env)).any (·.1)=false:=by rfl)
    (ht:eval (.Call (.Attribute (.Name x p2) mm apos) (e :: es) [] cpos) X.env=(do
      let ov ← eval (.Name x p2) X.env
      standAt apos.atName
      let (f,first) ← holding [ov] (getMethod ov mm pl)
      callWith cpos f first (backTo cpos (starEach (e :: es) X.env)) (backToKw cpos (keywordEach [] X.env))):=by rfl)
    (hs:swapsWith (.Call (.Attribute (.Name x p2) mm apos) (e :: es) [] cpos) (some (.Name y p3)) pos.line X.env=pure false:=by rfl) (hf:X.fn y=true∨X.env.scope.names.lookup y=some .local:=by first | exact .inl rfl | exact .inr rfl | assumption) :
    XME X (ObjG X.K C km) j CA (.Assign [.Name y p3] (.Call (.Attribute (.Name x p2) mm apos) (e :: es) [] cpos) pos) (XO j i ms (okM km mm) g ma):=by
  obtain ⟨f,fd,ps,F,hc,hm,hb⟩:=c
  exact xe_meth (Qr X.K C km) QgR hn (px_set hN hi hy (pxe_meth hx hc hm F hr hb .nil ha hst hpl ht) hs hf)
theorem xm_cv {i:Nat} {g:Addr→List PV→OT→Option (PV×OT)} (hN:X.N.Nodup) (hi:X.N[i]?=some y) (hy:Loc X.env.scope y) (hx:PE X (.Name x p2) (tVar j)) (c:CalXV X.prog X.w X.K X.mg X.base k C km f n g) (hn:∀ a qs t t',g a qs t=some t'→qs.length + 1=n) (hr:Room k X.A) (hg:Gl X f)
    (ha:AM X ms es ma) (hdb:(f==("__debug__":Str))=false:=by decide) (he:starEach (.Name x p2 :: es) X.env=(false,eval (.Name x p2) X.env) :: starEach es X.env:=by rfl) (hpl:(backTo cpos (starEach es X.env)).any (·.1)=false:=by rfl)
    (hs:swapsWith (.Call (.Name f p) (.Name x p2 :: es) [] cpos) (some (.Name y p3)) pos.line X.env=pure false:=by rfl) (hf:X.fn y=true∨X.env.scope.names.lookup y=some .local:=by first | exact .inl rfl | exact .inr rfl | assumption) :
    XM X (ObjG X.K C km) j (.Assign [.Name y p3] (.Call (.Name f p) (.Name x p2 :: es) [] cpos) pos) (QeL j i ms g ma):=by
  obtain ⟨fa,fd,ps,F,hm,hk,hb⟩:=c
  exact xm_callV (Qr X.K C km) hn (Qdy hN hi hy (QfL (E:=E0) F hr hg hm hk hb .nil Qew (YF hx ha he) hdb he hpl) hs hf)
theorem xm_cpy {i:Nat} {pl:Sem Bool} (hN:X.N.Nodup) (hi:X.N[i]?=some y) (hy:Loc X.env.scope y) (hx:PE X (.Name x p2) (tVar j)) (c:CalCp X.prog X.w X.K X.mg X.base k C km mm) (hr:Room k X.A)
    (ht:eval (.Call (.Attribute (.Name x p2) mm apos) [] [] cpos) X.env=(do
      let ov ← eval (.Name x p2) X.env
      standAt apos.atName
      let (f,first) ← holding [ov] (getMethod ov mm pl)
      callWith cpos f first (backTo cpos (starEach [] X.env)) (backToKw cpos (keywordEach [] X.env))):=by rfl)
    (hs:swapsWith (.Call (.Attribute (.Name x p2) mm apos) [] [] cpos) (some (.Name y p3)) pos.line X.env=pure false:=by rfl) (hf:X.fn y=true∨X.env.scope.names.lookup y=some .local:=by first | exact .inl rfl | exact .inr rfl | assumption) :
    XM X (ObjG X.K C km) j (.Assign [.Name y p3] (.Call (.Attribute (.Name x p2) mm apos) [] [] cpos) pos) (xCp j i km mm):=by
  obtain ⟨fa,fd,ps,F,hc,hm,hb⟩:=c
  exact xm_cp (Qdy hN hi hy (QgJ (E:=E0) hx hc hm F hr hb .nil Qew ht) hs hf)
end
noncomputable def exC (l:List Addr) (i:Nat):Addr:=l.getD i 0
theorem Qah {P:Nat→Prop}:∀ k,([]:List Nat).contains k=true→P k:=fun k h=>by simp at h
theorem QC {P:Nat→Prop} {a:Nat} {l:List Nat} (h1:P a) (h2:∀ k,l.contains k=true→P k):∀ k,(a :: l).contains k=true→P k:=fun k h=>by
  rw [List.contains_cons,Bool.or_eq_true] at h
  rcases h with h | h
  · rw [beq_iff_eq.mp h];exact h1
  · exact h2 k h
theorem kit_t {K:PySem.W.Frag} {T C:Addr} (h1:PySem.W.isClsIn K T=true) (h2:PySem.W.typeIn K (.ref T)=some (.type "type")) (h3:PySem.W.mroIn K C (.ref T)=some true):PySem.W.kitOne K (.ref C) (.ref T)=some true:=by
  unfold PySem.W.kitOne
  split
  · rfl
  · show (if ((PySem.W.clsIn K T).isSome&&PySem.W.typeIn K (.ref T)==some (.type "type"))=true then PySem.W.subIn K (.ref C) (.ref T) else none)=_
    rw [if_pos (by rw [h2,show (PySem.W.clsIn K T).isSome=true from h1];decide +kernel)]
    exact h3
theorem YU {K:PySem.W.Frag} {T C:Addr} (h1:PySem.W.isClsIn K T=true) (h2:PySem.W.typeIn K (.ref T)=some (.type "type")) (h3:PySem.W.mroIn K C (.ref T)=some false) (hn:(C==T)=false):PySem.W.kitOne K (.ref C) (.ref T)=some false:=by
  unfold PySem.W.kitOne
  rw [if_neg (fun h=>by
    have:Value.ref C=Value.ref T:=beq_iff_eq.mp h
    cases this
    simp at hn)]
  show (if ((PySem.W.clsIn K T).isSome&&PySem.W.typeIn K (.ref T)==some (.type "type"))=true then PySem.W.subIn K (.ref C) (.ref T) else none)=_
  rw [if_pos (by rw [h2,show (PySem.W.clsIn K T).isSome=true from h1];decide +kernel)]
  exact h3
theorem kit_v {K:PySem.W.Frag} {C:Addr} {T:String} (h1:PySem.W.kitMeta T=true) (h3:PySem.W.mroIn K C (.type T)=some true):PySem.W.kitOne K (.ref C) (.type T)=some true:=by
  unfold PySem.W.kitOne
  rw [if_neg (fun h=>by cases (beq_iff_eq.mp h:Value.ref C=Value.type T))]
  show (if PySem.W.kitMeta T=true then PySem.W.subIn K (.ref C) (.type T) else none)=_
  rw [if_pos h1]
  exact h3
end L2.PM

noncomputable section
namespace L2.PM
open PySem PySem.Spec PyProof.Rows

theorem QhJ {i j:Int} (h1 : -(2 ^ 64) < j) (h2:j < 2 ^ 64):cMul i j=true:=by
  unfold cMul
  rw [Bool.or_eq_true]
  exact .inr (QdG ⟨h1,h2⟩)
theorem Qjr {i j:Int} (h1 : -(2 ^ 64) < i) (h2:i < 2 ^ 64):cMul i j=true:=by
  unfold cMul
  rw [Bool.or_eq_true]
  exact .inl (QdG ⟨h1,h2⟩)
theorem pAdd_i (i j:Int):pAdd (.int i) (.int j)=some (.int (i + j)):=rfl
theorem pSub_i (i j:Int):pSub (.int i) (.int j)=some (.int (i - j)):=rfl
theorem pMul_l {i j:Int} (h1 : -(2 ^ 64) < i) (h2:i < 2 ^ 64):pMul (.int i) (.int j)=some (.int (i * j)):=if_pos (Qjr h1 h2)
theorem pMul_r {i j:Int} (h1 : -(2 ^ 64) < j) (h2:j < 2 ^ 64):pMul (.int i) (.int j)=some (.int (i * j)):=if_pos (QhJ h1 h2)
theorem pMod_i {i j:Int} (h:0 < j):pMod (.int i) (.int j)=some (.int (i % j)):=if_pos (decide_eq_true h)
theorem pDiv_i {i j:Int} (h:0 < j) (h2:j < 2 ^ 200):pDiv (.int i) (.int j)=some (.int (i / j)):=if_pos (QdG ⟨h,h2⟩)
theorem pLt_i (i j:Int):pLt (.int i) (.int j)=some (.bl (decide (i < j))):=rfl
theorem pLe_i (i j:Int):pLe (.int i) (.int j)=some (.bl (decide (i≤j))):=rfl
theorem pGt_i (i j:Int):pGt (.int i) (.int j)=some (.bl (decide (j < i))):=rfl
theorem pAnd_i (i j:Int):pAnd (.int i) (.int j)=some (.int (Builtin.bitAnd i j)):=rfl
theorem pOr_i (i j:Int):pOr (.int i) (.int j)=some (.int (Builtin.bitOr i j)):=rfl
theorem pShl_one {k:Int} (h0:0≤k) (h1:k≤1000000):pShl (.int 1) (.int k)=some (.int (2 ^ k.toNat)):=by
  have e:pShl (.int 1) (.int k)=some (.int (1 * 2 ^ k.toNat)):=if_pos (QdG ⟨h0,h1,by decide⟩)
  rw [e,Int.one_mul]
theorem pShr_i {i k:Int} (h0:0≤k):pShr (.int i) (.int k)=some (.int (i / 2 ^ k.toNat)):=if_pos (decide_eq_true h0)
theorem Qbv (i:Int):okv (.int i)=true:=by simp [okv,dep,okS]
theorem okv_bl (i:Bool):okv (.bl i)=true:=by simp [okv,dep,okS]
theorem Qeg {s:Str} (h:PyData.strOk s=true):okv (.str s)=true:=by simp [okv,dep,okS,h]
theorem QdA {p q:PV} (h1:okv p=true) (h2:okv q=true):pEq p q=some (.bl (peq p q)):=if_pos ⟨h1,h2⟩
theorem pNe_ok {p q:PV} (h1:okv p=true) (h2:okv q=true):pNe p q=some (.bl (!peq p q)):=if_pos ⟨h1,h2⟩
theorem pEq_i (i j:Int):pEq (.int i) (.int j)=some (.bl (i==j)):=by rw [QdA (Qbv i) (Qbv j)];rfl
theorem pNe_i (i j:Int):pNe (.int i) (.int j)=some (.bl (!(i==j))):=by rw [pNe_ok (Qbv i) (Qbv j)];rfl
theorem pIs_non (p:PV):pIs p .non=some (.bl (isN p)):=by cases p <;> rfl
theorem pIsNot_non (p:PV):Qdz p .non=some (.bl (!isN p)):=by cases p <;> rfl
theorem Qcj {n:Nat} (h:n≤100000):n≤LIM:=Nat.le_trans h (by decide)
theorem lt_lim {n:Nat} (h:n≤100000):n < LIM:=Nat.lt_of_le_of_lt h (by decide)
theorem keepE_true (ms:List Nat) (γ:PEnv):Xb true ms γ=γ:=rfl
theorem keepE_false (ms:List Nat) (γ:PEnv):Xb false ms γ=frz ms γ:=rfl
theorem flat_int (i:Int):flat (.int i)=true:=rfl
theorem flat_bl (i:Bool):flat (.bl i)=true:=rfl
theorem flat_str (i:Str):flat (.str i)=true:=rfl
theorem flat_non:flat .non=true:=rfl
theorem flat_tup (i:List PV):flat (.tup i)=false:=rfl
theorem flat_lst (i:List PV):flat (.lst i)=false:=rfl
theorem allflat_ints (ns:List Int):(ns.map PV.int).all flat=true:=by simp [flat]
theorem allflat_strs (ns:List Str):(ns.map PV.str).all flat=true:=by simp [flat]
theorem pIx_lst (xs:List PV) (i:Int):pIx (.lst xs) (.int i)=atI xs i:=rfl
theorem pIx_tup (xs:List PV) (i:Int):pIx (.tup xs) (.int i)=atI xs i:=rfl

theorem Qer {α:Type} {g:PV→PEnv→Option PEnv} {t:PEnv→Option Bool} {e:MEx} {γ:PEnv} (f:α→PV) (b:α→Bool) (y:α→PV) :
    ∀ (xs:List α),(∀ x∈xs,∃ γ1,g (f x) γ=some γ1∧t γ1=some (b x)∧(b x=true→e γ1=some (y x)))→XZ g t e γ (xs.map f)=some ((xs.filter b).map y)
  | [],_=>rfl
  | x :: xs,h=>by
    obtain ⟨γ1,h1,h2,h3⟩:=h x List.mem_cons_self
    have ih:=Qer f b y xs fun z hz=>h z (List.mem_cons_of_mem _ hz)
    rw [List.map_cons,XZ,h1,Option.bind_some,h2,Option.bind_some]
    cases hb:b x with
    | true =>
      rw [if_pos rfl,h3 hb,Option.bind_some,ih,List.filter_cons_of_pos hb]
      rfl
    | false =>
      rw [if_neg Bool.false_ne_true,ih,List.filter_cons_of_neg (by simp [hb])]
theorem Qbd {α:Type} {g:PV→PEnv→Option PEnv} {e:MEx} {γ:PEnv} (f:α→PV) (y:α→PV) (xs:List α) (h:∀ x∈xs,∃ γ1,g (f x) γ=some γ1∧e γ1=some (y x)):XZ g Qdv e γ (xs.map f)=some (xs.map y):=by
  have:=Qer (g:=g) (t:=Qdv) (e:=e) (γ:=γ) f (fun _=>true) y xs fun x hx=>by
    obtain ⟨γ1,h1,h2⟩:=h x hx
    exact ⟨γ1,h1,rfl,fun _=>h2⟩
  rw [this,List.filter_eq_self.mpr (fun _ _=>rfl)]
theorem QgV {α β:Type} {g:PV→PEnv→Option PEnv} {b:MSt} (f:α→PV) (step:β→α→β) (R:β→PEnv→Prop) :
    ∀ (xs:List α) (acc:β) (γ:PEnv),R acc γ→(∀ acc γ x,x∈xs→R acc γ→∃ γ1 γ2,g (f x) γ=some γ1∧b γ1=some (.nx γ2)∧R (step acc x) γ2)→∃ γ',forL g b (xs.map f) γ=some (.nx γ')∧R (xs.foldl step acc) γ'
  | [],acc,γ,r,_=>⟨γ,rfl,r⟩
  | x :: xs,acc,γ,r,h=>by
    obtain ⟨γ1,γ2,h1,h2,h3⟩:=h acc γ x List.mem_cons_self r
    obtain ⟨γ',e,r'⟩:=QgV f step R xs (step acc x) γ2 h3 fun a γ z hz=>h a γ z (List.mem_cons_of_mem _ hz)
    refine ⟨γ',?_,r'⟩
    rw [List.map_cons,forL,h1,Option.bind_some,h2,Option.bind_some]
    exact e
theorem XE {α:Type} {g:PV→PEnv→Option PEnv} {b:MSt} (f:α→PV) (R:List α→PEnv→Prop) (xs:List α) :
    ∀ (ys pre:List α) (γ:PEnv),pre++ys=xs→R pre γ→(∀ pre x post γ,pre++x :: post=xs→R pre γ→∃ γ1 γ2,g (f x) γ=some γ1∧b γ1=some (.nx γ2)∧R (pre++[x]) γ2)→∃ γ',forL g b (ys.map f) γ=some (.nx γ')∧R xs γ'
  | [],pre,γ,e,r,_=>by
    rw [List.append_nil] at e
    subst e
    exact ⟨γ,rfl,r⟩
  | x :: ys,pre,γ,e,r,h=>by
    obtain ⟨γ1,γ2,h1,h2,h3⟩:=h pre x ys γ e r
    obtain ⟨γ',e',r'⟩:=XE f R xs ys (pre++[x]) γ2 (by rw [List.append_assoc];exact e) h3 h
    refine ⟨γ',?_,r'⟩
    rw [List.map_cons,forL,h1,Option.bind_some,h2,Option.bind_some]
    exact e'
end L2.PM

noncomputable section
namespace L2.PM
open PySem PySem.Spec PyProof.Rows
noncomputable def pw (row:List Nat):Nat:=(row.map fun i=>2 ^ i).sum
noncomputable def bitsN (m:Nat):Nat:=if m=0 then 0 else m.log2 + 1
noncomputable def plN (m:Nat):List Nat:=(List.range (bitsN m)).filter fun k=>m.testBit k
theorem Qfw {m k:Nat} (h:m.testBit k=true):k < bitsN m:=by
  have h1:2 ^ k≤m:=Nat.ge_two_pow_of_testBit h
  have h0:m≠0:=by
    rintro rfl
    simp at h
  unfold bitsN
  rw [if_neg h0]
  have:=(Nat.le_log2 h0).mpr h1
  omega
theorem mem_plN {m k:Nat}:k∈plN m↔m.testBit k=true:=by
  unfold plN
  rw [List.mem_filter,List.mem_range]
  exact ⟨fun h=>h.2,fun h=>⟨Qfw h,h⟩⟩
theorem pw_lt:∀ (row:List Nat) (y:Nat),row.Pairwise (· < ·)→(∀ x∈row,x < y)→pw row < 2 ^ y:=by
  intro row
  -- from the end
  have key:∀ (n:Nat) (row:List Nat) (y:Nat),row.length=n→row.Pairwise (· < ·)→(∀ x∈row,x < y)→pw row < 2 ^ y:=by
    intro n
    induction n with
    | zero =>
      intro row y hl _ _
      rw [List.length_eq_zero_iff.mp hl]
      exact Nat.two_pow_pos y
    | succ n ih =>
      intro row y hl hp hy
      obtain ⟨xs,z,rfl⟩:∃ xs z,row=xs++[z]:=by
        have hne:row≠[]:=by intro e;rw [e] at hl;simp at hl
        exact ⟨row.dropLast,row.getLast hne,(List.dropLast_concat_getLast hne).symm⟩
      rw [List.pairwise_append] at hp
      have h1:=ih xs z (by simpa using hl) hp.1 fun x hx=>hp.2.2 x hx z (by simp)
      have hz:z < y:=hy z (by simp)
      have e:pw (xs++[z])=pw xs + 2 ^ z:=by simp [pw]
      rw [e]
      have h2:2 ^ (z + 1)≤2 ^ y:=Nat.pow_le_pow_right (by decide) hz
      rw [Nat.pow_succ] at h2
      omega
  exact fun y=>key row.length row y rfl
theorem Qhr:∀ (row:List Nat) (k:Nat),row.Pairwise (· < ·)→((pw row).testBit k=true↔k∈row):=by
  have key:∀ (n:Nat) (row:List Nat) (k:Nat),row.length=n→row.Pairwise (· < ·)→((pw row).testBit k=true↔k∈row):=by
    intro n
    induction n with
    | zero =>
      intro row k hl _
      rw [List.length_eq_zero_iff.mp hl]
      simp [pw]
    | succ n ih =>
      intro row k hl hp
      obtain ⟨xs,z,rfl⟩:∃ xs z,row=xs++[z]:=by
        have hne:row≠[]:=by intro e;rw [e] at hl;simp at hl
        exact ⟨row.dropLast,row.getLast hne,(List.dropLast_concat_getLast hne).symm⟩
      rw [List.pairwise_append] at hp
      have hlt:∀ x∈xs,x < z:=fun x hx=>hp.2.2 x hx z (by simp)
      have ih':=ih xs k (by simpa using hl) hp.1
      have e:pw (xs++[z])=2 ^ z + pw xs:=by simp [pw];omega
      have hs:=pw_lt xs z hp.1 hlt
      rw [e]
      rcases Nat.lt_trichotomy k z with h | h | h
      · rw [Nat.testBit_two_pow_add_gt h,ih']
        simp
        intro hk;omega
      · subst h
        rw [Nat.testBit_two_pow_add_eq,Nat.testBit_lt_two_pow hs]
        simp
      · have:2 ^ z + pw xs < 2 ^ k:=by
          have h2:2 ^ (z + 1)≤2 ^ k:=Nat.pow_le_pow_right (by decide) h
          rw [Nat.pow_succ] at h2
          omega
        rw [Nat.testBit_lt_two_pow this]
        simp
        exact ⟨fun hk=>by have:=hlt k hk;omega,by omega⟩
  exact fun row k=>key row.length row k rfl
theorem Qgx (m:Nat):Builtin.Int.intBits (m:Int)=bitsN m:=by
  unfold Builtin.Int.intBits bitsN
  by_cases h:m=0
  · subst h;rfl
  · rw [if_neg h,if_neg (by simpa using h)]
    simp
theorem QiO (m:Nat):Qgo (.int (m:Int)) []=some (.int (bitsN m:Nat)):=by
  have e:=Qgx m
  show some (PV.int ((Builtin.Int.intBits (m:Int):Nat):Int))=_
  rw [e]
end L2.PM

noncomputable section
namespace L2.PM
open PySem PySem.Spec PyProof.Rows

theorem rngL_0 (j:Int):rngL 0 j=(List.range j.toNat).map fun (k:Nat)=>PV.int k:=by
  unfold rngL
  rw [show (j - 0)=j by omega]
  exact List.map_congr_left fun k _=>by simp
noncomputable def rg1:PV→Option (List PV)
  | .int j=>if rOk j=true then some (rngL 0 j) else none
  | _=>none
theorem rg1_i {j:Int} (h1 : -100000≤j) (h2:j≤100000):rg1 (.int j)=some ((List.range j.toNat).map fun (k:Nat)=>PV.int k):=by
  have e:rg1 (.int j)=if rOk j=true then some (rngL 0 j) else none:=rfl
  rw [e,if_pos (rOk_of (by omega) (by omega)),rngL_0]
theorem ev_iRg1 (m:MEx) (γ:PEnv):iRg1 m γ=(m γ).bind rg1:=by
  unfold iRg1
  cases m γ with
  | none=>rfl
  | some p=>cases p <;> rfl
noncomputable def itL:PV→Option (List PV)
  | .lst xs=>some xs
  | _=>none
theorem itL_l (xs:List PV):itL (.lst xs)=some xs:=rfl
theorem ev_iLst (m:MEx) (γ:PEnv):iLst m γ=(m γ).bind itL:=by
  unfold iLst
  cases m γ with
  | none=>rfl
  | some p=>cases p <;> rfl
noncomputable def itT:PV→Option (List PV)
  | .tup xs=>some xs
  | _=>none
theorem itT_t (xs:List PV):itT (.tup xs)=some xs:=rfl
theorem ev_iTpl (m:MEx) (γ:PEnv):iTpl m γ=(m γ).bind itT:=by
  unfold iTpl
  cases m γ with
  | none=>rfl
  | some p=>cases p <;> rfl
noncomputable def itS:PV→Option (List PV)
  | .lst xs=>some xs
  | .tup xs=>some xs
  | _=>none
theorem itS_l (xs:List PV):itS (.lst xs)=some xs:=rfl
theorem itS_t (xs:List PV):itS (.tup xs)=some xs:=rfl
theorem ev_iSeq (m:MEx) (γ:PEnv):iSeq m γ=(m γ).bind itS:=by
  unfold iSeq
  cases m γ with
  | none=>rfl
  | some p=>cases p <;> rfl
theorem pEnum_l (xs:List PV):pEnumL [.lst xs]=some (xs.zipIdx.map fun x => .tup [pN x.2,x.1]):=rfl
theorem pEnum_t (xs:List PV):QeQ [.tup xs]=some (xs.zipIdx.map fun x => .tup [pN x.2,x.1]):=rfl
noncomputable def cmpK (g:PV→PEnv→Option PEnv) (t:PEnv→Option Bool) (e:MEx) (γ:PEnv) (xs:List PV):Option (List PV):=if xs.length≤LIM then XZ g t e γ xs else none
theorem cmpK_ok {g:PV→PEnv→Option PEnv} {t:PEnv→Option Bool} {e:MEx} {γ:PEnv} {xs:List PV} (h:xs.length≤100000):cmpK g t e γ xs=XZ g t e γ xs:=if_pos (Qcj h)
theorem ev_mComp (mi:PEnv→Option (List PV)) (nt:Nat) (caps:List Nat) (g:PV→PEnv→Option PEnv) (t:PEnv→Option Bool) (e:MEx) (γ:PEnv):XY mi nt caps g t e γ=(mi γ).bind (cmpK g t e (blkG nt caps γ)):=rfl
noncomputable def seqK (s2:MSt):Out→Option Out
  | .nx γ=>s2 γ
  | o=>some o
theorem seqK_nx (s2:MSt) (γ:PEnv):seqK s2 (.nx γ)=s2 γ:=rfl
theorem seqK_rt (s2:MSt) (p:PV):seqK s2 (.rt p)=some (.rt p):=rfl
theorem seqK_ro (s2:MSt) (p:List PV):seqK s2 (.ro p)=some (.ro p):=rfl
theorem seqK_ct (s2:MSt) (γ:PEnv):seqK s2 (.ct γ)=some (.ct γ):=rfl
theorem seqK_bk (s2:MSt) (γ:PEnv):seqK s2 (.bk γ)=some (.bk γ):=rfl
theorem ev_sSeq (s1 s2:MSt) (γ:PEnv):sSeq s1 s2 γ=(s1 γ).bind (seqK s2):=by
  unfold sSeq
  cases s1 γ with
  | none=>rfl
  | some o=>cases o <;> rfl
theorem ev_startG1 (N:Nat) (ps:List PV):Zp N ps=ps.map .fz++List.replicate (N - ps.length) .un:=rfl
theorem outV_rt (p:PV):outV (.rt p)=some p:=rfl
theorem outV_ro (xs:List PV):outV (.ro xs)=some (.lst xs):=rfl
theorem outV_nx (γ:PEnv):outV (.nx γ)=some .non:=rfl
theorem ev_bin2 {α:Type} (f:PV→PV→Option α) (m1 m2:MEx) (γ:PEnv):bin2 f m1 m2 γ=(m1 γ).bind fun x=>(m2 γ).bind (f x):=rfl
theorem ev_mVar (i:Nat) (γ:PEnv):mVar i γ=getV γ i:=rfl
theorem ev_mC (p:PV) (γ:PEnv):mC p γ=some p:=rfl
theorem ev_mCall {α:Type} (g:List PV→Option α) (ma:PEnv→Option (List PV)) (γ:PEnv):Qn g ma γ=(ma γ).bind g:=rfl
theorem ev_mLst (m:PEnv→Option (List PV)) (γ:PEnv):mLst m γ=(m γ).map PV.lst:=rfl
noncomputable def tupK (xs:List PV):Option PV:=if xs.length≤LIM then some (.tup xs) else none
theorem tupK_ok {xs:List PV} (h:xs.length≤100000):tupK xs=some (.tup xs):=if_pos (Qcj h)
theorem ev_mTup (m:PEnv→Option (List PV)) (γ:PEnv):mTup m γ=(m γ).bind tupK:=rfl
noncomputable def limK (xs:List PV):Option (List PV):=if xs.length≤LIM then some xs else none
theorem limK_ok {xs:List PV} (h:xs.length≤100000):limK xs=some xs:=if_pos (Qcj h)
theorem ev_mLim (m:PEnv→Option (List PV)) (γ:PEnv):mLim m γ=(m γ).bind limK:=rfl
theorem ev_aNil (γ:PEnv):aNil γ=some []:=rfl
theorem ev_aCons (m:MEx) (ma:PEnv→Option (List PV)) (γ:PEnv):Qc m ma γ=(m γ).bind fun x=>(ma γ).map (x :: ·):=rfl
theorem isB_bl (b:Bool):isB (.bl b)=some b:=rfl
theorem ev_truB (m:MEx) (γ:PEnv):truB m γ=(m γ).bind isB:=rfl
theorem ev_mIsi (f:PV→Bool) (m:MEx) (γ:PEnv):mIsi f m γ=(m γ).bind (isiK f):=rfl
theorem isiK_i (f:PV→Bool) (i:Int):isiK f (.int i)=some (.bl (f (.int i))):=rfl
theorem isiK_b (f:PV→Bool) (i:Bool):isiK f (.bl i)=some (.bl (f (.bl i))):=rfl
theorem isiK_s (f:PV→Bool) (i:Str):isiK f (.str i)=some (.bl (f (.str i))):=rfl
theorem isiK_t (f:PV→Bool) (i:List PV):isiK f (.tup i)=some (.bl (f (.tup i))):=rfl
theorem isiK_l (f:PV→Bool) (i:List PV):isiK f (.lst i)=some (.bl (f (.lst i))):=rfl
theorem isiK_0 (f:PV→Bool):isiK f .non=some (.bl (f .non)):=rfl
theorem isiK_n (f:PV→Bool) (i:Nat):isiK f (pN i)=some (.bl (f (pN i))):=rfl
theorem getV_0 (s:Slot) (γ:PEnv):getV (s :: γ) 0=s.val:=rfl
theorem getV_s (s:Slot) (γ:PEnv) (i:Nat):getV (s :: γ) (i + 1)=getV γ i:=rfl
theorem val_fz (p:PV):(Slot.fz p).val=some p:=rfl
theorem val_ow (p:List PV):(Slot.ow p).val=some (.lst p):=rfl
noncomputable def keep (k:Bool) (ms:List Nat) (γ:PEnv):PEnv:=Xb k ms γ
theorem ev_sRet (m:MEx) (γ:PEnv):sRet m γ=(m γ).map .rt:=rfl
theorem ev_sRetO (m:PEnv→Option (List PV)) (γ:PEnv):Qju m γ=(m γ).map .ro:=rfl
noncomputable def retS:Option Slot→Option Out
  | some (.ow xs)=>some (.ro xs)
  | some (.fz p)=>some (.rt p)
  | _=>none
theorem retS_ow (xs:List PV):retS (some (.ow xs))=some (.ro xs):=rfl
theorem retS_fz (p:PV):retS (some (.fz p))=some (.rt p):=rfl
theorem ev_sRetV (i:Nat) (γ:PEnv):QcH i γ=retS γ[i]?:=by
  unfold QcH
  cases γ[i]? with
  | none=>rfl
  | some s=>cases s <;> rfl
noncomputable def ifK (s1 s2:MSt) (γ:PEnv) (k:Bool):Option Out:=if k=true then s1 γ else s2 γ
theorem ifK_t (s1 s2:MSt) (γ:PEnv):ifK s1 s2 γ true=s1 γ:=rfl
theorem ifK_f (s1 s2:MSt) (γ:PEnv):ifK s1 s2 γ false=s2 γ:=rfl
theorem ev_sIf (t:PEnv→Option Bool) (s1 s2:MSt) (γ:PEnv):sIf t s1 s2 γ=(t γ).bind (ifK s1 s2 γ):=rfl
theorem ev_sNx (γ:PEnv):sNx γ=some (.nx γ):=rfl
theorem ev_sBk (γ:PEnv):sBk γ=some (.bk γ):=rfl
theorem ev_sCt (γ:PEnv):sCt γ=some (.ct γ):=rfl
theorem ev_sSet (ms:List Nat) (i:Nat) (m:MEx) (γ:PEnv):sSet ms i m γ=(m γ).map fun r => .nx ((Xb (flat r) ms γ).set i (.fz r)):=rfl
theorem ev_sSetO (ms:List Nat) (i:Nat) (m:PEnv→Option (List PV)) (γ:PEnv):XF ms i m γ=(m γ).map fun xs => .nx ((Xb (xs.all flat) ms γ).set i (.ow xs)):=rfl
noncomputable def augK (i:Nat) (γ:PEnv) (r:PV):Option Out:=if flat r=true then some (.nx (γ.set i (.fz r))) else none
theorem augK_i (i:Nat) (γ:PEnv) (r:Int):augK i γ (.int r)=some (.nx (γ.set i (.fz (.int r)))):=rfl
theorem ev_sAug (i:Nat) (f:PV→PV→Option PV) (m:MEx) (γ:PEnv):sAug i f m γ=(getV γ i).bind fun x=>(m γ).bind fun y=>(f x y).bind (augK i γ):=rfl
theorem ev_gSet (i:Nat) (p:PV) (γ:PEnv):gSet i p γ=some (γ.set i (.fz p)):=rfl
theorem gSet2_t (i j:Nat) (x y:PV) (γ:PEnv):Qez i j (.tup [x,y]) γ=some ((γ.set i (.fz x)).set j (.fz y)):=rfl
theorem gSet3_t (i j k:Nat) (x y z:PV) (γ:PEnv):gSet3 i j k (.tup [x,y,z]) γ=some (((γ.set i (.fz x)).set j (.fz y)).set k (.fz z)):=rfl
noncomputable def appK (ms:List Nat) (i:Nat) (γ:PEnv) (r:PV):Option Slot→Option Out
  | some (.ow xs)=>if xs.length < LIM∧(flat r || !ms.contains i)=true then some (.nx ((Xb (flat r) ms γ).set i (.ow (xs++[r])))) else none
  | _=>none
theorem YQ {ms:List Nat} {i:Nat} {γ:PEnv} {r:PV} {xs:List PV} (h:xs.length≤100000) (h2:(flat r || !ms.contains i)=true):appK ms i γ r (some (.ow xs))=some (.nx ((Xb (flat r) ms γ).set i (.ow (xs++[r])))):=if_pos ⟨lt_lim h,h2⟩
theorem ev_sApp (ms:List Nat) (i:Nat) (m:MEx) (γ:PEnv):sApp ms i m γ=(m γ).bind fun r=>appK ms i γ r γ[i]?:=by
  unfold sApp
  cases γ[i]? with
  | none=>cases m γ <;> rfl
  | some s =>
    cases s with
    | ow xs=>rfl
    | _=>cases m γ <;> rfl
theorem ev_sFor (ms:List Nat) (mi:PEnv→Option (List PV)) (g:PV→PEnv→Option PEnv) (b:MSt) (γ:PEnv):sFor ms mi g b γ=(mi γ).bind fun xs=>forL g b xs (frz ms γ):=rfl
theorem ev_sForR (mi:PEnv→Option (List PV)) (g:PV→PEnv→Option PEnv) (b:MSt) (γ:PEnv):QhN mi g b γ=(mi γ).bind fun xs=>forL g b xs γ:=rfl
noncomputable def capO:Option PV→Slot
  | some p => .fz p
  | none => .un
theorem capO_s (p:PV):capO (some p) = .fz p:=rfl
theorem ev_capS (γ:PEnv) (j:Nat):capS γ j=capO (getV γ j):=by
  unfold capS
  cases getV γ j <;> rfl
theorem ev_blkG (nt:Nat) (caps:List Nat) (γ:PEnv):blkG nt caps γ=List.replicate nt .un++caps.map (capS γ):=rfl
theorem ev_tYesM (γ:PEnv):Qdv γ=some true:=rfl
theorem ev_mTru (m:MEx) (γ:PEnv):mTru m γ=(m γ).bind tru:=rfl
theorem tru_i (i:Int):tru (.int i)=some (i != 0):=rfl
theorem tru_b (i:Bool):tru (.bl i)=some i:=rfl
theorem tru_l (i:List PV):tru (.lst i)=some (!i.isEmpty):=rfl
theorem tru_t (i:List PV):tru (.tup i)=some (!i.isEmpty):=rfl
noncomputable def andK (t2:PEnv→Option Bool) (γ:PEnv) (x:Bool):Option Bool:=if x=true then t2 γ else some false
theorem andK_t (t2:PEnv→Option Bool) (γ:PEnv):andK t2 γ true=t2 γ:=rfl
theorem andK_f (t2:PEnv→Option Bool) (γ:PEnv):andK t2 γ false=some false:=rfl
theorem ev_bAnd (t1 t2:PEnv→Option Bool) (γ:PEnv):bAnd t1 t2 γ=(t1 γ).bind (andK t2 γ):=rfl
noncomputable def orK (t2:PEnv→Option Bool) (γ:PEnv) (x:Bool):Option Bool:=if x=true then some true else t2 γ
theorem orK_t (t2:PEnv→Option Bool) (γ:PEnv):orK t2 γ true=some true:=rfl
theorem orK_f (t2:PEnv→Option Bool) (γ:PEnv):orK t2 γ false=t2 γ:=rfl
theorem ev_bOr (t1 t2:PEnv→Option Bool) (γ:PEnv):bOr t1 t2 γ=(t1 γ).bind (orK t2 γ):=rfl
theorem ev_bNot (t1:PEnv→Option Bool) (γ:PEnv):bNot t1 γ=(t1 γ).map not:=rfl
noncomputable def vAndK (m2:MEx) (γ:PEnv) (k:Bool):Option PV:=if k=true then m2 γ else some (.bl false)
theorem vAndK_t (m2:MEx) (γ:PEnv):vAndK m2 γ true=m2 γ:=rfl
theorem vAndK_f (m2:MEx) (γ:PEnv):vAndK m2 γ false=some (.bl false):=rfl
theorem ev_vAnd (m1 m2:MEx) (γ:PEnv):vAnd m1 m2 γ=(m1 γ).bind fun x=>(isB x).bind (vAndK m2 γ):=rfl
theorem ev_vNot (m1:MEx) (γ:PEnv):vNot m1 γ=(m1 γ).bind fun x=>(isB x).map fun k => .bl (!k):=rfl
noncomputable def ifEK (m1 m2:MEx) (γ:PEnv) (k:Bool):Option PV:=if k=true then m1 γ else m2 γ
theorem ifEK_t (m1 m2:MEx) (γ:PEnv):ifEK m1 m2 γ true=m1 γ:=rfl
theorem ifEK_f (m1 m2:MEx) (γ:PEnv):ifEK m1 m2 γ false=m2 γ:=rfl
theorem ev_mIfE (t:PEnv→Option Bool) (m1 m2:MEx) (γ:PEnv):mIfE t m1 m2 γ=(t γ).bind (ifEK m1 m2 γ):=rfl
theorem ev_un1 (f:PV→Option PV) (m:MEx) (γ:PEnv):un1 f m γ=(m γ).bind f:=rfl
theorem pNeg_i (i:Int):pNeg (.int i)=some (.int (-i)):=rfl
noncomputable def mtK {α:Type} (T:String) (g:PV→List PV→Option α) (q:Option (List PV)) (p:PV):Option α:=if tyOk T p=true then q.bind (g p) else none
theorem mtK_i {α:Type} (g:PV→List PV→Option α) (q:Option (List PV)) (i:Int):mtK "int" g q (.int i)=q.bind (g (.int i)):=rfl
theorem mtK_s {α:Type} (g:PV→List PV→Option α) (q:Option (List PV)) (i:Str):mtK "str" g q (.str i)=q.bind (g (.str i)):=rfl
theorem mtK_l {α:Type} (g:PV→List PV→Option α) (q:Option (List PV)) (i:List PV):mtK "list" g q (.lst i)=q.bind (g (.lst i)):=rfl
theorem ev_mMt {α:Type} (T:String) (g:PV→List PV→Option α) (m:MEx) (ma:PEnv→Option (List PV)) (γ:PEnv):mMt T g m ma γ=(m γ).bind (mtK T g (ma γ)):=rfl
theorem ev_mMt0 {α:Type} (T:String) (g:PV→List PV→Option α) (m:MEx) (γ:PEnv):mMt0 T g m γ=(m γ).bind (mtK T g (some [])):=rfl
theorem ev_sl3 {α:Type} (f:PV→Option Int→Option Int→Option α) (m:MEx) (ml mh:PEnv→Option (Option Int)) (γ:PEnv):sl3 f m ml mh γ=(m γ).bind fun x=>(ml γ).bind fun l=>(mh γ).bind (f x l):=rfl
theorem ev_mNo (γ:PEnv):mNo γ=some none:=rfl
theorem ev_mSo (m:MEx) (γ:PEnv):mSo m γ=(m γ).bind pInt:=rfl
theorem pInt_i (i:Int):pInt (.int i)=some (some i):=rfl
theorem pCut_l (xs:List PV) (lo hi:Option Int):pCut (.lst xs) lo hi=some (cutP xs lo hi):=rfl
theorem pItems_l (xs:List PV):Qce [.lst xs]=some xs:=rfl
theorem pItems_t (xs:List PV):Qce [.tup xs]=some xs:=rfl
theorem pTuple_l (xs:List PV):Qcd [.lst xs]=some (.tup xs):=rfl
theorem pTuple_t (xs:List PV):Qcd [.tup xs]=some (.tup xs):=rfl
theorem pSum_i (ns:List Int):pSum [.lst (ns.map .int)]=some (.int ns.sum):=by
  show (Qey (ns.map .int)).map (fun ns=>PV.int ns.sum)=_
  rw [QiX];rfl
theorem pAdd_s {a b:Str} (h:a.length + b.length≤100000):pAdd (.str a) (.str b)=some (.str (a++b)):=if_pos (Qcj h)
theorem pCat_l {a b:List PV} (h:a.length + b.length≤100000):pCat (.lst a) (.lst b)=some (a++b):=if_pos (Qcj h)
theorem tru_bit (b:Bool):(((if b=true then 1 else 0):Int) != 0)=b:=by cases b <;> rfl
theorem isInt_i (i:Int):isInt (.int i)=true:=rfl
theorem isBl_i (i:Int):isBl (.int i)=false:=rfl
theorem isBl_b (i:Bool):isBl (.bl i)=true:=rfl
theorem isStr_s (i:Str):QhP (.str i)=true:=rfl
theorem isTup_t (i:List PV):Qgw (.tup i)=true:=rfl
theorem isTup_l (i:List PV):Qgw (.lst i)=false:=rfl
theorem isLst_l (i:List PV):isLst (.lst i)=true:=rfl
theorem isN_i (i:Int):isN (.int i)=false:=rfl
theorem isN_n:isN .non=true:=rfl
theorem isN_t (i:List PV):isN (.tup i)=false:=rfl
theorem forL_nil (g:PV→PEnv→Option PEnv) (b:MSt) (γ:PEnv):forL g b [] γ=some (.nx γ):=rfl
theorem runV_0 {N:Nat} {m:MSt}:runV N 0 m []=(m (Zp N [])).bind outV:=rfl
theorem runV_1 {N:Nat} {m:MSt} {a0:PV}:runV N 1 m [a0]=(m (Zp N [a0])).bind outV:=rfl
theorem runV_2 {N:Nat} {m:MSt} {a0 a1:PV}:runV N 2 m [a0,a1]=(m (Zp N [a0,a1])).bind outV:=rfl
theorem runV_3 {N:Nat} {m:MSt} {a0 a1 a2:PV}:runV N 3 m [a0,a1,a2]=(m (Zp N [a0,a1,a2])).bind outV:=rfl
theorem runV_4 {N:Nat} {m:MSt} {a0 a1 a2 a3:PV}:runV N 4 m [a0,a1,a2,a3]=(m (Zp N [a0,a1,a2,a3])).bind outV:=rfl
theorem runV_5 {N:Nat} {m:MSt} {a0 a1 a2 a3 a4:PV}:runV N 5 m [a0,a1,a2,a3,a4]=(m (Zp N [a0,a1,a2,a3,a4])).bind outV:=rfl
theorem runV_6 {N:Nat} {m:MSt} {a0 a1 a2 a3 a4 a5:PV}:runV N 6 m [a0,a1,a2,a3,a4,a5]=(m (Zp N [a0,a1,a2,a3,a4,a5])).bind outV:=rfl
theorem runV_7 {N:Nat} {m:MSt} {a0 a1 a2 a3 a4 a5 a6:PV}:runV N 7 m [a0,a1,a2,a3,a4,a5,a6]=(m (Zp N [a0,a1,a2,a3,a4,a5,a6])).bind outV:=rfl
noncomputable def frzS:Slot→Slot
  | .ow xs => .fz (.lst xs)
  | s=>s
theorem frzS_ow (xs:List PV):frzS (.ow xs) = .fz (.lst xs):=rfl
theorem frzS_fz (p:PV):frzS (.fz p) = .fz p:=rfl
theorem frzS_un:frzS .un = .un:=rfl
theorem frz_nil (γ:PEnv):frz [] γ=γ:=rfl
theorem frz_cons (i:Nat) (ms:List Nat) (γ:PEnv):frz (i :: ms) γ=frz ms (frz1 γ i):=rfl
theorem frz1_0 (s:Slot) (γ:PEnv):frz1 (s :: γ) 0=frzS s :: γ:=by cases s <;> rfl
theorem frz1_s (s:Slot) (γ:PEnv) (i:Nat):frz1 (s :: γ) (i + 1)=s :: frz1 γ i:=by
  unfold frz1
  rw [List.getElem?_cons_succ]
  cases γ[i]? with
  | none=>rfl
  | some t=>cases t <;> rfl
theorem ev_mN (n:Nat) (γ:PEnv):mN n γ=some (pN n):=rfl
noncomputable def encN (xs:List Nat):List PV:=xs.map pN
theorem encN_len (xs:List Nat):(encN xs).length=xs.length:=List.length_map _
theorem flat_n (n:Nat):flat (pN n)=true:=rfl
theorem encN_flat (xs:List Nat):(encN xs).all flat=true:=by
  unfold encN
  rw [List.all_map,List.all_eq_true]
  exact fun _ _=>rfl
theorem Qjg (xs:List Nat):encN xs=(xs.map fun (k:Nat)=>(k:Int)).map .int:=by unfold encN;rw [List.map_map];rfl
theorem pAdd_n (a b:Nat):pAdd (pN a) (pN b)=some (pN (a + b)):=by
  unfold pN;rw [pAdd_i];simp
theorem pSub_n {a b:Nat} (h:b≤a):pSub (pN a) (pN b)=some (pN (a - b)):=by
  unfold pN;rw [pSub_i,Int.ofNat_sub h]
theorem pMul_ln {a b:Nat} (h:a < 2 ^ 60):pMul (pN a) (pN b)=some (pN (a * b)):=by
  unfold pN;rw [pMul_l (by omega) (by omega)];simp
theorem pMul_rn {a b:Nat} (h:b < 2 ^ 60):pMul (pN a) (pN b)=some (pN (a * b)):=by
  unfold pN;rw [pMul_r (by omega) (by omega)];simp
theorem pMod_n {a b:Nat} (h:0 < b):pMod (pN a) (pN b)=some (pN (a % b)):=by
  unfold pN;rw [pMod_i (by omega)];simp
theorem pMod_in {c:Int} {b:Nat} (h:0 < b):pMod (.int c) (pN b)=some (pN (c % (b:Int)).toNat):=by
  unfold pN;rw [pMod_i (by omega),Int.toNat_of_nonneg (Int.emod_nonneg _ (by omega))]
theorem pDiv_n {a b:Nat} (h:0 < b) (h2:b < 2 ^ 100):pDiv (pN a) (pN b)=some (pN (a / b)):=by
  unfold pN;rw [pDiv_i (by omega) (by omega)];simp
theorem pDiv_in {c:Int} {b:Nat} (h:0 < b) (h2:b < 2 ^ 100):pDiv (.int c) (pN b)=some (.int (c / (b:Int))):=by
  unfold pN;rw [pDiv_i (by omega) (by omega)]
theorem pLt_n (a b:Nat):pLt (pN a) (pN b)=some (.bl (decide (a < b))):=by
  unfold pN;rw [pLt_i];simp
theorem pLe_n (a b:Nat):pLe (pN a) (pN b)=some (.bl (decide (a≤b))):=by
  unfold pN;rw [pLe_i];simp
theorem pGt_n (a b:Nat):pGt (pN a) (pN b)=some (.bl (decide (b < a))):=by
  unfold pN;rw [pGt_i];simp
theorem Qcu (a b:Nat):((a:Int)==(b:Int))=(a==b):=by
  rw [Bool.eq_iff_iff,beq_iff_eq,beq_iff_eq];exact Int.ofNat_inj
theorem pEq_n (a b:Nat):pEq (pN a) (pN b)=some (.bl (a==b)):=by
  unfold pN;rw [pEq_i,Qcu]
theorem pNe_n (a b:Nat):pNe (pN a) (pN b)=some (.bl (!(a==b))):=by
  unfold pN;rw [pNe_i,Qcu]
theorem bAnd_n (a b:Nat):Builtin.bitAnd (a:Int) (b:Int)=((a&&&b:Nat):Int):=by
  rw [bitAnd_pp (by omega) (by omega)];simp
theorem bOr_n (a b:Nat):Builtin.bitOr (a:Int) (b:Int)=((a|||b:Nat):Int):=by
  unfold Builtin.bitOr
  rw [bitAnd_nn (by unfold Builtin.bitNot;omega) (by unfold Builtin.bitNot;omega)]
  unfold Builtin.bitNot
  have e:∀ a:Nat,(-(-(a:Int) - 1) - 1).toNat=a:=fun a=>by omega
  rw [e,e]
  omega
theorem pAnd_n (a b:Nat):pAnd (pN a) (pN b)=some (pN (a&&&b)):=by unfold pN;rw [pAnd_i,bAnd_n]
theorem pOr_n (a b:Nat):pOr (pN a) (pN b)=some (pN (a|||b)):=by unfold pN;rw [pOr_i,bOr_n]
theorem pShl_n {k:Nat} (h:k≤1000000):pShl (pN 1) (pN k)=some (pN (2 ^ k)):=by
  have e:=pShl_one (k:=(k:Int)) (by omega) (by omega)
  unfold pN
  rw [show ((1:Nat):Int)=1 from rfl,e];simp
theorem pShr_n (m k:Nat):pShr (pN m) (pN k)=some (pN (m / 2 ^ k)):=by
  unfold pN;rw [pShr_i (by omega)];simp
theorem testBit_odd (m k:Nat):((m / 2 ^ k)&&&1 != 0)=m.testBit k:=by
  rw [Nat.testBit,Nat.shiftRight_eq_div_pow,Nat.and_comm]
theorem testBit_mod (m k:Nat):(m / 2 ^ k % 2==1)=m.testBit k:=by
  rw [← testBit_odd,Nat.and_one_is_mod]
  have h:m / 2 ^ k % 2=0∨m / 2 ^ k % 2=1:=by omega
  rcases h with h | h <;> rw [h] <;> rfl
theorem pLen_ln (xs:List PV):pLen [.lst xs]=some (pN xs.length):=rfl
theorem pLen_tn (xs:List PV):pLen [.tup xs]=some (pN xs.length):=rfl
theorem pLen_sn {z:Str} (h:z.length≤100000):pLen [.str z]=some (pN z.length):=if_pos (Qcj h)
theorem sum_cast (xs:List Nat):(xs.map fun (k:Nat)=>(k:Int)).sum=((xs.sum:Nat):Int):=by
  induction xs with
  | nil=>rfl
  | cons x r ih=>simp only [List.map_cons,List.sum_cons,ih,Int.natCast_add]
theorem pSum_n (xs:List Nat):pSum [.lst (encN xs)]=some (pN xs.sum):=by
  rw [Qjg,pSum_i,sum_cast];rfl
theorem rg1_n {n:Nat} (h:n≤100000):rg1 (pN n)=some (encN (List.range n)):=by
  unfold pN;rw [rg1_i (by omega) (by omega),Int.toNat_natCast];rfl
theorem pBits_pn (m:Nat):Qgo (pN m) []=some (pN (bitsN m)):=QiO m
theorem mtK_n {α:Type} (g:PV→List PV→Option α) (q:Option (List PV)) (i:Nat):mtK "int" g q (pN i)=q.bind (g (pN i)):=rfl
theorem isInt_n (i:Nat):isInt (pN i)=true:=rfl
theorem isBl_n (i:Nat):isBl (pN i)=false:=rfl
theorem isTup_n (i:Nat):Qgw (pN i)=false:=rfl
theorem isN_pn (i:Nat):isN (pN i)=false:=rfl
theorem tru_n (i:Nat):tru (pN i)=some (i != 0):=by
  unfold pN;rw [tru_i]
  have:=Qcu i 0
  show some (!((i:Int)==((0:Nat):Int)))=_
  rw [this];rfl
theorem pNeg_n (i:Nat):pNeg (pN i)=some (.int (-(i:Int))):=rfl
theorem atI_last1 (xs:List PV) (v:PV):atI (xs++[v]) (-((1:Nat):Int))=some v:=atI_last xs v
theorem pInt_n (i:Nat):pInt (pN i)=some (some (i:Int)):=rfl
theorem Qhk {α:Type} (xs:List α) (i:Nat):atI xs (i:Int)=xs[i]?:=by
  cases h:xs[i]? with
  | some v=>exact atI_nat h
  | none =>
    have:=List.getElem?_eq_none_iff.mp h
    unfold atI ixN
    rw [if_pos (by omega),if_neg (by omega)]
    rfl
theorem pIx_ln (xs:List PV) (i:Nat):pIx (.lst xs) (pN i)=xs[i]?:=Qhk xs i
theorem pIx_tn (xs:List PV) (i:Nat):pIx (.tup xs) (pN i)=xs[i]?:=Qhk xs i
theorem encN_get (xs:List Nat) (i:Nat):(encN xs)[i]?=(xs[i]?).map pN:=by unfold encN;rw [List.getElem?_map]
theorem augK_n (i:Nat) (γ:PEnv) (r:Nat):augK i γ (pN r)=some (.nx (γ.set i (.fz (pN r)))):=rfl
theorem peq_pn (a b:Nat):peq (pN a) (pN b)=(a==b):=by
  unfold pN
  have:peq (.int (a:Int)) (.int (b:Int))=((a:Int)==(b:Int)):=rfl
  rw [this,Qcu]
theorem okv_n (a:Nat):okv (pN a)=true:=Qbv _
theorem Qen (xs:List Nat):(encN xs).all okv=true:=by
  unfold encN
  rw [List.all_map,List.all_eq_true]
  exact fun _ _=>okv_n _
theorem any_pn (k:Nat) (xs:List Nat):((encN xs).any fun y=>peq y (pN k))=decide (k∈xs):=by
  unfold encN
  rw [List.any_map,Bool.eq_iff_iff,List.any_eq_true]
  simp [peq_pn]
theorem pIn_nl (k:Nat) (xs:List Nat):pIn (pN k) (.lst (encN xs))=some (.bl (decide (k∈xs))):=by
  have e:pIn (pN k) (.lst (encN xs))=if okv (pN k)=true∧(encN xs).all okv=true then some (.bl ((encN xs).any fun y=>peq y (pN k))) else none:=rfl
  rw [e,if_pos ⟨okv_n k,Qen xs⟩,any_pn]
theorem pIn_nt (k:Nat) (xs:List Nat):pIn (pN k) (.tup (encN xs))=some (.bl (decide (k∈xs))):=by
  have e:pIn (pN k) (.tup (encN xs))=if okv (pN k)=true∧(encN xs).all okv=true then some (.bl ((encN xs).any fun y=>peq y (pN k))) else none:=rfl
  rw [e,if_pos ⟨okv_n k,Qen xs⟩,any_pn]
theorem QcR {x y:PV} {b:Bool} (h:pIn x y=some (.bl b)):Qag x y=some (.bl (!b)):=by
  unfold Qag
  rw [h]
  rfl
theorem pNotIn_nl (k:Nat) (xs:List Nat):Qag (pN k) (.lst (encN xs))=some (.bl (!decide (k∈xs))):=QcR (pIn_nl k xs)
theorem pNotIn_nt (k:Nat) (xs:List Nat):Qag (pN k) (.tup (encN xs))=some (.bl (!decide (k∈xs))):=QcR (pIn_nt k xs)
theorem compN {α:Type} {g:PV→PEnv→Option PEnv} {t:PEnv→Option Bool} {e:MEx} {γ:PEnv} (b:Nat→Bool) (y:Nat→PV) (xs:List Nat) (h:∀ x∈xs,∃ γ1,g (pN x) γ=some γ1∧t γ1=some (b x)∧(b x=true→e γ1=some (y x))) :
    XZ g t e γ (encN xs)=some ((xs.filter b).map y):=Qer pN b y xs h
theorem Qgi {g:PV→PEnv→Option PEnv} {t:PEnv→Option Bool} {e:MEx} {γ:PEnv} (b:Nat→Bool) (xs:List Nat) (h:∀ x∈xs,∃ γ1,g (pN x) γ=some γ1∧t γ1=some (b x)∧e γ1=some (pN x)) :
    XZ g t e γ (encN xs)=some (encN (xs.filter b)):=by
  rw [compN (α:=Nat) b pN xs fun x hx=>by
    obtain ⟨γ1,h1,h2,h3⟩:=h x hx
    exact ⟨γ1,h1,h2,fun _=>h3⟩]
  rfl
end L2.PM

noncomputable section
namespace L2.PM
open PySem PySem.Spec PyProof.Rows

theorem cutP_map {α β:Type} (f:α→β) (xs:List α) (lo hi:Option Int):cutP (xs.map f) lo hi=(cutP xs lo hi).map f:=by
  unfold cutP
  rw [List.length_map,← List.map_drop,← List.map_take]
theorem Qhf {α:Type} (xs:List α) (lo hi:Option Int):(cutP xs lo hi).length≤xs.length:=by
  unfold cutP
  rw [List.length_take,List.length_drop]
  omega
theorem peq_s (a b:Str):peq (.str a) (.str b)=(a==b):=rfl
theorem pEq_s {a b:Str} (ha:PyData.strOk a=true) (hb:PyData.strOk b=true):pEq (.str a) (.str b)=some (.bl (a==b)):=by rw [QdA (Qeg ha) (Qeg hb),peq_s]
theorem Qjv {a b:Str} (ha:PyData.strOk a=true) (hb:PyData.strOk b=true):pNe (.str a) (.str b)=some (.bl (!(a==b))):=by rw [pNe_ok (Qeg ha) (Qeg hb),peq_s]
theorem allflat_nats (ns:List Nat):(ns.map fun (k:Nat)=>PV.int k).all flat=true:=by simp [flat]
theorem EVc:type_of% (And.intro (And.intro (And.intro (And.intro (And.intro (And.intro (And.intro @ev_mN (And.intro @encN_len @encN_flat)) (And.intro @flat_n (And.intro @pAdd_n @pSub_n))) (And.intro (And.intro @pMul_ln (And.intro @pMul_rn @pMod_n)) (And.intro (And.intro @pMod_in @pDiv_n) (And.intro @pDiv_in @pLt_n)))) (And.intro (And.intro (And.intro @pLe_n (And.intro @pGt_n @pEq_n)) (And.intro (And.intro @pNe_n @pAnd_n) (And.intro @pOr_n @pShl_n))) (And.intro (And.intro @pShr_n (And.intro @testBit_odd @testBit_mod)) (And.intro (And.intro @pSum_n @rg1_n) (And.intro @mtK_n @isInt_n))))) (And.intro (And.intro (And.intro (And.intro @isBl_n (And.intro @isTup_n @isN_pn)) (And.intro (And.intro @tru_n @pNeg_n) (And.intro @atI_last1 @pInt_n))) (And.intro (And.intro @pIx_ln (And.intro @pIx_tn @encN_get)) (And.intro (And.intro @augK_n @pIn_nl) (And.intro @pIn_nt @pNotIn_nl)))) (And.intro (And.intro (And.intro @pNotIn_nt (And.intro @runV_0 @runV_1)) (And.intro (And.intro @runV_2 @runV_3) (And.intro @runV_4 @runV_5))) (And.intro (And.intro @runV_6 (And.intro @runV_7 @ev_startG1)) (And.intro (And.intro @ev_sSeq @seqK_nx) (And.intro @seqK_rt @seqK_ro)))))) (And.intro (And.intro (And.intro (And.intro (And.intro @seqK_ct (And.intro @seqK_bk @ev_sSet)) (And.intro (And.intro @ev_sSetO @ev_sRet) (And.intro @ev_sRetO @ev_sRetV))) (And.intro (And.intro @retS_ow (And.intro @retS_fz @ev_sIf)) (And.intro (And.intro @ifK_t @ifK_f) (And.intro @ev_sNx @ev_sBk)))) (And.intro (And.intro (And.intro @ev_sCt (And.intro @ev_bin2 @ev_mVar)) (And.intro (And.intro @ev_mC @ev_mCall) (And.intro @ev_mLst @ev_mTup))) (And.intro (And.intro @tupK_ok (And.intro @ev_mLim @limK_ok)) (And.intro (And.intro @ev_aCons @ev_aNil) (And.intro @ev_truB @isB_bl))))) (And.intro (And.intro (And.intro (And.intro @ev_mIsi (And.intro @isiK_i @isiK_b)) (And.intro (And.intro @isiK_s @isiK_t) (And.intro @isiK_l @isiK_0))) (And.intro (And.intro @isiK_n (And.intro @getV_0 @getV_s)) (And.intro (And.intro @val_fz @val_ow) (And.intro @pAdd_i @pSub_i)))) (And.intro (And.intro (And.intro @pLt_i (And.intro @pLe_i @pGt_i)) (And.intro (And.intro @pEq_i @pNe_i) (And.intro @pLen_ln @pLen_tn))) (And.intro (And.intro @pIx_lst (And.intro @pIx_tup @keepE_true)) (And.intro (And.intro @keepE_false @flat_int) (And.intro @flat_bl @flat_str))))))) (And.intro (And.intro (And.intro (And.intro (And.intro (And.intro @flat_non (And.intro @flat_tup @flat_lst)) (And.intro @outV_rt (And.intro @outV_ro @outV_nx))) (And.intro (And.intro @ev_bAnd (And.intro @andK_t @andK_f)) (And.intro (And.intro @ev_bOr @orK_t) (And.intro @orK_f @ev_bNot)))) (And.intro (And.intro (And.intro @ev_vAnd (And.intro @vAndK_t @vAndK_f)) (And.intro (And.intro @ev_vNot @ev_mIfE) (And.intro @ifEK_t @ifEK_f))) (And.intro (And.intro @ev_un1 (And.intro @pNeg_i @ev_mMt0)) (And.intro (And.intro @ev_mMt @mtK_i) (And.intro @mtK_s @mtK_l))))) (And.intro (And.intro (And.intro (And.intro @ev_sForR (And.intro @ev_sFor @ev_mComp)) (And.intro (And.intro @cmpK_ok @ev_iRg1) (And.intro @rg1_i @ev_iLst))) (And.intro (And.intro @itL_l (And.intro @ev_iTpl @itT_t)) (And.intro (And.intro @ev_iSeq @itS_l) (And.intro @itS_t @pEnum_l)))) (And.intro (And.intro (And.intro @pEnum_t (And.intro @ev_blkG @ev_capS)) (And.intro (And.intro @capO_s @ev_gSet) (And.intro @gSet2_t @gSet3_t))) (And.intro (And.intro @ev_mTru (And.intro @tru_i @tru_b)) (And.intro (And.intro @tru_l @tru_t) (And.intro @ev_tYesM @pMod_i)))))) (And.intro (And.intro (And.intro (And.intro (And.intro @pDiv_i (And.intro @pMul_l @pMul_r)) (And.intro (And.intro @pBits_pn @tru_bit) (And.intro @ev_sl3 @ev_mNo))) (And.intro (And.intro @ev_mSo (And.intro @pInt_i @pCut_l)) (And.intro (And.intro @pItems_l @pItems_t) (And.intro @pTuple_l @pTuple_t)))) (And.intro (And.intro (And.intro @pSum_i (And.intro @pLen_sn @pAdd_s)) (And.intro (And.intro @pCat_l @isInt_i) (And.intro @isBl_i @isBl_b))) (And.intro (And.intro @isStr_s (And.intro @isTup_t @isTup_l)) (And.intro (And.intro @isLst_l @isN_i) (And.intro @isN_n @isN_t))))) (And.intro (And.intro (And.intro (And.intro @pIs_non (And.intro @pIsNot_non @forL_nil)) (And.intro (And.intro @frz_nil @frz_cons) (And.intro @frz1_0 @frz1_s))) (And.intro (And.intro @frzS_ow (And.intro @frzS_fz @frzS_un)) (And.intro (And.intro @ev_sAug @augK_i) (And.intro @ev_sApp @allflat_ints)))) (And.intro (And.intro (And.intro @allflat_strs (And.intro @allflat_nats @cutP_map)) (And.intro (And.intro @Nat.not_lt_zero @decide_true) (And.intro @decide_false @Bool.not_true))) (And.intro (And.intro @Bool.not_false (And.intro @Bool.true_or @Bool.false_or)) (And.intro (And.intro @Bool.or_true @Bool.or_false) (And.intro @Bool.true_and @Bool.false_and)))))))):=(And.intro (And.intro (And.intro (And.intro (And.intro (And.intro (And.intro @ev_mN (And.intro @encN_len @encN_flat)) (And.intro @flat_n (And.intro @pAdd_n @pSub_n))) (And.intro (And.intro @pMul_ln (And.intro @pMul_rn @pMod_n)) (And.intro (And.intro @pMod_in @pDiv_n) (And.intro @pDiv_in @pLt_n)))) (And.intro (And.intro (And.intro @pLe_n (And.intro @pGt_n @pEq_n)) (And.intro (And.intro @pNe_n @pAnd_n) (And.intro @pOr_n @pShl_n))) (And.intro (And.intro @pShr_n (And.intro @testBit_odd @testBit_mod)) (And.intro (And.intro @pSum_n @rg1_n) (And.intro @mtK_n @isInt_n))))) (And.intro (And.intro (And.intro (And.intro @isBl_n (And.intro @isTup_n @isN_pn)) (And.intro (And.intro @tru_n @pNeg_n) (And.intro @atI_last1 @pInt_n))) (And.intro (And.intro @pIx_ln (And.intro @pIx_tn @encN_get)) (And.intro (And.intro @augK_n @pIn_nl) (And.intro @pIn_nt @pNotIn_nl)))) (And.intro (And.intro (And.intro @pNotIn_nt (And.intro @runV_0 @runV_1)) (And.intro (And.intro @runV_2 @runV_3) (And.intro @runV_4 @runV_5))) (And.intro (And.intro @runV_6 (And.intro @runV_7 @ev_startG1)) (And.intro (And.intro @ev_sSeq @seqK_nx) (And.intro @seqK_rt @seqK_ro)))))) (And.intro (And.intro (And.intro (And.intro (And.intro @seqK_ct (And.intro @seqK_bk @ev_sSet)) (And.intro (And.intro @ev_sSetO @ev_sRet) (And.intro @ev_sRetO @ev_sRetV))) (And.intro (And.intro @retS_ow (And.intro @retS_fz @ev_sIf)) (And.intro (And.intro @ifK_t @ifK_f) (And.intro @ev_sNx @ev_sBk)))) (And.intro (And.intro (And.intro @ev_sCt (And.intro @ev_bin2 @ev_mVar)) (And.intro (And.intro @ev_mC @ev_mCall) (And.intro @ev_mLst @ev_mTup))) (And.intro (And.intro @tupK_ok (And.intro @ev_mLim @limK_ok)) (And.intro (And.intro @ev_aCons @ev_aNil) (And.intro @ev_truB @isB_bl))))) (And.intro (And.intro (And.intro (And.intro @ev_mIsi (And.intro @isiK_i @isiK_b)) (And.intro (And.intro @isiK_s @isiK_t) (And.intro @isiK_l @isiK_0))) (And.intro (And.intro @isiK_n (And.intro @getV_0 @getV_s)) (And.intro (And.intro @val_fz @val_ow) (And.intro @pAdd_i @pSub_i)))) (And.intro (And.intro (And.intro @pLt_i (And.intro @pLe_i @pGt_i)) (And.intro (And.intro @pEq_i @pNe_i) (And.intro @pLen_ln @pLen_tn))) (And.intro (And.intro @pIx_lst (And.intro @pIx_tup @keepE_true)) (And.intro (And.intro @keepE_false @flat_int) (And.intro @flat_bl @flat_str))))))) (And.intro (And.intro (And.intro (And.intro (And.intro (And.intro @flat_non (And.intro @flat_tup @flat_lst)) (And.intro @outV_rt (And.intro @outV_ro @outV_nx))) (And.intro (And.intro @ev_bAnd (And.intro @andK_t @andK_f)) (And.intro (And.intro @ev_bOr @orK_t) (And.intro @orK_f @ev_bNot)))) (And.intro (And.intro (And.intro @ev_vAnd (And.intro @vAndK_t @vAndK_f)) (And.intro (And.intro @ev_vNot @ev_mIfE) (And.intro @ifEK_t @ifEK_f))) (And.intro (And.intro @ev_un1 (And.intro @pNeg_i @ev_mMt0)) (And.intro (And.intro @ev_mMt @mtK_i) (And.intro @mtK_s @mtK_l))))) (And.intro (And.intro (And.intro (And.intro @ev_sForR (And.intro @ev_sFor @ev_mComp)) (And.intro (And.intro @cmpK_ok @ev_iRg1) (And.intro @rg1_i @ev_iLst))) (And.intro (And.intro @itL_l (And.intro @ev_iTpl @itT_t)) (And.intro (And.intro @ev_iSeq @itS_l) (And.intro @itS_t @pEnum_l)))) (And.intro (And.intro (And.intro @pEnum_t (And.intro @ev_blkG @ev_capS)) (And.intro (And.intro @capO_s @ev_gSet) (And.intro @gSet2_t @gSet3_t))) (And.intro (And.intro @ev_mTru (And.intro @tru_i @tru_b)) (And.intro (And.intro @tru_l @tru_t) (And.intro @ev_tYesM @pMod_i)))))) (And.intro (And.intro (And.intro (And.intro (And.intro @pDiv_i (And.intro @pMul_l @pMul_r)) (And.intro (And.intro @pBits_pn @tru_bit) (And.intro @ev_sl3 @ev_mNo))) (And.intro (And.intro @ev_mSo (And.intro @pInt_i @pCut_l)) (And.intro (And.intro @pItems_l @pItems_t) (And.intro @pTuple_l @pTuple_t)))) (And.intro (And.intro (And.intro @pSum_i (And.intro @pLen_sn @pAdd_s)) (And.intro (And.intro @pCat_l @isInt_i) (And.intro @isBl_i @isBl_b))) (And.intro (And.intro @isStr_s (And.intro @isTup_t @isTup_l)) (And.intro (And.intro @isLst_l @isN_i) (And.intro @isN_n @isN_t))))) (And.intro (And.intro (And.intro (And.intro @pIs_non (And.intro @pIsNot_non @forL_nil)) (And.intro (And.intro @frz_nil @frz_cons) (And.intro @frz1_0 @frz1_s))) (And.intro (And.intro @frzS_ow (And.intro @frzS_fz @frzS_un)) (And.intro (And.intro @ev_sAug @augK_i) (And.intro @ev_sApp @allflat_ints)))) (And.intro (And.intro (And.intro @allflat_strs (And.intro @allflat_nats @cutP_map)) (And.intro (And.intro @Nat.not_lt_zero @decide_true) (And.intro @decide_false @Bool.not_true))) (And.intro (And.intro @Bool.not_false (And.intro @Bool.true_or @Bool.false_or)) (And.intro (And.intro @Bool.or_true @Bool.or_false) (And.intro @Bool.true_and @Bool.false_and))))))))
end L2.PM

set_option maxHeartbeats 4000000
noncomputable section
namespace DH
open PySem PySem.Spec PyProof.Rows L2 L2.PM
noncomputable def YJ:MSt:=(sIf (bOr (bAnd (truB (bin2 pEq (mVar 0) (mN 1))) (truB (bin2 pLt (bin2 pAdd (mVar 4) (mN 1)) (mVar 2)))) (truB (bin2 pEq (mVar 0) (mN 2)))) (sSeq (sSet [1,4,4,2] 5 (mTup (Qc (bin2 pIx (mVar 1) (mVar 4)) (Qc (mTup (Qc (bin2 pMod (bin2 pAdd (mVar 4) (mN 1)) (mVar 2)) aNil)) aNil))))
  (sIf (truB (bin2 Qag (mVar 5) (mVar 3))) (sApp [5] 3 (mVar 5)) sNx)) sNx)
noncomputable def Qbi:MSt:=(sSeq (XF [] 3 (mLim aNil))
  (sSeq (QhN (iRg1 (mVar 2)) (gSet 4) YJ)
  (QcH 3)))
noncomputable def Zz:List PV→Option (List PV):=runO 6 3 Qbi
theorem QbL:∀ ps r,Zz ps=some r→ps.length=3:=runO_len
noncomputable def QaD:MSt:=(sSeq (sIf (truB (bin2 pLt (mVar 1) (Qn pLen (Qc (mVar 0) aNil)))) (sRet (bin2 pIx (mVar 0) (mVar 1))) sNx)
  (sRet (mN 0)))
noncomputable def Qt:List PV→Option PV:=runV 2 2 QaD
theorem QS:∀ ps r,Qt ps=some r→ps.length=2:=Qv
noncomputable def YD:MSt:=(sSeq (sSet [3] 3 (bin2 pMod (bin2 pMul (mVar 3) (mN 69621)) (mN 2147483647)))
  (sApp [3,2] 6 (bin2 pMod (bin2 pDiv (mVar 3) (mN 11)) (mVar 2))))
noncomputable def XT:MSt:=(sSeq (sSet [0] 3 (bin2 pMod (bin2 pMul (bin2 pAdd (bin2 pMod (mVar 0) (mN 2147483629)) (mN 1)) (mN 48271)) (mN 2147483647)))
  (sSeq (sSet [1,3,2,1] 4 (bin2 pAdd (mVar 1) (bin2 pMod (bin2 pDiv (mVar 3) (mN 3)) (bin2 pSub (mVar 2) (mVar 1)))))
  (sSeq (sSet [3] 3 (bin2 pMod (bin2 pMul (mVar 3) (mN 16807)) (mN 2147483647)))
  (sSeq (sSet [3] 5 (bin2 pIx (mLst (mLim (Qc (mN 0) (Qc (mN 1) (Qc (mN 1) (Qc (mN 2) (Qc (mN 2) (Qc (mN 3) aNil)))))))) (bin2 pMod (bin2 pDiv (mVar 3) (mN 7)) (mN 6))))
  (sSeq (XF [] 6 (mLim aNil))
  (sSeq (QhN (iRg1 (mVar 5)) (gSet 7) YD)
  (sRet (mTup (Qc (mVar 4) (Qc (Qn Qcd (Qc (mLst (XY (iRg1 (mVar 2)) 1 [6] (gSet 0) (truB (bin2 pIn (mVar 0) (mVar 1))) (mVar 0))) aNil)) aNil))))))))))
noncomputable def QV:List PV→Option PV:=runV 8 3 XT
theorem QaA:∀ ps r,QV ps=some r→ps.length=3:=Qv
noncomputable def QK:MSt:=(sSeq (sSet [5] 5 (bin2 pMod (bin2 pMul (mVar 5) (mN 48271)) (mN 2147483647)))
  (sIf (truB (bin2 pEq (mVar 4) (mN 0))) (sApp [5,2] 6 (bin2 pMod (bin2 pDiv (mVar 5) (mN 5)) (mVar 2))) (sIf (truB (bin2 pEq (mVar 4) (mN 3))) (sApp [7,5,1] 6 (bin2 pMod (bin2 pAdd (bin2 pAdd (mVar 7) (mN 1)) (bin2 pMod (bin2 pDiv (mVar 5) (mN 5)) (mN 2))) (mVar 1))) (sApp [1,7,2,1] 6 (bin2 pAdd (mVar 1) (bin2 pMod (mVar 7) (bin2 pSub (mVar 2) (mVar 1))))))))
noncomputable def ZY:MSt:=(sIf (bAnd (truB (bin2 pGt (mVar 2) (mVar 1))) (truB (bin2 pLt (Qn pLen (Qc (mVar 8) aNil)) (mN 12)))) (sSeq (sSet [9,1,2] 10 (Qn QV (Qc (mVar 9) (Qc (mVar 1) (Qc (mVar 2) aNil)))))
  (sIf (truB (bin2 Qag (mVar 10) (mVar 8))) (sApp [10] 8 (mVar 10)) sNx)) sNx)
noncomputable def XU:MSt:=(sSeq (sSet [0] 4 (bin2 pMod (Qn Qt (Qc (mVar 0) (Qc (mN 1) aNil))) (mN 4)))
  (sSeq (sIf (truB (bin2 pEq (mVar 2) (mVar 1))) (sSet [4] 4 (bin2 pMul (mN 3) (bin2 pMod (mVar 4) (mN 2)))) sNx)
  (sSeq (sSet [0] 5 (bin2 pMod (bin2 pMul (bin2 pAdd (bin2 pMod (bin2 pDiv (Qn Qt (Qc (mVar 0) (Qc (mN 1) aNil))) (mN 4)) (mN 2147483629)) (mN 1)) (mN 40692)) (mN 2147483647)))
  (sSeq (XF [] 6 (mLim aNil))
  (sSeq (QhN (iRg1 (mVar 1)) (gSet 7) QK)
  (sSeq (XF [4,6,1] 8 (Qn Zz (Qc (mVar 4) (Qc (mVar 6) (Qc (mVar 1) aNil)))))
  (sSeq (sFor [0,3] (iLst (mLst (sl3 pCut (mVar 0) (mSo (mN 3)) (mSo (mVar 3))))) (gSet 9) ZY)
  (sRet (mTup (Qc (mVar 2) (Qc (Qn Qcd (Qc (mVar 6) aNil)) (Qc (Qn Qcd (Qc (mVar 8) aNil)) aNil))))))))))))
noncomputable def QW:List PV→Option PV:=runV 11 4 XU
theorem QaB:∀ ps r,QW ps=some r→ps.length=4:=Qv
noncomputable def YI:MSt:=(sIf (bAnd (truB (bin2 Qag (bin2 pIx (mVar 4) (mN 0)) (mVar 2))) (mTru (Qn Qgp (Qc (mLst (XY (iTpl (bin2 pIx (mVar 4) (mN 1))) 1 [2] (gSet 0) Qdv (bin2 pIn (mVar 0) (mVar 1)))) aNil)))) (sSeq (sApp [4] 2 (bin2 pIx (mVar 4) (mN 0)))
  (sSet [] 3 (mC (.bl true)))) sNx)
noncomputable def YH:MSt:=(sSeq (sSet [] 3 (mC (.bl false)))
  (sFor [0] (iTpl (bin2 pIx (mVar 0) (mN 2))) (gSet 4) YI))
noncomputable def Qbh:MSt:=(sSeq (XF [0,1] 2 (XY (iRg1 (bin2 pIx (mVar 0) (mN 0))) 1 [1] (gSet 0) (truB (bin2 pEq (bin2 pAnd (bin2 pShr (mVar 1) (mVar 0)) (mN 1)) (mN 1))) (mVar 0)))
  (sSeq (sSet [] 3 (mC (.bl true)))
  (sSeq (QeN 1000 (mTru (mVar 3)) YH)
  (QcH 2))))
noncomputable def QY:List PV→Option PV:=runV 5 2 Qbh
theorem XC:∀ ps r,QY ps=some r→ps.length=2:=Qv
noncomputable def QbW:MSt:=(sSeq (sSet [0,1] 2 (Qn QY (Qc (mVar 0) (Qc (mVar 1) aNil))))
  (sRet (Qn pSum (Qc (mLst (XY (iRg1 (Qn pLen (Qc (bin2 pIx (mVar 0) (mN 1)) aNil))) 1 [0,2] (gSet 0) (truB (bin2 pIn (bin2 pIx (bin2 pIx (mVar 1) (mN 1)) (mVar 0)) (mVar 2))) (bin2 pShl (mN 1) (mVar 0)))) aNil))))
noncomputable def ZQ:List PV→Option PV:=runV 3 2 QbW
theorem QcA:∀ ps r,ZQ ps=some r→ps.length=2:=Qv
noncomputable def Qap (C:Addr):MX OT:=(xSeq (QcG [1] "book" (mVar 1))
  (xSeq (QcG [2] "held" (mVar 2))
  (xSeq (QcG [] "unanswered" (mC .non))
  (xFnew [] "moves" (mLim aNil)))))
noncomputable def QH (C:Addr):Addr→List PV→OT→Option OT:=runX 3 3 (Qap C)
theorem Xe (C:Addr):∀ a qs t t',QH C a qs t=some t'→qs.length + 1=3:=runX_len
noncomputable def Qbj:MSt:=(sSeq (sIf (truB (bin2 pIs (mVar 1) (mC .non))) (QcH 0) sNx)
  (sRet (bin2 pIx (mVar 1) (mN 1))))
noncomputable def QP:List PV→Option PV:=runV 2 2 Qbj
theorem XD:∀ ps r,QP ps=some r→ps.length=2:=Qv
noncomputable def QbV:MSt:=(sSeq (XF [2,1] 3 (XY (iRg1 (mVar 2)) 1 [1] (gSet 0) (truB (bin2 pEq (bin2 pAnd (bin2 pShr (mVar 1) (mVar 0)) (mN 1)) (mN 1))) (mVar 0)))
  (sSeq (sIf (bAnd (truB (bin2 pNe (mVar 3) (mLst (mLim aNil)))) (truB (bin2 pGt (bin2 pMod (mVar 0) (mN 3)) (mN 0)))) (sRet (bin2 pIx (mVar 3) (bin2 pMod (bin2 pDiv (mVar 0) (mN 3)) (Qn pLen (Qc (mVar 3) aNil))))) sNx)
  (sSeq (sSet [0,0,0] 4 (bin2 pIx (mLst (mLim (Qc (bin2 pMod (bin2 pDiv (mVar 0) (mN 12)) (bin2 pPow (mN 10) (mN 40))) (Qc (bin2 pSub (un1 pNeg (mN 1)) (bin2 pMod (bin2 pDiv (mVar 0) (mN 12)) (bin2 pPow (mN 10) (mN 40)))) aNil)))) (bin2 pMod (bin2 pDiv (mVar 0) (mN 6)) (mN 2))))
  (sSeq (sIf (truB (bin2 pEq (bin2 pMod (bin2 pDiv (mVar 0) (mN 3)) (mN 2)) (mN 0))) (QcH 4) sNx)
  (sRet (bin2 pSub (bin2 pMod (bin2 pDiv (mVar 0) (mN 6)) (bin2 pAdd (mVar 2) (mN 3))) (mN 1)))))))
noncomputable def Zq:List PV→Option PV:=runV 5 3 QbV
theorem Qcz:∀ ps r,Zq ps=some r→ps.length=3:=Qv
noncomputable def Qdf (C:Addr):MSt:=(sRet (mIfE (truB (bin2 pIs (mFld C "unanswered" (mVar 0)) (mC .non))) (mC (.str "doubter")) (mC (.str "speaker"))))
noncomputable def QJ (C:Addr):List PV→Option PV:=runV 1 1 (Qdf C)
theorem Yp (C:Addr):∀ ps r,QJ C ps=some r→ps.length=1:=Qv
noncomputable def Qhd:MSt:=(Qju (XY (iRg1 (mMt0 "int" Qgo (mVar 0))) 1 [0] (gSet 0) (mTru (bin2 pAnd (bin2 pShr (mVar 1) (mVar 0)) (mN 1))) (mVar 0)))
noncomputable def XB:List PV→Option PV:=runV 1 1 Qhd
theorem Qfz:∀ ps r,XB ps=some r→ps.length=1:=Qv
noncomputable def Qdh (C:Addr):MSt:=(sRet (mIfE (truB (bin2 pIs (mFld C "unanswered" (mVar 0)) (mC .non))) (mFld C "held" (mVar 0)) (bin2 pIx (mFld C "unanswered" (mVar 0)) (mN 1))))
noncomputable def Zt (C:Addr):List PV→Option PV:=runV 1 1 (Qdh C)
theorem Qan (C:Addr):∀ ps r,Zt C ps=some r→ps.length=1:=Qv
noncomputable def Qaw:MSt:=(sAug 1 pOr (bin2 pShl (mN 1) (mVar 2)))
noncomputable def QcV:MSt:=(sSeq (sSet [] 1 (mN 0))
  (sSeq (sFor [0] (iSeq (mVar 0)) (gSet 2) Qaw)
  (QcH 1)))
noncomputable def Zk:List PV→Option PV:=runV 3 1 QcV
theorem XJ:∀ ps r,Zk ps=some r→ps.length=1:=Qv
noncomputable def Qbf:MSt:=(sRet (bin2 pOr (mVar 1) (Qn Zk (Qc (mLst (XY (iLst (mVar 2)) 1 [0] (gSet 0) Qdv (bin2 pIx (bin2 pIx (bin2 pIx (mVar 1) (mN 2)) (mVar 0)) (mN 0)))) aNil))))
noncomputable def Zx:List PV→Option PV:=runV 3 3 Qbf
theorem QbJ:∀ ps r,Zx ps=some r→ps.length=3:=Qv
noncomputable def Qhe:MSt:=(sRet (bin2 pEq (bin2 pAnd (mVar 0) (mVar 1)) (mVar 0)))
noncomputable def Ys:List PV→Option PV:=runV 2 2 Qhe
theorem Qad:∀ ps r,Ys ps=some r→ps.length=2:=Qv
noncomputable def ZZ:MSt:=(sSeq (sSet [8] 9 (bin2 pShl (mN 1) (bin2 pIx (mVar 8) (mN 0))))
  (sIf (bAnd (bNot (mTru (Qn Ys (Qc (mVar 9) (Qc (mVar 4) aNil))))) (mTru (Qn Ys (Qc (bin2 pIx (mVar 3) (mVar 7)) (Qc (mVar 4) aNil))))) (sSeq (sAug 4 pOr (mVar 9))
  (sSeq (sApp [7] 5 (mVar 7))
  (sSet [] 6 (mC (.bl true))))) sNx))
noncomputable def ZX:MSt:=(sSeq (sSet [] 6 (mC (.bl false)))
  (sFor [2] (Qn QeQ (Qc (mVar 2) aNil)) (Qez 7 8) ZZ))
noncomputable def XS:MSt:=(sSeq (sSet [0] 2 (bin2 pIx (mVar 0) (mN 2)))
  (sSeq (XF [2] 3 (XY (iTpl (mVar 2)) 1 [] (gSet 0) Qdv (Qn Zk (Qc (bin2 pIx (mVar 0) (mN 1)) aNil))))
  (sSeq (sSet [1] 4 (mVar 1))
  (sSeq (XF [] 5 (mLim aNil))
  (sSeq (sSet [] 6 (mC (.bl true)))
  (sSeq (QeN 1000 (mTru (mVar 6)) ZX)
  (QcH 5)))))))
noncomputable def QU:List PV→Option PV:=runV 10 2 XS
theorem Qaz:∀ ps r,QU ps=some r→ps.length=2:=Qv
noncomputable def Qfg:MSt:=(sRet (Qn Zx (Qc (mVar 0) (Qc (mVar 1) (Qc (Qn QU (Qc (mVar 0) (Qc (mVar 1) aNil))) aNil)))))
noncomputable def YZ:List PV→Option PV:=runV 2 2 Qfg
theorem QeB:∀ ps r,YZ ps=some r→ps.length=2:=Qv
noncomputable def Qhc:MSt:=(sSeq (sSet [0,1] 2 (Qn YZ (Qc (mVar 0) (Qc (mVar 1) aNil))))
  (sRet (Qn Zk (Qc (mLst (XY (Qn QeQ (Qc (bin2 pIx (mVar 0) (mN 1)) aNil)) 2 [2] (Qez 0 1) (mTru (Qn Ys (Qc (bin2 pShl (mN 1) (mVar 1)) (Qc (mVar 2) aNil)))) (mVar 0))) aNil))))
noncomputable def YL:List PV→Option PV:=runV 3 2 Qhc
theorem QbQ:∀ ps r,YL ps=some r→ps.length=2:=Qv
noncomputable def Qao (C:Addr):MSt:=(sRet (bin2 pIn (mVar 1) (Qn XB (Qc (bin2 pAnd (YT C "aims" (Zt C) (mVar 0) aNil) (Qn YL (Qc (mFld C "book" (mVar 0)) (Qc (mVar 2) aNil)))) aNil))))
noncomputable def QG (C:Addr):List PV→Option PV:=runV 3 3 (Qao C)
theorem Xd (C:Addr):∀ ps r,QG C ps=some r→ps.length=3:=Qv
noncomputable def QaG (C:Addr):MXE OT:=(eSeq (eIfA 0 (XG C "moves") (truB (bin2 pNe (YT C "turn" (QJ C) (mVar 0) aNil) (mC (.str "doubter")))) (Qcl [] (Qc (mC (.str "the speaker has the turn")) aNil) 2) (Qdw xNx))
  (eSeq (eIfA 0 (XG C "moves") (bNot (mTru (YT C "can_name" (QG C) (mVar 0) (Qc (mVar 1) (Qc (mVar 2) aNil))))) (Qcl [] (Qc (mC (.str "the guess is not held now, or the set does not yield its bane")) aNil) 3) (Qdw xNx))
  (Qdw (xSeq (QcG [1,2] "unanswered" (mTup (Qc (mVar 1) (Qc (mVar 2) aNil))))
  (Qgk [1,2] "moves" (mTup (Qc (mC (.str "doubt")) (Qc (mVar 1) (Qc (mVar 2) aNil)))))))))
noncomputable def QB (C:Addr):Addr→List PV→OT→Option (OT ⊕ (OT×Nat)):=Qfs 3 3 (QaG C)
theorem Qbz (C:Addr):∀ a qs t t',QB C a qs t=some t'→qs.length + 1=3:=QeY
noncomputable def QaF (C:Addr):MXE OT:=(eSeq (eIfA 0 (XG C "moves") (truB (bin2 pNe (YT C "turn" (QJ C) (mVar 0) aNil) (mC (.str "speaker")))) (Qcl [] (Qc (mC (.str "the doubter has the turn")) aNil) 2) (Qdw xNx))
  (eSeq (eIfA 0 (XG C "moves") (bNot (mTru (YT C "can_name" (QG C) (mVar 0) (Qc (mVar 1) (Qc (mVar 2) aNil))))) (Qcl [] (Qc (mC (.str "the guess is none of the doubt's set, or the named set does not yield its bane")) aNil) 4) (Qdw xNx))
  (Qdw (xSeq (QcG [2] "held" (mVar 2))
  (xSeq (QcG [] "unanswered" (mC .non))
  (Qgk [1,2] "moves" (mTup (Qc (mC (.str "reply")) (Qc (mVar 1) (Qc (mVar 2) aNil))))))))))
noncomputable def QA (C:Addr):Addr→List PV→OT→Option (OT ⊕ (OT×Nat)):=Qfs 3 3 (QaF C)
theorem Qby (C:Addr):∀ a qs t t',QA C a qs t=some t'→qs.length + 1=3:=QeY
noncomputable def YA (k d:Nat):Bool:=([(2,2),(3,3),(4,4)]:List (Nat×Nat)).contains (k,d)
noncomputable def Zw (k:Nat) (a:Addr):MSt:=(sSeq (XF [7,7,7,7] 5 (mLim (Qc (mIsE 7 a (YA k 2)) (Qc (mIsE 7 a (YA k 3)) (Qc (mIsE 7 a (YA k 4)) (Qc (mIsE 7 a true) aNil))))))
  (sSeq (XF [7,7,7,7] 6 (mLim (Qc (mIsE 7 a (YA k 5)) (Qc (mIsE 7 a (YA k 6)) (Qc (mIsE 7 a (YA k 7)) (Qc (mIsE 7 a (YA k 8)) aNil))))))
  (XF [6,7] 6 (bin2 pCat (mVar 6) (mLst (mLim (Qc (mIsE 7 a (YA k 1)) aNil)))))))
noncomputable def QbU (C:Addr):PEnv→OT→Option (PV×OT):=(vSeq (Yo 0 (sSet [] 4 (mC .non)))
  (vSeq (Yo 0 (XF [] 5 (mLim aNil)))
  (vSeq (Yo 0 (XF [] 6 (mLim aNil)))
  (vSeq (xTry 0 7 [2,3,4] (eIf (mTru (mVar 1)) (XO 0 4 [2,3] (okM "moves" "doubted") (QB C) (Qc (mVar 2) (Qc (mVar 3) aNil))) (XO 0 4 [2,3] (okM "moves" "replied") (QA C) (Qc (mVar 2) (Qc (mVar 3) aNil)))) Zw)
  (Qfr (sSeq (sIf (truB (bin2 pEq (mVar 5) (mLst (mLim aNil)))) (sRet (bin2 pIx (mLst (mLim (Qc (mN 0) (Qc (mN 64) aNil)))) (Qn pI01 (Qc (bin2 Qdz (mVar 4) (mC .non)) aNil)))) sNx)
  (sSeq (sIf (bOr (truB (bin2 pIn (mC (.bl true)) (mVar 6))) (bNot (mTru (bin2 pIx (mVar 5) (mN 3))))) (sRet (mN 32)) sNx)
  (sRet (bin2 pAdd (bin2 pAdd (bin2 pAdd (mN 128) (Qn pI01 (Qc (bin2 pIx (mVar 5) (mN 0)) aNil))) (bin2 pMul (mN 2) (Qn pI01 (Qc (bin2 pIx (mVar 5) (mN 1)) aNil)))) (bin2 pMul (mN 4) (Qn pI01 (Qc (bin2 pIx (mVar 5) (mN 2)) aNil))))))))))))
noncomputable def ZP (C:Addr):Addr→List PV→OT→Option (PV×OT):=QhO 8 4 (QbU C)
theorem Qcy (C:Addr):∀ a qs t t',ZP C a qs t=some t'→qs.length + 1=4:=QiK
noncomputable def Qdg (C:Addr):MSt:=(Qju (Qn Qce (Qc (mFld C "moves" (mVar 0)) aNil)))
noncomputable def Zi (C:Addr):List PV→Option PV:=runV 1 1 (Qdg C)
theorem Qam (C:Addr):∀ ps r,Zi C ps=some r→ps.length=1:=Qv
noncomputable def QbS:MSt:=(sRet (vAnd (mIsi isInt (mVar 0)) (vNot (mIsi isBl (mVar 0)))))
noncomputable def QE:List PV→Option PV:=runV 1 1 QbS
theorem ZC:∀ ps r,QE ps=some r→ps.length=1:=Qv
noncomputable def Xl:MSt:=(sSeq (sIf (bOr (bNot (mTru (mIsi Qgw (mVar 2)))) (bOr (truB (bin2 pNe (Qn pLen (Qc (mVar 2) aNil)) (mN 3))) (bNot (mTru (mIsi QhP (bin2 pIx (mVar 2) (mN 0))))))) (sRet (mC (.bl false))) sNx)
  (sIf (bOr (bNot (mTru (Qn QE (Qc (bin2 pIx (mVar 2) (mN 1)) aNil)))) (bNot (mTru (Qn QE (Qc (bin2 pIx (mVar 2) (mN 2)) aNil))))) (sRet (mC (.bl false))) sNx))
noncomputable def Qde:MSt:=(sSeq (sIf (bOr (bNot (mTru (mIsi isLst (mVar 0)))) (truB (bin2 pNe (Qn pLen (Qc (mVar 0) aNil)) (Qn pLen (Qc (mVar 1) aNil))))) (sRet (mC (.bl false))) sNx)
  (sSeq (sFor [0] (iLst (mVar 0)) (gSet 2) Xl)
  (sRet (bin2 pEq (mVar 0) (mVar 1)))))
noncomputable def Zh:List PV→Option PV:=runV 3 2 Qde
theorem Qal:∀ ps r,Zh ps=some r→ps.length=2:=Qv
noncomputable def QbT:MSt:=(sSeq (sIf (truB (bin2 pIs (mVar 1) (mC .non))) (sRet (bin2 pIs (mVar 0) (mC .non))) sNx)
  (sSeq (sIf (bOr (bNot (mTru (mIsi Qgw (mVar 0)))) (bOr (truB (bin2 pNe (Qn pLen (Qc (mVar 0) aNil)) (mN 2))) (bOr (bNot (mTru (Qn QE (Qc (bin2 pIx (mVar 0) (mN 0)) aNil)))) (bNot (mTru (Qn QE (Qc (bin2 pIx (mVar 0) (mN 1)) aNil))))))) (sRet (mC (.bl false))) sNx)
  (sRet (bin2 pEq (mVar 0) (mVar 1)))))
noncomputable def ZO:List PV→Option PV:=runV 2 2 QbT
theorem Qcx:∀ ps r,ZO ps=some r→ps.length=2:=Qv
noncomputable def Qdc:MSt:=(sSeq (sIf (truB (bin2 pNe (bin2 pAnd (Qn QP (Qc (mVar 2) (Qc (mVar 3) aNil))) (mVar 1)) (mN 0))) (sRet (bin2 pIs (mVar 0) (mC .non))) sNx)
  (sRet (vAnd (mIsi QhP (mVar 0)) (bin2 pEq (mVar 0) (bin2 pIx (mLst (mLim (Qc (mC (.str "speaker")) (Qc (mC (.str "doubter")) aNil)))) (Qn pI01 (Qc (bin2 Qdz (mVar 3) (mC .non)) aNil)))))))
noncomputable def Ye:List PV→Option PV:=runV 4 4 Qdc
theorem Qdn:∀ ps r,Ye ps=some r→ps.length=4:=Qv
noncomputable def QdW (C:Addr):MSt:=(sRet (mFld C "held" (mVar 0)))
noncomputable def Yg (C:Addr):List PV→Option PV:=runV 1 1 (QdW C)
theorem QaC (C:Addr):∀ ps r,Yg C ps=some r→ps.length=1:=Qv
noncomputable def QaE (C:Addr):MSt:=(sRet (mFld C "unanswered" (mVar 0)))
noncomputable def Zj (C:Addr):List PV→Option PV:=runV 1 1 (QaE C)
theorem Qbx (C:Addr):∀ ps r,Zj C ps=some r→ps.length=1:=Qv
noncomputable def Qbg:MSt:=(sRet (bin2 pSub (bin2 pShl (mN 1) (Qn pLen (Qc (bin2 pIx (mVar 0) (mN 1)) aNil))) (mN 1)))
noncomputable def Zy:List PV→Option PV:=runV 1 1 Qbg
theorem QbK:∀ ps r,Zy ps=some r→ps.length=1:=Qv
noncomputable def Qbk (C:Addr):MSt:=(sSeq (sIf (mTru (bin2 pAnd (YT C "aims" (Zt C) (mVar 0) aNil) (Qn YL (Qc (mFld C "book" (mVar 0)) (Qc (Qn Zy (Qc (mFld C "book" (mVar 0)) aNil)) aNil))))) (sRet (mC .non)) sNx)
  (sRet (mIfE (truB (bin2 pEq (YT C "turn" (QJ C) (mVar 0) aNil) (mC (.str "doubter")))) (mC (.str "speaker")) (mC (.str "doubter")))))
noncomputable def ZA (C:Addr):List PV→Option PV:=runV 1 1 (Qbk C)
theorem QbM (C:Addr):∀ ps r,ZA C ps=some r→ps.length=1:=Qv
noncomputable def Xk (C:Addr):MSt:=(sSeq (sIf (truB (bin2 pEq (mVar 5) (mN 0))) (sSeq (sSet [0] 6 (YT C "turn" (QJ C) (mVar 0) aNil))
  (sIf (bOr (bNot (mTru (mIsi QhP (mVar 6)))) (truB (bin2 pNe (mVar 6) (bin2 pIx (mLst (mLim (Qc (mC (.str "doubter")) (Qc (mC (.str "speaker")) aNil)))) (Qn pI01 (Qc (bin2 Qdz (mVar 3) (mC .non)) aNil)))))) (sRet (mC (.bl false))) sNx)) sNx)
  (sSeq (sIf (bAnd (truB (bin2 pEq (mVar 5) (mN 1))) (bOr (bNot (mTru (Qn QE (Qc (YT C "now" (Yg C) (mVar 0) aNil) aNil)))) (truB (bin2 pNe (YT C "now" (Yg C) (mVar 0) aNil) (mVar 2))))) (sRet (mC (.bl false))) sNx)
  (sSeq (sIf (bAnd (truB (bin2 pEq (mVar 5) (mN 2))) (bNot (mTru (Qn ZO (Qc (YT C "waiting" (Zj C) (mVar 0) aNil) (Qc (mVar 3) aNil)))))) (sRet (mC (.bl false))) sNx)
  (sIf (bAnd (truB (bin2 pEq (mVar 5) (mN 3))) (bNot (mTru (Qn Ye (Qc (YT C "winner" (ZA C) (mVar 0) aNil) (Qc (mVar 1) (Qc (mVar 2) (Qc (mVar 3) aNil)))))))) (sRet (mC (.bl false))) sNx))))
noncomputable def Qdd (C:Addr):MSt:=(sSeq (sFor [4] (iLst (bin2 pIx (mLst (mLim (Qc (mLst (mLim (Qc (mN 0) (Qc (mN 1) (Qc (mN 2) (Qc (mN 3) aNil)))))) (Qc (mLst (mLim (Qc (mN 3) (Qc (mN 2) (Qc (mN 1) (Qc (mN 0) aNil)))))) aNil)))) (mVar 4))) (gSet 5) (Xk C))
  (sRet (mC (.bl true))))
noncomputable def QQ (C:Addr):List PV→Option PV:=runV 7 5 (Qdd C)
theorem Xc (C:Addr):∀ ps r,QQ C ps=some r→ps.length=5:=Qv
noncomputable def QbX:MSt:=(sSeq (sIf (bNot (mTru (mVar 1))) (sRet (mN 129)) sNx)
  (sSeq (sIf (bAnd (truB (bin2 pLe (mN 0) (mVar 4))) (bAnd (truB (bin2 pLt (mVar 4) (Qn pLen (Qc (bin2 pIx (mVar 0) (mN 1)) aNil)))) (truB (bin2 pEq (bin2 pAnd (bin2 pShr (mVar 3) (mVar 4)) (mN 1)) (mN 1))))) (sIf (truB (bin2 pIn (bin2 pIx (bin2 pIx (mVar 0) (mN 1)) (mVar 4)) (Qn QY (Qc (mVar 0) (Qc (mVar 5) aNil))))) (sRet (mN 0)) sNx) sNx)
  (sRet (bin2 pIx (mLst (mLim (Qc (mN 132) (Qc (mN 130) aNil)))) (Qn pI01 (Qc (mVar 2) aNil))))))
noncomputable def Zr:List PV→Option PV:=runV 6 6 QbX
theorem QcB:∀ ps r,Zr ps=some r→ps.length=6:=Qv
noncomputable def Xt (C:Addr):MX OT:=(xSeq (Yo 11 (sSet [8] 14 (bin2 pIs (mVar 8) (mC .non))))
  (xSeq (Yo 11 (sSet [5,8] 15 (Qn QP (Qc (mVar 5) (Qc (mVar 8) aNil)))))
  (xSeq (Yo 11 (sIf (truB (bin2 pEq (bin2 pMod (mVar 13) (mN 5)) (mN 0))) (sSet [14] 14 (vNot (mVar 14))) sNx))
  (xSeq (Yo 11 (sSet [13,15,1] 16 (Qn Zq (Qc (bin2 pDiv (mVar 13) (mN 10)) (Qc (mVar 15) (Qc (mVar 1) aNil))))))
  (xSeq (Yo 11 (sSet [13,1,6,13] 17 (bin2 pIx (mLst (mLim (Qc (bin2 pMod (bin2 pDiv (mVar 13) (mN 360)) (bin2 pShl (mN 1) (mVar 1))) (Qc (mVar 6) aNil)))) (bin2 pMod (bin2 pDiv (mVar 13) (mN 5)) (mN 2)))))
  (xSeq (QeL 11 18 [14,16,17] (ZP C) (Qc (mVar 14) (Qc (mVar 16) (Qc (mVar 17) aNil))))
  (xSeq (Yo 11 (sIf (truB (bin2 pNe (mVar 18) (Qn Zr (Qc (mVar 4) (Qc (bin2 pEq (mVar 14) (bin2 pIs (mVar 8) (mC .non))) (Qc (mVar 14) (Qc (mVar 15) (Qc (mVar 16) (Qc (mVar 17) aNil))))))))) (sRet (mC (.bl false))) sNx))
  (xSeq (Yo 11 (sIf (truB (bin2 pEq (mVar 18) (mN 0))) (sSeq (sApp [14,16,17] 9 (mTup (Qc (bin2 pIx (mLst (mLim (Qc (mC (.str "reply")) (Qc (mC (.str "doubt")) aNil)))) (Qn pI01 (Qc (mVar 14) aNil))) (Qc (mVar 16) (Qc (mVar 17) aNil)))))
  (sSeq (sSet [] 8 (mC .non))
  (sIf (mTru (mVar 14)) (sSet [16,17] 8 (mTup (Qc (mVar 16) (Qc (mVar 17) aNil)))) (sSet [17] 5 (mVar 17))))) sNx))
  (xSeq (xCp 11 19 "moves" "said")
  (xSeq (xIfA 11 (XG C "moves") (bOr (bNot (mTru (Qn Zh (Qc (mVar 19) (Qc (mVar 9) aNil))))) (bNot (mTru (Qn (QQ C) (Qc (mVar 11) (Qc (mVar 7) (Qc (mVar 5) (Qc (mVar 8) (Qc (bin2 pMod (bin2 pDiv (mVar 13) (mN 7)) (mN 2)) aNil))))))))) (Yo 11 (sRet (mC (.bl false)))) xNx)
  (xSeq (Yo 11 (sApp [] 19 (mTup (Qc (mC (.str "doubt")) (Qc (mN 0) (Qc (mN 0) aNil))))))
  (Yo 11 (sApp [19,19] 10 (mLst (mLim (Qc (mVar 19) (Qc (mLst (Qn Qce (Qc (mVar 19) aNil))) aNil)))))))))))))))))
noncomputable def Qfh (C:Addr):MSt:=(sSeq (sSet [0] 1 (bin2 pMod (Qn Qt (Qc (mVar 0) (Qc (mN 0) aNil))) (mN 9)))
  (sSeq (sSet [1,0] 2 (bin2 pAdd (mVar 1) (bin2 pMod (bin2 pAdd (bin2 pDiv (Qn Qt (Qc (mVar 0) (Qc (mN 0) aNil))) (mN 9)) (mN 1)) (mN 8))))
  (sSeq (sSet [0] 3 (bin2 pAdd (mN 3) (bin2 pMod (Qn Qt (Qc (mVar 0) (Qc (mN 2) aNil))) (mN 9))))
  (sSeq (sSet [0,1,2,3] 4 (Qn QW (Qc (mVar 0) (Qc (mVar 1) (Qc (mVar 2) (Qc (mVar 3) aNil))))))
  (sSeq (sSet [0,1] 5 (bin2 pMod (bin2 pDiv (Qn Qt (Qc (mVar 0) (Qc (mN 2) aNil))) (mN 9)) (bin2 pShl (mN 1) (mVar 1))))
  (sSeq (sSet [1] 6 (bin2 pSub (bin2 pShl (mN 1) (mVar 1)) (mN 1)))
  (sSeq (sSet [4,6] 7 (Qn ZQ (Qc (mVar 4) (Qc (mVar 6) aNil))))
  (sSeq (sPar3 8 9 10 (mC .non))
  (QhM 11 [4,5] (Qc (mVar 4) (Qc (mVar 5) aNil)) (QH C) (xSeq (Yo 11 (sSet [4,6] 12 (Qjx C "moves" (QH C) (Qc (mVar 4) (Qc (mVar 6) aNil)))))
  (xSeq (xFor 11 [0,3,3] (iLst (mLst (sl3 pCut (mVar 0) (mSo (mVar 3)) (mSo (bin2 pAdd (mVar 3) (mN 30)))))) (gSet 13) (Xt C))
  (xSeq (QhK 11 20 (XG C "moves") (vAnd (Qn Zh (Qc (YT C "said" (Zi C) (mVar 11) aNil) (Qc (mVar 9) aNil))) (Qn (QQ C) (Qc (mVar 11) (Qc (mVar 7) (Qc (mVar 5) (Qc (mVar 8) (Qc (mN 1) aNil))))))))
  (xSeq (Yo 11 (sSet [20,12,7,6,12] 20 (vAnd (mVar 20) (vAnd (Qn (QQ C) (Qc (mVar 12) (Qc (mVar 7) (Qc (mVar 6) (Qc (mC .non) (Qc (mN 0) aNil)))))) (bin2 pEq (YT C "said" (Zi C) (mVar 12) aNil) (mLst (mLim aNil)))))))
  (Yo 11 (sRet (vAnd (mVar 20) (Qn Qgp (Qc (mLst (XY (iLst (mVar 10)) 1 [] (gSet 0) Qdv (bin2 pEq (bin2 pIx (mVar 0) (mN 0)) (bin2 pIx (mVar 0) (mN 1))))) aNil))))))))))))))))))
noncomputable def QaY (C:Addr):List PV→Option PV:=runV 21 1 (Qfh C)
end DH

noncomputable section
namespace DH
open PySem PySem.Spec PyProof.Rows L2 L2.PM
local macro_rules | `(tactic| walk_at "ev") => `(tactic| try simp (disch:=first | assumption | omega | (simp only [encN_len,List.length_map,List.length_range,List.length_cons,List.length_nil,List.length_append];omega) | decide) only [EVc,List.length_cons,List.length_nil,if_true,List.map_cons,List.map_nil,List.replicate_zero,List.replicate_succ,List.cons_append,List.nil_append,List.getElem?_cons_zero,List.getElem?_cons_succ,Option.bind_some,Option.map_some,List.set_cons_zero,List.set_cons_succ,List.length_map,List.length_range,List.all_nil,List.all_cons,List.length_append])
theorem e_cell (ns:List Int) (k:Nat):Qt [.lst (ns.map .int),pN k]=some (.int (ns.getD k 0)):=by
  unfold Qt QaD
  walk_at "ev"
  by_cases h:k < ns.length
  · rw [decide_eq_true h]
    walk_at "ev"
    simp [h]
    rfl
  · rw [decide_eq_false h]
    walk_at "ev"
    simp [h]
    rfl
end DH

noncomputable section
namespace DH
open PySem PySem.Spec PyProof.Rows L2 L2.PM
local macro_rules | `(tactic| walk_at "ev") => `(tactic| try simp (disch:=first | assumption | omega | (simp only [encN_len,List.length_map,List.length_range,List.length_cons,List.length_nil,List.length_append];omega) | decide) only [EVc,List.length_cons,List.length_nil,if_true,List.map_cons,List.map_nil,List.replicate_zero,List.replicate_succ,List.cons_append,List.nil_append,List.getElem?_cons_zero,List.getElem?_cons_succ,Option.bind_some,Option.map_some,List.set_cons_zero,List.set_cons_succ,List.length_map,List.length_range,List.all_nil,List.all_cons,List.length_append])
theorem e_whole_n (i:Nat):QE [pN i]=some (.bl true):=by
  unfold QE QbS
  walk_at "ev"
end DH

noncomputable section
namespace DH
open PySem PySem.Spec PyProof.Rows L2 L2.PM
noncomputable def XH (row:List Nat):Nat:=row.foldl (fun m k=>m|||2 ^ k) 0
theorem QbP (k:Nat):∀ (row:List Nat) (m:Nat),(row.foldl (fun m k=>m|||2 ^ k) m).testBit k=(m.testBit k||decide (k∈row))
  | [],m=>by simp
  | x :: r,m=>by
    rw [List.foldl_cons,QbP k r,Nat.testBit_or,Nat.testBit_two_pow]
    by_cases h:x=k
    · subst h;simp
    · have h':k≠x:=fun e=>h e.symm
      simp [h,h']
theorem Xj (row:List Nat) (k:Nat):(XH row).testBit k=decide (k∈row):=by
  unfold XH
  rw [QbP];simp
noncomputable def insB (a b:Nat):Bool:=(a&&&b)==a
theorem QgP {a b:Nat}:insB a b=true↔∀ k,a.testBit k=true→b.testBit k=true:=by
  unfold insB
  rw [beq_iff_eq]
  constructor
  · intro h k hk
    rw [← h,Nat.testBit_and] at hk
    simp at hk
    exact hk.2
  · intro h
    refine Nat.eq_of_testBit_eq fun k => ?_
    rw [Nat.testBit_and]
    cases hk:a.testBit k with
    | false=>rfl
    | true=>rw [h k hk];rfl
theorem QgO {k b:Nat}:insB (2 ^ k) b=b.testBit k:=by
  rw [Bool.eq_iff_iff,QgP]
  constructor
  · intro h;exact h k Nat.testBit_two_pow_self
  · intro h j hj
    rw [Nat.testBit_two_pow] at hj
    simp at hj
    rw [← hj];exact h
theorem QiY {row:List Nat} {b:Nat}:insB (XH row) b=row.all fun k=>b.testBit k:=by
  rw [Bool.eq_iff_iff,QgP,List.all_eq_true]
  constructor
  · intro h k hk;exact h k (by rw [Xj];simpa using hk)
  · intro h k hk;rw [Xj] at hk;exact h k (by simpa using hk)
local macro_rules | `(tactic| walk_at "ev") => `(tactic| try simp (disch:=first | assumption | omega | (simp only [encN_len,List.length_map,List.length_range,List.length_cons,List.length_nil,List.length_append];omega) | decide) only [EVc,List.length_cons,List.length_nil,if_true,List.map_cons,List.map_nil,List.replicate_zero,List.replicate_succ,List.cons_append,List.nil_append,List.getElem?_cons_zero,List.getElem?_cons_succ,Option.bind_some,Option.map_some,List.set_cons_zero,List.set_cons_succ,List.length_map,List.length_range,List.all_nil,List.all_cons,List.length_append])
theorem e_inside (a b:Nat):Ys [pN a,pN b]=some (.bl (insB a b)):=by
  unfold Ys Qhe
  walk_at "ev"
  rfl
theorem QgM {row:List Nat} (h:∀ k∈row,k≤1000) (s2:Slot) (sl:Slot):∃ s2',forL (gSet 2) Qaw (encN row) [sl,.fz (pN 0),s2]=some (.nx [sl,.fz (pN (XH row)),s2']):=by
  obtain ⟨γ',e,s2',rfl⟩:=QgV (g:=gSet 2) (b:=Qaw) pN (fun (m:Nat) (k:Nat)=>m|||2 ^ k)
    (fun m γ=>∃ s2,γ=[sl,.fz (pN m),s2]) row 0 [sl,.fz (pN 0),s2] ⟨s2,rfl⟩ (by
      rintro m γ k hk ⟨s2,rfl⟩
      have:=h k hk
      refine ⟨_,_,rfl,?_,.fz (pN k),rfl⟩
      unfold Qaw
      walk_at "ev")
  exact ⟨s2',e⟩
theorem Qha {row:List Nat} (h:∀ k∈row,k≤1000):Zk [.lst (encN row)]=some (pN (XH row)):=by
  unfold Zk QcV
  walk_at "ev"
  obtain ⟨s,e⟩:=QgM h .un (.fz (.lst (encN row)))
  rw [e]
  walk_at "ev"
theorem e_mask_t {row:List Nat} (h:∀ k∈row,k≤1000):Zk [.tup (encN row)]=some (pN (XH row)):=by
  unfold Zk QcV
  walk_at "ev"
  obtain ⟨s,e⟩:=QgM h .un (.fz (.tup (encN row)))
  rw [e]
  walk_at "ev"
end DH

noncomputable section
namespace DH
open PySem PySem.Spec PyProof.Rows L2 L2.PM
structure Rule where
  head:Nat
  body:List Nat
structure Bk where
  words:Nat
  banes:List Nat
  rules:List Rule
noncomputable def Rule.enc (r:Rule):PV := .tup [pN r.head,.tup (encN r.body)]
noncomputable def Bk.enc (b:Bk):PV := .tup [pN b.words,.tup (encN b.banes),.tup (b.rules.map Rule.enc)]
structure Bk.Ok (b:Bk):Prop where
  g8:b.banes.length≤8
  gw:b.banes.length≤b.words
  w60:b.words≤60
  r40:b.rules.length≤48
  bane:∀ x∈b.banes,x < b.words
  hd:∀ r∈b.rules,b.banes.length≤r.head∧r.head < b.words
  bd:∀ r∈b.rules,r.body.Pairwise (· < ·)∧∀ x∈r.body,x < b.words
inductive Way (b:Bk) (held:Nat):List Nat→Nat→Prop
  | nil:Way b held [] held
  | snoc {steps known i r}:Way b held steps known→b.rules[i]?=some r→(∀ x∈r.body,known.testBit x=true)→known.testBit r.head=false→Way b held (steps++[i]) (known|||2 ^ r.head)
noncomputable def Xx (b:Bk) (known:Nat):Prop:=∀ r∈b.rules,(∀ x∈r.body,known.testBit x=true)→known.testBit r.head=true
inductive Der (b:Bk) (held:Nat):Nat→Prop
  | held {w}:held.testBit w=true→Der b held w
  | rule {r}:r∈b.rules→(∀ x∈r.body,Der b held x)→Der b held r.head
theorem ZD (m k j:Nat):(m|||2 ^ k).testBit j=(m.testBit j||decide (k=j)):=by
  rw [Nat.testBit_or,Nat.testBit_two_pow]
theorem Way.der {b:Bk} {held:Nat} {steps:List Nat} {known:Nat} (h:Way b held steps known):∀ w,known.testBit w=true→Der b held w:=by
  induction h with
  | nil=>exact fun w hw => .held hw
  | snoc _ hr hb _ ih =>
    intro w hw
    rw [ZD] at hw
    simp at hw
    rcases hw with hw | hw
    · exact ih w hw
    · subst hw;exact .rule (List.mem_of_getElem? hr) fun x hx=>ih x (hb x hx)
theorem Way.sub {b:Bk} {held:Nat} {steps:List Nat} {known:Nat} (h:Way b held steps known):∀ w,held.testBit w=true→known.testBit w=true:=by
  induction h with
  | nil=>exact fun w hw=>hw
  | snoc _ hr hb _ ih =>
    intro w hw
    rw [ZD,ih w hw];rfl
theorem Xx.der {b:Bk} {held known:Nat} (c:Xx b known) (s:∀ w,held.testBit w=true→known.testBit w=true) {w:Nat} (h:Der b held w):known.testBit w=true:=by
  induction h with
  | held hw=>exact s _ hw
  | rule hr _ ih=>exact c _ hr ih
noncomputable def IsYl (b:Bk) (held known:Nat):Prop:=∀ w,known.testBit w=true↔Der b held w
theorem IsYl.of {b:Bk} {held:Nat} {steps:List Nat} {known:Nat} (h:Way b held steps known) (c:Xx b known):IsYl b held known:=fun w=>⟨h.der w,c.der h.sub⟩
theorem IsYl.unique {b:Bk} {held k1 k2:Nat} (h1:IsYl b held k1) (h2:IsYl b held k2):k1=k2 :=
  Nat.eq_of_testBit_eq fun w=>by rw [Bool.eq_iff_iff,h1 w,h2 w]
theorem Der.mono {b:Bk} {h1 h2:Nat} (s:∀ w,h1.testBit w=true→h2.testBit w=true) {w:Nat} (d:Der b h1 w):Der b h2 w:=by
  induction d with
  | held hw=>exact .held (s _ hw)
  | rule hr _ ih=>exact .rule hr ih
theorem Der.lt {b:Bk} (ok:b.Ok) {held:Nat} (hh:held < 2 ^ b.words) {w:Nat} (d:Der b held w):w < b.words:=by
  induction d with
  | held hw =>
    rename_i w
    rcases Nat.lt_or_ge w b.words with h | h
    · exact h
    · have:held < 2 ^ w:=Nat.lt_of_lt_of_le hh (Nat.pow_le_pow_right (by decide) h)
      rw [Nat.testBit_lt_two_pow this] at hw;cases hw
  | rule hr _ _=>exact (ok.hd _ hr).2
theorem Der.guess {b:Bk} (ok:b.Ok) {held g:Nat} (hg:g < b.banes.length) (d:Der b held g):held.testBit g=true:=by
  cases d with
  | held hw=>exact hw
  | rule hr _=>have:=(ok.hd _ hr).1;omega
noncomputable def left (b:Bk) (known:Nat):Nat:=(b.rules.filter fun r => !known.testBit r.head).length
theorem Qfe {α:Type} {p q:α→Bool}:∀ {l:List α} {x:α},x∈l→p x=true→q x=false→(∀ y,q y=true→p y=true)→(l.filter q).length < (l.filter p).length
  | y :: l,x,hx,hp,hq,hi=>by
    have le:∀ l:List α,(l.filter q).length≤(l.filter p).length:=by
      intro l
      induction l with
      | nil=>exact Nat.le_refl _
      | cons z l ih =>
        rw [List.filter_cons,List.filter_cons]
        cases hz:q z with
        | true=>rw [hi z hz];simp;exact ih
        | false=>cases p z <;> simp <;> omega
    rcases List.mem_cons.mp hx with e | e
    · subst e
      rw [List.filter_cons_of_pos hp,List.filter_cons_of_neg (by simp [hq])]
      have:=le l
      simp only [List.length_cons];omega
    · have:=Qfe e hp hq hi
      rw [List.filter_cons,List.filter_cons]
      cases hz:q y with
      | true=>rw [hi y hz];simp;omega
      | false=>cases p y <;> simp <;> omega
theorem Way.left {b:Bk} {held:Nat} {steps:List Nat} {known:Nat} (h:Way b held steps known):steps.length + left b known≤b.rules.length:=by
  induction h with
  | nil=>rw [List.length_nil,Nat.zero_add];exact List.length_filter_le _ _
  | snoc _ hr hb hn ih =>
    rename_i st kn i r _
    have:DH.left b (kn|||2 ^ r.head) < DH.left b kn:=Qfe (List.mem_of_getElem? hr) (by simp [hn]) (by rw [ZD];simp) (fun y hy=>by
      rw [ZD] at hy
      simp at hy
      simp [hy.1])
    simp only [List.length_append,List.length_cons,List.length_nil]
    omega
noncomputable def hds (b:Bk) (steps:List Nat):List Nat:=steps.map fun i=>(b.rules.getD i ⟨0,[]⟩).head
theorem Way.known {b:Bk} {held:Nat} {steps:List Nat} {known:Nat} (h:Way b held steps known):known=held|||XH (hds b steps):=by
  induction h with
  | nil=>show held=held|||0;simp
  | snoc _ hr hb _ ih =>
    rename_i st kn i r _ _
    have e:(b.rules.getD i ⟨0,[]⟩)=r:=by simp [hr]
    have e2:XH (hds b (st++[i]))=XH (hds b st)|||2 ^ r.head:=by
      unfold hds XH
      rw [List.map_append,List.foldl_append]
      simp only [List.map_cons,List.map_nil,List.foldl_cons,List.foldl_nil,e]
    rw [e2,ih,Nat.or_assoc]
theorem Way.lt {b:Bk} {held:Nat} {steps:List Nat} {known:Nat} (h:Way b held steps known):∀ i∈steps,i < b.rules.length:=by
  induction h with
  | nil=>simp
  | snoc _ hr hb _ ih =>
    intro i hi
    rcases List.mem_append.mp hi with h | h
    · exact ih i h
    · rw [List.mem_singleton.mp h];exact (List.getElem?_eq_some_iff.mp hr).1
theorem QcO {t:PEnv→Option Bool} {b:MSt} {Post:PEnv→Prop} (I:Nat→PEnv→Prop)
    (step:∀ n γ,I n γ→(t γ=some false∧Post γ)∨(t γ=some true∧∃ γ2 m,b γ=some (.nx γ2)∧m < n∧I m γ2)) :
    ∀ (N n:Nat) (γ:PEnv),I n γ→n < N→∃ γ',QaN t b N γ=some (.nx γ')∧Post γ'
  | 0,_,_,_,h=>by omega
  | N + 1,n,γ,hI,hn=>by
    rcases step n γ hI with ⟨ht,hp⟩ | ⟨ht,γ2,m,hb,hm,h2⟩
    · exact ⟨γ,by unfold QaN;rw [ht];rfl,hp⟩
    · obtain ⟨γ',e,p⟩:=QcO I step N m γ2 h2 (by omega)
      exact ⟨γ',by unfold QaN;rw [ht,Option.bind_some,if_pos rfl,hb];exact e,p⟩
end DH

noncomputable section
namespace DH
open PySem PySem.Spec PyProof.Rows L2 L2.PM
theorem enc_ix0 (b:Bk):pIx b.enc (pN 0)=some (pN b.words):=rfl
theorem enc_ix1 (b:Bk):pIx b.enc (pN 1)=some (.tup (encN b.banes)):=rfl
theorem enc_ix2 (b:Bk):pIx b.enc (pN 2)=some (.tup (b.rules.map Rule.enc)):=rfl
theorem renc_ix0 (r:Rule):pIx r.enc (pN 0)=some (pN r.head):=rfl
theorem renc_ix1 (r:Rule):pIx r.enc (pN 1)=some (.tup (encN r.body)):=rfl
theorem flat_benc (b:Bk):flat b.enc=false:=rfl
theorem flat_renc (r:Rule):flat r.enc=false:=rfl
noncomputable def Qjy (b:Bk):List PV:=b.rules.map fun r=>pN (XH r.body)
theorem zipIdx_map {α β:Type} (f:α→β) (xs:List α):(xs.map f).zipIdx=xs.zipIdx.map fun p=>(f p.1,p.2):=by
  rw [List.zipIdx_map]
  exact List.map_congr_left fun p _=>rfl
local macro_rules | `(tactic| walk_at "ev") => `(tactic| try simp (disch:=first | assumption | omega | (simp only [encN_len,encN_len,List.length_map,List.length_range,List.length_cons,List.length_nil,List.length_append];omega) | decide) only [encN_len,encN_flat,enc_ix0,enc_ix1,enc_ix2,renc_ix0,renc_ix1,flat_benc,flat_renc,e_inside,EVc,List.length_cons,List.length_nil,if_true,List.map_cons,List.map_nil,List.replicate_zero,List.replicate_succ,List.cons_append,List.nil_append,List.getElem?_cons_zero,List.getElem?_cons_succ,Option.bind_some,Option.map_some,List.set_cons_zero,List.set_cons_succ,List.length_map,List.length_range,List.all_nil,List.all_cons,List.length_append])
noncomputable def look (b:Bk) (held:Nat) (known:Nat) (steps:List Nat) (grown:Bool) (s7 s8 s9:Slot):PEnv :=
  [.fz b.enc,.fz (pN held),.fz (.tup (b.rules.map Rule.enc)),.ow (Qjy b),.fz (pN known),.ow (encN steps),.fz (.bl grown),s7,s8,s9]
noncomputable def QcL (known:Nat) (r:Rule):Bool := !known.testBit r.head&&r.body.all fun k=>known.testBit k
theorem turn_b1 {b:Bk} (ok:b.Ok) {held known i:Nat} {steps:List Nat} {grown:Bool} {s9:Slot} {r:Rule} (hi:b.rules[i]?=some r) (hs:steps.length≤100) :
    ∃ s7 s8 s9',ZZ (look b held known steps grown (.fz (pN i)) (.fz r.enc) s9)=some (.nx (match QcL known r with
      | true=>look b held (known|||2 ^ r.head) (steps++[i]) true s7 s8 s9' | false=>look b held known steps grown s7 s8 s9')):=by
  have hm:=List.mem_of_getElem? hi
  have hh:=(ok.hd r hm).2
  have hw:=ok.w60
  refine ⟨.fz (pN i),.fz r.enc,.fz (pN (2 ^ r.head)),?_⟩
  unfold ZZ look QcL
  walk_at "ev"
  rw [QgO]
  cases hk:known.testBit r.head with
  | true=>walk_at "ev"
  | false =>
    walk_at "ev"
    have e:(Qjy b)[i]?=some (pN (XH r.body)):=by unfold Qjy;rw [List.getElem?_map,hi];rfl
    rw [e]
    walk_at "ev"
    rw [QiY]
    cases hb:r.body.all fun k=>known.testBit k with
    | true =>
      walk_at "ev"
      rw [YQ (by rw [encN_len];omega) rfl]
      walk_at "ev"
      simp [encN]
    | false=>walk_at "ev"
theorem Qbb {known:Nat} {r:Rule}:QcL known r=true↔known.testBit r.head=false∧∀ x∈r.body,known.testBit x=true:=by
  unfold QcL
  simp
theorem round_b2 {b:Bk} (ok:b.Ok) {held known:Nat} {steps:List Nat} {grown:Bool} {s7 s8 s9:Slot} (w:Way b held steps known) :
    ∃ known' steps' grown' s7' s8' s9',ZX (look b held known steps grown s7 s8 s9)=some (.nx (look b held known' steps' grown' s7' s8' s9'))∧Way b held steps' known' ∧
      (grown'=false→Xx b known')∧(grown'=true→steps.length < steps'.length)∧steps.length≤steps'.length:=by
  unfold ZX look
  walk_at "ev"
  rw [zipIdx_map,List.map_map]
  obtain ⟨γ',e,known',steps',grown',t7,t8,t9,rfl,h1,h2,h3,h4⟩:=XE (g:=Qez 7 8) (b:=ZZ) (fun (p:Rule×Nat)=>PV.tup [pN p.2,p.1.enc])
    (fun pre γ=>∃ known' steps' grown' t7 t8 t9,γ=look b held known' steps' grown' t7 t8 t9∧Way b held steps' known'∧steps.length≤steps'.length ∧
      (grown'=false→∀ p∈pre,QcL known' p.1=false)∧(grown'=true→steps.length < steps'.length))
    b.rules.zipIdx b.rules.zipIdx [] (look b held known steps false s7 s8 s9) rfl ⟨known,steps,false,s7,s8,s9,rfl,w,Nat.le_refl _,by simp,by simp⟩ (by
      rintro pre p post γ hpre ⟨kn,st,gr,t7,t8,t9,rfl,h1,h2,h3,h4⟩
      have hp:p∈b.rules.zipIdx:=by rw [← hpre];simp
      have hi:b.rules[p.2]?=some p.1:=by
        have:=List.mem_zipIdx_iff_getElem?.mp hp
        simpa using this
      have hl:=h1.left
      have hr:=ok.r40
      obtain ⟨u7,u8,u9,e⟩:=turn_b1 ok (held:=held) (known:=kn) (steps:=st) (grown:=gr) (s9:=t9) hi (by omega)
      refine ⟨_,_,rfl,e,?_⟩
      cases hf:QcL kn p.1 with
      | true =>
        obtain ⟨f1,f2⟩:=Qbb.mp hf
        refine ⟨_,_,_,_,_,_,rfl,h1.snoc hi f2 f1,by simp;omega,by simp,fun _=>by simp;omega⟩
      | false =>
        refine ⟨_,_,_,_,_,_,rfl,h1,h2,fun hg q hq => ?_,h4⟩
        rcases List.mem_append.mp hq with z | z
        · exact h3 hg q z
        · rw [List.mem_singleton.mp z];exact hf)
  unfold look at e
  refine ⟨known',steps',grown',t7,t8,t9,?_,h1,fun hg r hr hb => ?_,h4,h2⟩
  · exact e
  · obtain ⟨i,hi,hri⟩:=List.mem_iff_getElem.mp hr
    have:=h3 hg (r,i) (List.mem_zipIdx_iff_getElem?.mpr (by simp [hi,hri]))
    cases hk:known'.testBit r.head with
    | true=>rfl
    | false =>
      have:=Qbb.mpr ⟨hk,hb⟩
      simp_all
theorem QhG {b:Bk} (ok:b.Ok) (held:Nat):∃ steps known,QU [b.enc,pN held]=some (.lst (encN steps))∧Way b held steps known∧Xx b known:=by
  unfold QU XS
  have hr:=ok.r40
  have hw:=ok.w60
  walk_at "ev"
  rw [Qbd Rule.enc (fun r=>pN (XH r.body)) b.rules fun r hr=>⟨_,rfl,?_⟩]
  · have fl:(b.rules.map fun r=>pN (XH r.body)).all flat=true:=by rw [List.all_map,List.all_eq_true];exact fun _ _=>rfl
    rw [Option.map_some,fl]
    walk_at "ev"
    obtain ⟨γ',e,known,steps,s7,s8,s9,rfl,h1,h2⟩:=QcO (t:=mTru (mVar 6)) (b:=ZX)
      (Post:=fun γ=>∃ known steps s7 s8 s9,γ=look b held known steps false s7 s8 s9∧Way b held steps known∧Xx b known)
      (fun n γ=>∃ known steps grown s7 s8 s9,γ=look b held known steps grown s7 s8 s9∧Way b held steps known∧(grown=false→Xx b known)∧n=2 * (b.rules.length + 1 - steps.length) + (if grown=true then 1 else 0))
      (by
        rintro n γ ⟨known,steps,grown,s7,s8,s9,rfl,h1,h2,rfl⟩
        have hl:=h1.left
        cases grown with
        | false =>
          refine .inl ⟨?_,known,steps,s7,s8,s9,rfl,h1,h2 rfl⟩
          unfold look
          walk_at "ev"
        | true =>
          refine .inr ⟨?_,?_⟩
          · unfold look
            walk_at "ev"
          · obtain ⟨kn,st,gr,t7,t8,t9,e,w,c,l,l2⟩:=round_b2 ok (grown:=true) (s7:=s7) (s8:=s8) (s9:=s9) h1
            have hl2:=w.left
            cases gr with
            | true=>exact ⟨_,_,e,by have:=l rfl;simp;omega,kn,st,true,t7,t8,t9,rfl,w,c,rfl⟩
            | false=>exact ⟨_,_,e,by simp;omega,kn,st,false,t7,t8,t9,rfl,w,c,rfl⟩)
      1000 (2 * (b.rules.length + 1) + 1) (look b held held [] true .un .un .un) ⟨held,[],true,.un,.un,.un,rfl,.nil,by simp,by simp⟩ (by omega)
    unfold look at e
    refine ⟨steps,known,?_,h1,h2⟩
    unfold QeN
    rw [show Qjy b=b.rules.map fun r=>pN (XH r.body) from rfl,show encN []=[] from rfl] at e
    rw [e]
    walk_at "ev"
  · have:=(ok.bd r hr).2
    walk_at "ev"
    rw [e_mask_t fun k hk=>by have:=this k hk;omega]
noncomputable def yl (b:Bk) (held:Nat):Nat:=Classical.epsilon (IsYl b held)
theorem way_ex {b:Bk} {held:Nat}:∀ (n:Nat) (steps:List Nat) (known:Nat),Way b held steps known→b.rules.length - steps.length=n→∃ steps' known',Way b held steps' known'∧Xx b known':=by
  intro n
  induction n with
  | zero =>
    intro steps known h hn
    refine ⟨steps,known,h,fun r hr hb=>Classical.byContradiction fun hc => ?_⟩
    obtain ⟨i,hi⟩:=List.getElem?_of_mem hr
    have:=(Way.snoc h hi hb (by simpa using hc)).left
    simp only [List.length_append,List.length_cons,List.length_nil] at this
    omega
  | succ n ih =>
    intro steps known h hn
    by_cases hc:Xx b known
    · exact ⟨steps,known,h,hc⟩
    · obtain ⟨r,hr⟩:=Classical.not_forall.mp hc
      obtain ⟨hr,hr2⟩:=Classical.not_imp.mp hr
      obtain ⟨hb,hh⟩:=Classical.not_imp.mp hr2
      obtain ⟨i,hi⟩:=List.getElem?_of_mem hr
      exact ih _ _ (Way.snoc h hi hb (by simpa using hh)) (by simp only [List.length_append,List.length_cons,List.length_nil];omega)
theorem yl_is {b:Bk} (ok:b.Ok) (held:Nat):IsYl b held (yl b held):=by
  obtain ⟨steps,known,h1,h2⟩:=way_ex _ [] held .nil rfl
  exact Classical.epsilon_spec (p:=IsYl b held) ⟨known,.of h1 h2⟩
theorem yl_eq {b:Bk} (ok:b.Ok) {held known:Nat} (h:IsYl b held known):known=yl b held:=h.unique (yl_is ok held)
theorem hds_lt {b:Bk} (ok:b.Ok) {steps:List Nat} (h:∀ i∈steps,i < b.rules.length):∀ k∈hds b steps,k < b.words:=by
  intro k hk
  obtain ⟨i,hi,rfl⟩:=List.mem_map.mp hk
  have:=h i hi
  have e:b.rules.getD i ⟨0,[]⟩=b.rules[i]:=by simp [this]
  rw [e]
  exact (ok.hd _ (List.getElem_mem this)).2
theorem QeG {b:Bk} (ok:b.Ok) {held known:Nat} {steps:List Nat} (w:Way b held steps known):Zx [b.enc,pN held,.lst (encN steps)]=some (pN known):=by
  have hl:=w.left
  have hr:=ok.r40
  have hw:=ok.w60
  unfold Zx Qbf
  walk_at "ev"
  rw [show encN steps=steps.map pN from rfl,Qbd pN (fun i=>pN (b.rules.getD i ⟨0,[]⟩).head) steps fun i hi=>⟨_,rfl,?_⟩]
  · rw [show (steps.map fun i=>pN (b.rules.getD i ⟨0,[]⟩).head)=encN (hds b steps) by unfold encN hds;rw [List.map_map];rfl]
    walk_at "ev"
    rw [Qha fun k hk=>by have:=hds_lt ok w.lt k hk;omega]
    walk_at "ev"
    rw [← w.known]
  · have hi:=w.lt i hi
    have e:b.rules[i]?=some (b.rules.getD i ⟨0,[]⟩):=by simp [hi]
    walk_at "ev"
    rw [List.getElem?_map,e]
    walk_at "ev"
end DH

noncomputable section
namespace DH
open PySem PySem.Spec PyProof.Rows L2 L2.PM
local macro_rules | `(tactic| walk_at "ev") => `(tactic| try simp (disch:=first | assumption | omega | (simp only [encN_len,encN_len,List.length_map,List.length_range,List.length_cons,List.length_nil,List.length_append];omega) | decide) only [encN_len,encN_flat,enc_ix0,enc_ix1,enc_ix2,renc_ix0,renc_ix1,flat_benc,flat_renc,e_inside,EVc,List.length_cons,List.length_nil,if_true,List.map_cons,List.map_nil,List.replicate_zero,List.replicate_succ,List.cons_append,List.nil_append,List.getElem?_cons_zero,List.getElem?_cons_succ,Option.bind_some,Option.map_some,List.set_cons_zero,List.set_cons_succ,List.length_map,List.length_range,List.all_nil,List.all_cons,List.length_append])
theorem Qjh {b:Bk} (ok:b.Ok) (held:Nat):YZ [b.enc,pN held]=some (pN (yl b held)):=by
  obtain ⟨steps,known,e,h1,h2⟩:=QhG ok held
  have:=yl_eq ok (.of h1 h2)
  subst this
  unfold YZ Qfg
  walk_at "ev"
  rw [e]
  walk_at "ev"
  rw [QeG ok h1]
  walk_at "ev"
end DH

noncomputable section
namespace DH
open PySem PySem.Spec PyProof.Rows L2 L2.PM
end DH

noncomputable section
namespace DH
open PySem PySem.Spec PyProof.Rows L2 L2.PM
noncomputable def RuleOk (g w:Nat) (r:Rule):Prop:=g≤r.head∧r.head < w∧r.body.Pairwise (· < ·)∧r.body.length≤6∧∀ x∈r.body,x < w
end DH

noncomputable section
namespace DH
open PySem PySem.Spec PyProof.Rows L2 L2.PM
end DH

noncomputable section
namespace DH
open PySem PySem.Spec PyProof.Rows L2 L2.PM
theorem Qbc:∀ xs:List Nat,depL (encN xs)=0
  | []=>by simp [encN,depL]
  | x :: xs=>by
    have:=Qbc xs
    unfold encN at *
    rw [List.map_cons]
    unfold depL
    rw [this]
    simp [pN,dep]
theorem QaZ:∀ xs:List Nat,okSL (encN xs)=true
  | []=>by simp [encN,okSL]
  | x :: xs=>by
    have:=QaZ xs
    unfold encN at *
    rw [List.map_cons]
    unfold okSL
    rw [this]
    simp [pN,okS]
theorem okv_encL (xs:List Nat):okv (.lst (encN xs))=true:=by
  simp [okv,dep,okS,Qbc,QaZ]
theorem QgL (xs:List Nat):okv (.tup (encN xs))=true:=by
  simp [okv,dep,okS,Qbc,QaZ]
theorem QgK (r:Rule):okv r.enc=true:=by
  unfold Rule.enc
  simp [okv,dep,depL,okS,okSL,Qbc,QaZ,pN]
theorem QiP (rs:List Rule):(rs.map Rule.enc).all okv=true:=by
  rw [List.all_map,List.all_eq_true]
  exact fun r _=>QgK r
theorem QdR (r:Rule) (rs:List Rule):∃ b,Qag r.enc (.lst (rs.map Rule.enc))=some (.bl b):=by
  have e:pIn r.enc (.lst (rs.map Rule.enc))=if okv r.enc=true∧(rs.map Rule.enc).all okv=true then some (.bl ((rs.map Rule.enc).any fun y=>peq y r.enc)) else none:=rfl
  exact ⟨_,QcR (e.trans (if_pos ⟨QgK r,QiP rs⟩))⟩
end DH

noncomputable section
namespace DH
open PySem PySem.Spec PyProof.Rows L2 L2.PM
theorem Bk.Ok.of {w:Nat} {banes:List Nat} {rules:List Rule} (h8:banes.length≤8) (hgw:banes.length≤w) (hw:w≤60) (hb:∀ x∈banes,x < w) (hr:∀ r∈rules,RuleOk banes.length w r) (hl:rules.length≤40):(⟨w,banes,rules⟩:Bk).Ok :=
  ⟨h8,hgw,hw,by show rules.length≤48;omega,hb,fun r h=>⟨(hr r h).1,(hr r h).2.1⟩,fun r h=>⟨(hr r h).2.2.1,(hr r h).2.2.2.2⟩⟩
end DH

noncomputable section
namespace DH
open PySem PySem.Spec PyProof.Rows L2 L2.PM
noncomputable def tr (w known:Nat):List PV:=(List.range w).map fun k => .bl (known.testBit k)
theorem tr_len (w known:Nat):(tr w known).length=w:=by unfold tr;rw [List.length_map,List.length_range]
theorem tr_get {w known k:Nat} (h:k < w):(tr w known)[k]?=some (.bl (known.testBit k)):=by
  unfold tr
  rw [List.getElem?_map,List.getElem?_range h]
  rfl
theorem tr_set (w known k:Nat):(tr w known).set k (.bl true)=tr w (known|||2 ^ k):=by
  refine List.ext_getElem? fun j => ?_
  by_cases hj:j < w
  · rw [tr_get hj,ZD]
    by_cases h:k=j
    · subst h
      rw [List.getElem?_set_self (by rw [tr_len];exact hj)]
      simp
    · rw [List.getElem?_set_ne h,tr_get hj]
      simp [h]
  · rw [List.getElem?_eq_none (by rw [List.length_set,tr_len];omega),List.getElem?_eq_none (by rw [tr_len];omega)]
theorem tr_flat (w known:Nat):(tr w known).all flat=true:=by
  unfold tr
  rw [List.all_map,List.all_eq_true]
  exact fun _ _=>rfl
theorem testBit_one (m k:Nat):(m / 2 ^ k&&&1==1)=m.testBit k:=by
  rw [Nat.and_one_is_mod]
  exact testBit_mod m k
theorem testBit_zero' (m k:Nat):(m / 2 ^ k&&&1==0) = !m.testBit k:=by
  rw [← testBit_one,Nat.and_one_is_mod]
  have:m / 2 ^ k % 2 < 2:=Nat.mod_lt _ (by decide)
  have:m / 2 ^ k % 2=0∨m / 2 ^ k % 2=1:=by omega
  rcases this with h | h <;> rw [h] <;> rfl
theorem body_len {b:Bk} (ok:b.Ok) {r:Rule} (hr:r∈b.rules):r.body.length≤1000:=by
  have hb:=ok.bd r hr
  have hw:=ok.w60
  have key:∀ (row:List Nat) (lo n:Nat),row.Pairwise (· < ·)→(∀ x∈row,lo≤x∧x < n)→row.length≤n - lo:=by
    intro row
    induction row with
    | nil=>intros;simp
    | cons x r ih =>
      intro lo n hp h
      rw [List.pairwise_cons] at hp
      have:=ih (x + 1) n hp.2 fun y hy=>⟨hp.1 y hy,(h y (by simp [hy])).2⟩
      have:=h x (by simp)
      simp only [List.length_cons]
      omega
  have:=key r.body 0 b.words hb.1 fun x hx=>⟨Nat.zero_le _,hb.2 x hx⟩
  omega
end DH

noncomputable section
namespace DH
open PySem PySem.Spec PyProof.Rows L2 L2.PM
noncomputable def hitL (b:Bk) (known:Nat):List Nat:=(List.range b.banes.length).filter fun g=>known.testBit (b.banes.getD g 0)
noncomputable def stk (b:Bk) (held:Nat):Nat:=XH (hitL b (yl b held))
theorem enumN (xs:List Nat):((encN xs).zipIdx.map fun x=>PV.tup [pN x.2,x.1])=(List.range xs.length).map fun g=>PV.tup [pN g,pN (xs.getD g 0)]:=by
  refine List.ext_getElem? fun j => ?_
  rw [List.getElem?_map,List.getElem?_map,List.getElem?_zipIdx]
  by_cases h:j < xs.length
  · rw [List.getElem?_range h]
    unfold encN
    rw [List.getElem?_map]
    simp [h]
  · rw [List.getElem?_eq_none (by unfold encN;simp;omega),List.getElem?_eq_none (by simp;omega)]
    rfl
theorem Qfk {α:Type} {g:PV→PEnv→Option PEnv} {t:PEnv→Option Bool} {e:MEx} {γ:PEnv} (f:α→PV) (p:α→Bool) (y:α→PV):∀ (xs:List α),(∀ x∈xs,∃ γ1,g (f x) γ=some γ1∧t γ1=some (p x)∧(p x=true→e γ1=some (y x))) →
    XZ g t e γ (xs.map f)=some ((xs.filter p).map y)
  | [],_=>rfl
  | x :: xs,h=>by
    obtain ⟨γ1,h1,h2,h3⟩:=h x (by simp)
    have ih:=Qfk f p y xs fun z hz=>h z (by simp [hz])
    rw [List.map_cons]
    unfold XZ
    rw [h1,Option.bind_some,h2,Option.bind_some]
    cases hp:p x with
    | true =>
      rw [List.filter_cons_of_pos hp,h3 hp,ih]
      rfl
    | false =>
      rw [List.filter_cons_of_neg (by simp [hp])]
      simp [ih]
local macro_rules | `(tactic| walk_at "ev") => `(tactic| try simp (disch:=first | assumption | omega | (simp only [encN_len,tr_len,encN_len,List.length_map,List.length_range,List.length_cons,List.length_nil,List.length_append];omega) | decide) only [encN_len,encN_flat,enc_ix0,enc_ix1,enc_ix2,renc_ix0,renc_ix1,flat_benc,flat_renc,e_inside,tr_get,tr_flat,tr_set,testBit_one,EVc,List.length_cons,List.length_nil,if_true,List.map_cons,List.map_nil,List.replicate_zero,List.replicate_succ,List.cons_append,List.nil_append,List.getElem?_cons_zero,List.getElem?_cons_succ,Option.bind_some,Option.map_some,List.set_cons_zero,List.set_cons_succ,List.length_map,List.length_range,List.all_nil,List.all_cons,List.length_append])
theorem hitL_lt {b:Bk} {k g:Nat} (h:g∈hitL b k):g < b.banes.length:=List.mem_range.mp (List.mem_filter.mp h).1
theorem bane_lt {b:Bk} (ok:b.Ok) {g:Nat} (h:g < b.banes.length):b.banes.getD g 0 < b.words:=by
  have:b.banes.getD g 0=b.banes[g]:=by simp [h]
  rw [this]
  exact ok.bane _ (List.getElem_mem h)
theorem QgZ {b:Bk} (ok:b.Ok) (held:Nat):YL [b.enc,pN held]=some (pN (stk b held)):=by
  unfold YL Qhc
  have h8:=ok.g8
  have hw:=ok.w60
  walk_at "ev"
  rw [Qjh ok]
  walk_at "ev"
  rw [enumN]
  walk_at "ev"
  rw [Qfk (fun g=>PV.tup [pN g,pN (b.banes.getD g 0)]) (fun g=>(yl b held).testBit (b.banes.getD g 0)) pN (List.range b.banes.length) fun g hg=>⟨_,rfl,?_,fun _=>rfl⟩]
  · rw [show (((List.range b.banes.length).filter fun g=>(yl b held).testBit (b.banes.getD g 0)).map pN)=encN (hitL b (yl b held)) from rfl]
    walk_at "ev"
    rw [Qha fun k hk=>by have:=hitL_lt hk;omega]
    rfl
  · have:=bane_lt ok (List.mem_range.mp hg)
    walk_at "ev"
    rw [QgO]
theorem mask_lt (p:Nat→Bool) (j:Nat):XH ((List.range j).filter p) < 2 ^ j:=by
  refine Nat.lt_pow_two_of_testBit _ fun i hi => ?_
  rw [Xj,decide_eq_false]
  intro hm
  have:=List.mem_range.mp (List.mem_filter.mp hm).1
  omega
theorem stk_lt (b:Bk) (held:Nat):stk b held < 2 ^ b.banes.length:=mask_lt _ _
theorem Qih {b:Bk} {held g:Nat}:(stk b held).testBit g=true↔g < b.banes.length∧(yl b held).testBit (b.banes.getD g 0)=true:=by
  unfold stk hitL
  rw [Xj,decide_eq_true_iff,List.mem_filter,List.mem_range]
noncomputable def dif (a b:Nat):Nat:=a - (a&&&b)
end DH

noncomputable section
namespace DH
open PySem PySem.Spec PyProof.Rows L2 L2.PM
theorem QhX {g:PV→PEnv→Option PEnv} {b:MSt} (I:Nat→PEnv→Prop) (n:Nat) (γ:PEnv) (h0:I 0 γ)
    (step:∀ j γ,j < n→I j γ→∃ γ1 γ2,g (pN j) γ=some γ1∧b γ1=some (.nx γ2)∧I (j + 1) γ2):∃ γ',forL g b (encN (List.range n)) γ=some (.nx γ')∧I n γ':=by
  obtain ⟨γ',e,h⟩:=XE (g:=g) (b:=b) pN (fun pre γ=>I pre.length γ) (List.range n) (List.range n) [] γ rfl h0 (by
    intro pre j post γ hpre hI
    have hj:j=pre.length:=by
      have h1:(List.range n)[pre.length]?=some j:=by rw [← hpre];simp
      rw [List.getElem?_eq_some_iff] at h1
      obtain ⟨_,h2⟩:=h1
      simpa using h2.symm
    have hl:pre.length < n:=by
      have:=congrArg List.length hpre
      simp at this
      omega
    subst hj
    obtain ⟨γ1,γ2,a1,a2,a3⟩:=step _ γ hl hI
    exact ⟨γ1,γ2,a1,a2,by simpa using a3⟩)
  rw [List.length_range] at h
  exact ⟨γ',e,h⟩
theorem bane_get {b:Bk} {j:Nat} (h:j < b.banes.length):b.banes[j]?=some (b.banes.getD j 0):=by simp [h]
end DH

noncomputable section
namespace DH
open PySem PySem.Spec PyProof.Rows L2 L2.PM
theorem ifK_setn {cond:Bool} {ms:List Nat} {i:Nat} {m:MEx} {γ:PEnv} (x y:Nat) (h:m γ=some (pN x)) (h2:γ.set i (.fz (pN y))=γ) :
    ifK (sSet ms i m) sNx γ cond=some (.nx (γ.set i (.fz (pN (if cond=true then x else y))))):=by
  cases cond with
  | false=>rw [ifK_f,ev_sNx];simp only [Bool.false_eq_true,if_false];rw [h2]
  | true=>rw [ifK_t,ev_sSet,h];simp only [if_true,Option.map_some,flat_n,keepE_true]
theorem Qid {a b:Bool} {t:PEnv→Option Bool} {γ:PEnv} (h:t γ=some b):andK t γ a=some (a&&b):=by
  cases a
  · rfl
  · rw [andK_t,h];rfl
theorem orK_b {a b:Bool} {t:PEnv→Option Bool} {γ:PEnv} (h:t γ=some b):orK t γ a=some (a||b):=by
  cases a
  · rw [orK_f,h];rfl
  · rfl
end DH

noncomputable section
namespace DH
open PySem PySem.Spec PyProof.Rows L2 L2.PM
end DH

noncomputable section
namespace DH
open PySem PySem.Spec PyProof.Rows L2 L2.PM
theorem XA (c:Int) {k:Nat} (h:0 < k):(c % (k:Int)).toNat < k:=by
  have:=Int.emod_lt_of_pos c (show (0:Int) < (k:Int) by omega)
  have:=Int.emod_nonneg c (show (k:Int)≠0 by omega)
  omega
end DH

noncomputable section
namespace DH
open PySem PySem.Spec PyProof.Rows L2 L2.PM
theorem pAnd_inv (a b:Nat):pAnd (pN a) (.int (Builtin.bitNot (b:Int)))=some (pN (dif a b)):=by
  unfold pN
  rw [pAnd_i,bitAnd_pn (by omega) (by unfold Builtin.bitNot;omega)]
  have e:(Builtin.bitNot (Builtin.bitNot (b:Int))).toNat=b:=by unfold Builtin.bitNot;omega
  rw [e,Int.toNat_natCast]
  unfold dif
  have := @Nat.and_le_left a b
  congr 2
  omega
theorem pInv_n (b:Nat):pInv (pN b)=some (.int (Builtin.bitNot (b:Int))):=rfl
noncomputable def uns (b:Bk) (held:Nat):Nat:=dif (2 ^ b.banes.length - 1) (stk b held)
noncomputable def dfd (b:Bk) (held:Nat):Nat:=uns b (uns b held)
theorem bit_lt {m n k:Nat} (h:m < 2 ^ n) (hk:m.testBit k=true):k < n:=by
  rcases Nat.lt_or_ge k n with h1 | h1
  · exact h1
  · rw [Nat.testBit_lt_two_pow (Nat.lt_of_lt_of_le h (Nat.pow_le_pow_right (by decide) h1))] at hk;cases hk
local macro_rules | `(tactic| walk_at "ev") => `(tactic| try simp (disch:=first | assumption | omega | (simp only [encN_len,tr_len,encN_len,List.length_map,List.length_range,List.length_cons,List.length_nil,List.length_append];omega) | decide) only [encN_len,encN_flat,enc_ix0,enc_ix1,enc_ix2,renc_ix0,renc_ix1,flat_benc,flat_renc,e_inside,tr_get,tr_flat,tr_set,testBit_one,e_whole_n,pInv_n,pAnd_inv,EVc,List.length_cons,List.length_nil,if_true,List.map_cons,List.map_nil,List.replicate_zero,List.replicate_succ,List.cons_append,List.nil_append,List.getElem?_cons_zero,List.getElem?_cons_succ,Option.bind_some,Option.map_some,List.set_cons_zero,List.set_cons_succ,List.length_map,List.length_range,List.all_nil,List.all_cons,List.length_append])
theorem QeH {b:Bk} (ok:b.Ok):Zy [b.enc]=some (pN (2 ^ b.banes.length - 1)):=by
  unfold Zy Qbg
  have h8:=ok.g8
  have hp:=Nat.two_pow_pos b.banes.length
  walk_at "ev"
theorem pow8 {n:Nat} (h:n≤8):2 ^ n≤256:=Nat.pow_le_pow_right (n:=2) (by decide) h
end DH

noncomputable section
namespace DH
open PySem PySem.Spec PyProof.Rows L2 L2.PM
theorem pAdd_ni (a:Nat) (b:Int):pAdd (pN a) (.int b)=some (.int ((a:Int) + b)):=pAdd_i _ _
theorem pAdd_in (a:Int) (b:Nat):pAdd (.int a) (pN b)=some (.int (a + (b:Int))):=pAdd_i _ _
end DH
namespace DH
open PySem PySem.Spec PyProof.Rows L2 L2.PM
end DH

noncomputable section
namespace DH
open PySem PySem.Spec PyProof.Rows L2 L2.PM
end DH

noncomputable section
namespace DH
open PySem PySem.Spec PyProof.Rows L2 L2.PM
end DH

noncomputable section
namespace DH
open PySem PySem.Spec PyProof.Rows L2 L2.PM
theorem outO_ro' (xs:List PV):outO (.ro xs)=some xs:=rfl
end DH

noncomputable section
namespace DH
open PySem PySem.Spec PyProof.Rows L2 L2.PM
theorem isN_l (xs:List PV):isN (.lst xs)=false:=rfl
theorem isN_b (b:Bool):isN (.bl b)=false:=rfl
end DH

noncomputable section
namespace DH
open PySem PySem.Spec PyProof.Rows L2 L2.PM
end DH

noncomputable section
namespace DH
open PySem PySem.Spec PyProof.Rows L2 L2.PM
local macro_rules | `(tactic| walk_at "ev") => `(tactic| try simp (disch:=first | assumption | omega | (simp only [encN_len,tr_len,encN_len,List.length_map,List.length_range,List.length_cons,List.length_nil,List.length_append];omega) | decide) only [encN_len,encN_flat,enc_ix0,enc_ix1,enc_ix2,renc_ix0,renc_ix1,flat_benc,flat_renc,e_inside,tr_get,tr_flat,tr_set,testBit_one,testBit_zero',e_whole_n,pInv_n,pAnd_inv,EVc,List.length_cons,List.length_nil,if_true,List.map_cons,List.map_nil,List.replicate_zero,List.replicate_succ,List.cons_append,List.nil_append,List.getElem?_cons_zero,List.getElem?_cons_succ,Option.bind_some,Option.map_some,List.set_cons_zero,List.set_cons_succ,List.length_map,List.length_range,List.all_nil,List.all_cons,List.length_append])
theorem Qjk {m n:Nat} (hn:n≤60) (h:m < 2 ^ n):XB [pN m]=some (.lst (encN (plN m))):=by
  have hb:bitsN m≤60:=by
    unfold bitsN
    split
    · omega
    · rename_i h0
      have:=(Nat.log2_lt h0).mpr h
      omega
  unfold XB Qhd
  walk_at "ev"
  rw [Qgi (fun k=>m.testBit k) (List.range (bitsN m)) fun k hk=>⟨_,rfl,by walk_at "ev",rfl⟩]
  rfl
end DH

noncomputable section
namespace DH
open PySem PySem.Spec PyProof.Rows L2 L2.PM
noncomputable def bn (b:Bk) (g:Nat):Nat:=b.banes.getD g 0
theorem bn_get {b:Bk} {j:Nat} (h:j < b.banes.length):b.banes[j]?=some (bn b j):=bane_get h
end DH

noncomputable section
namespace DH
open PySem PySem.Spec PyProof.Rows L2 L2.PM
end DH
namespace DH
open PySem PySem.Spec PyProof.Rows L2 L2.PM
end DH

noncomputable section
namespace DH
open PySem PySem.Spec PyProof.Rows L2 L2.PM
theorem Qiq (bs:List Bool):Qgp [.lst (bs.map .bl)]=some (.bl (bs.all id)):=by
  show (bls? (bs.map PV.bl)).map (fun bs=>PV.bl (bs.all id))=_
  rw [Qhi];rfl
local macro_rules | `(tactic| walk_at "ev") => `(tactic| try simp (disch:=first | assumption | omega | (simp only [encN_len,tr_len,encN_len,List.length_map,List.length_range,List.length_cons,List.length_nil,List.length_append];omega) | decide) only [encN_len,encN_flat,enc_ix0,enc_ix1,enc_ix2,renc_ix0,renc_ix1,flat_benc,flat_renc,e_inside,tr_get,tr_flat,tr_set,testBit_one,testBit_zero',e_whole_n,pInv_n,pAnd_inv,isN_l,isN_b,EVc,List.length_cons,List.length_nil,if_true,List.map_cons,List.map_nil,List.replicate_zero,List.replicate_succ,List.cons_append,List.nil_append,List.getElem?_cons_zero,List.getElem?_cons_succ,Option.bind_some,Option.map_some,List.set_cons_zero,List.set_cons_succ,List.length_map,List.length_range,List.all_nil,List.all_cons,List.length_append])
noncomputable def lk3 (b:Bk) (held:Nat) (found:List Nat) (grown:Bool) (s4:Slot):PEnv :=
  [.fz b.enc,.fz (pN held),.ow (encN found),.fz (.bl grown),s4]
theorem turn_y1 {b:Bk} (ok:b.Ok) {held known:Nat} {found:List Nat} {grown:Bool} {r:Rule} (hm:r∈b.rules) (hf:∀ w,w∈found↔known.testBit w=true) (hl:found.length≤1000) :
    YI (lk3 b held found grown (.fz r.enc))=some (.nx (match QcL known r with
      | true=>lk3 b held (found++[r.head]) true (.fz r.enc) | false=>lk3 b held found grown (.fz r.enc))):=by
  have hbl:=body_len ok hm
  have hd:∀ w,decide (w∈found)=known.testBit w:=fun w=>by rw [Bool.eq_iff_iff,decide_eq_true_iff];exact hf w
  unfold QcL
  unfold YI lk3
  walk_at "ev"
  rw [hd]
  cases hk:known.testBit r.head with
  | true=>walk_at "ev"
  | false =>
    walk_at "ev"
    rw [show encN r.body=r.body.map pN from rfl,Qbd pN (fun k=>PV.bl (known.testBit k)) r.body fun k hk=>⟨_,rfl,by
      walk_at "ev"
      rw [hd]⟩]
    rw [show (r.body.map fun k=>PV.bl (known.testBit k))=(r.body.map fun k=>known.testBit k).map PV.bl by rw [List.map_map];rfl]
    walk_at "ev"
    rw [Qiq,List.all_map]
    walk_at "ev"
    cases hc:r.body.all (id ∘ fun k=>known.testBit k) with
    | true =>
      rw [show (r.body.all fun k=>known.testBit k)=true from hc]
      walk_at "ev"
      rw [YQ (by rw [encN_len];omega) rfl]
      walk_at "ev"
      simp [encN]
    | false =>
      rw [show (r.body.all fun k=>known.testBit k)=false from hc]
      walk_at "ev"
theorem round_y2 {b:Bk} (ok:b.Ok) {held known:Nat} {steps found:List Nat} {grown:Bool} {s4:Slot} (w:Way b held steps known) (hf:∀ w,w∈found↔known.testBit w=true) (hl:found.length≤b.words + steps.length) :
    ∃ known' steps' found' grown' s4',YH (lk3 b held found grown s4)=some (.nx (lk3 b held found' grown' s4'))∧Way b held steps' known'∧(∀ w,w∈found'↔known'.testBit w=true)∧found'.length≤b.words + steps'.length ∧
      (grown'=false→Xx b known')∧(grown'=true→steps.length < steps'.length)∧steps.length≤steps'.length:=by
  have hr40:=ok.r40
  have hw60:=ok.w60
  unfold YH lk3
  walk_at "ev"
  obtain ⟨γ',e,known',steps',found',grown',t4,rfl,h1,h2,h3,h4,g1,g2⟩:=XE (g:=gSet 4) (b:=YI) Rule.enc
    (fun pre γ=>∃ known' steps' found' grown' t4,γ=lk3 b held found' grown' t4∧Way b held steps' known'∧steps.length≤steps'.length ∧
      (grown'=false→∀ p∈pre,QcL known' p=false)∧(grown'=true→steps.length < steps'.length)∧(∀ w,w∈found'↔known'.testBit w=true)∧found'.length≤b.words + steps'.length)
    b.rules b.rules [] (lk3 b held found false s4) rfl ⟨known,steps,found,false,s4,rfl,w,Nat.le_refl _,by simp,by simp,hf,hl⟩ (by
      rintro pre r post γ hpre ⟨kn,st,fo,gr,t4,rfl,h1,h2,h3,h4,g1,g2⟩
      have hr:r∈b.rules:=by rw [← hpre];simp
      have hst:=h1.left
      refine ⟨_,_,rfl,turn_y1 ok (held:=held) (known:=kn) (grown:=gr) hr g1 (by omega),?_⟩
      cases hf:QcL kn r with
      | true =>
        obtain ⟨f1,f2⟩:=Qbb.mp hf
        obtain ⟨i,hi,hri⟩:=List.mem_iff_getElem.mp hr
        refine ⟨_,st++[i],_,true,_,rfl,.snoc h1 (by rw [List.getElem?_eq_getElem hi,hri]) f2 f1,by simp;omega,by simp,fun _=>by simp;omega,fun w => ?_,by simp;omega⟩
        rw [List.mem_append,List.mem_singleton,ZD,Bool.or_eq_true,decide_eq_true_iff,g1 w,eq_comm (a:=w)]
      | false =>
        refine ⟨_,st,_,gr,_,rfl,h1,h2,fun hg p hp => ?_,h4,g1,g2⟩
        rcases List.mem_append.mp hp with z | z
        · exact h3 hg p z
        · rw [List.mem_singleton.mp z];exact hf)
  refine ⟨known',steps',found',grown',t4,?_,h1,g1,g2,fun hg r hr hb => ?_,h4,h2⟩
  · unfold lk3 at e
    exact e
  · have:=h3 hg r hr
    cases hk:known'.testBit r.head with
    | true=>rfl
    | false =>
      have:=Qbb.mpr ⟨hk,hb⟩
      simp_all
theorem QgY {b:Bk} (ok:b.Ok) {held:Nat} (hh:held < 2 ^ b.banes.length):∃ found:List Nat,QY [b.enc,pN held]=some (.lst (encN found))∧(∀ w,w∈found↔(yl b held).testBit w=true)∧found.length≤1000:=by
  unfold QY Qbh
  have hr:=ok.r40
  have hw:=ok.w60
  have h8:=ok.g8
  have hgw:=ok.gw
  walk_at "ev"
  rw [Qgi (fun k=>held.testBit k) (List.range b.words) fun k hk=>⟨_,rfl,by walk_at "ev",rfl⟩]
  walk_at "ev"
  have hf0:∀ w,w∈(List.range b.words).filter (fun k=>held.testBit k)↔held.testBit w=true:=fun w=>by
    rw [List.mem_filter,List.mem_range]
    exact ⟨fun h=>h.2,fun h=>⟨by have:=bit_lt hh h;omega,h⟩⟩
  have hl0:((List.range b.words).filter fun k=>held.testBit k).length≤b.words:=by
    have:=List.length_filter_le (fun k=>held.testBit k) (List.range b.words)
    rwa [List.length_range] at this
  generalize (List.range b.words).filter (fun k=>held.testBit k)=found0 at *
  obtain ⟨γ',e,known,steps,found,s4,rfl,h1,h2,h3,h4⟩:=QcO (t:=mTru (mVar 3)) (b:=YH)
    (Post:=fun γ=>∃ known steps found s4,γ=lk3 b held found false s4∧Way b held steps known∧Xx b known∧(∀ w,w∈found↔known.testBit w=true)∧found.length≤b.words + steps.length)
    (fun n γ=>∃ known steps found grown s4,γ=lk3 b held found grown s4∧Way b held steps known∧(grown=false→Xx b known)∧(∀ w,w∈found↔known.testBit w=true)∧found.length≤b.words + steps.length∧n=2 * (b.rules.length + 1 - steps.length) + (if grown=true then 1 else 0))
    (by
      rintro n γ ⟨known,steps,found,grown,s4,rfl,h1,h2,h3,h4,rfl⟩
      have hl:=h1.left
      cases grown with
      | false =>
        refine .inl ⟨?_,known,steps,found,s4,rfl,h1,h2 rfl,h3,h4⟩
        unfold lk3
        walk_at "ev"
      | true =>
        refine .inr ⟨?_,?_⟩
        · unfold lk3
          walk_at "ev"
        · obtain ⟨kn,st,fo,gr,t4,e,w,f1,f2,c,l,l2⟩:=round_y2 ok (grown:=true) (s4:=s4) h1 h3 h4
          have hl2:=w.left
          cases gr with
          | true=>exact ⟨_,_,e,by have:=l rfl;simp;omega,kn,st,fo,true,t4,rfl,w,c,f1,f2,rfl⟩
          | false=>exact ⟨_,_,e,by simp;omega,kn,st,fo,false,t4,rfl,w,c,f1,f2,rfl⟩)
    1000 (2 * (b.rules.length + 1) + 1) (lk3 b held found0 true .un) ⟨held,[],found0,true,.un,rfl,.nil,by simp,hf0,by simpa using hl0,by simp⟩ (by omega)
  have hst:=h1.left
  have:=yl_eq ok (.of h1 h2)
  subst this
  unfold lk3 at e
  unfold QeN
  rw [e]
  walk_at "ev"
  exact ⟨found,rfl,h3,by omega⟩
theorem pw_eq (p:Nat→Bool) (n m:Nat) (h:∀ g,m.testBit g=(decide (g < n)&&p g)):(((List.range n).filter p).map fun g=>2 ^ g).sum=m:=by
  show pw ((List.range n).filter p)=m
  refine Nat.eq_of_testBit_eq fun k => ?_
  rw [Bool.eq_iff_iff,Qhr _ _ (List.Pairwise.filter _ List.pairwise_lt_range),List.mem_filter,List.mem_range,h,Bool.and_eq_true,decide_eq_true_iff]
end DH

noncomputable section
namespace DH
open PySem PySem.Spec PyProof.Rows L2 L2.PM
noncomputable def it (b:Bk):Nat→Nat
  | 0=>0
  | i + 1=>dfd b (it b i)
noncomputable def Last (b:Bk) (m:Nat):Prop:=it b (m + 1)=it b m∧∀ j,j < m→it b (j + 1)≠it b j
theorem Last.unique {b:Bk} {m m':Nat} (h:Last b m) (h':Last b m'):m=m':=by
  rcases Nat.lt_trichotomy m m' with q | q | q
  · exact absurd h.1 (h'.2 m q)
  · exact q
  · exact absurd h'.1 (h.2 m' q)
noncomputable def itL (b:Bk) (m:Nat):List Nat:=(List.range (m + 1)).map (it b)
end DH

noncomputable section
namespace DH
open PySem PySem.Spec PyProof.Rows L2 L2.PM
noncomputable def YR (g w:Nat) (r:Rule):Prop:=g≤r.head∧r.head < w∧r.body.Pairwise (· < ·)∧∀ x∈r.body,x < w
theorem Bk.Ok.of2 {w:Nat} {banes:List Nat} {rules:List Rule} (h8:banes.length≤8) (hgw:banes.length≤w) (hw:w≤60) (hb:∀ x∈banes,x < w) (hr:∀ r∈rules,YR banes.length w r) (hl:rules.length≤40):(⟨w,banes,rules⟩:Bk).Ok :=
  ⟨h8,hgw,hw,by show rules.length≤48;omega,hb,fun r h=>⟨(hr r h).1,(hr r h).2.1⟩,fun r h=>⟨(hr r h).2.2.1,(hr r h).2.2.2⟩⟩
theorem QbR {rules:List Rule} {r:Rule} {n w:Nat} (k1:∀ q∈rules,YR n w q) (hr:YR n w r):∀ q∈rules++[r],YR n w q:=by
  intro q hq
  rcases List.mem_append.mp hq with z | z
  · exact k1 q z
  · rw [List.mem_singleton.mp z];exact hr
theorem runO_3' {N:Nat} {m:MSt} {a0 a1 a2:PV}:runO N 3 m [a0,a1,a2]=(m (Zp N [a0,a1,a2])).bind outO:=rfl
local macro_rules | `(tactic| walk_at "ev") => `(tactic| try simp (disch:=first | assumption | omega | (simp only [encN_len,tr_len,encN_len,List.length_map,List.length_range,List.length_cons,List.length_nil,List.length_append];omega) | decide) only [encN_len,encN_flat,enc_ix0,enc_ix1,enc_ix2,renc_ix0,renc_ix1,flat_benc,flat_renc,e_inside,testBit_one,testBit_zero',e_whole_n,pAdd_ni,pAdd_in,e_cell,runO_3',outO_ro',EVc,List.length_cons,List.length_nil,if_true,List.map_cons,List.map_nil,List.replicate_zero,List.replicate_succ,List.cons_append,List.nil_append,List.getElem?_cons_zero,List.getElem?_cons_succ,Option.bind_some,Option.map_some,List.set_cons_zero,List.set_cons_succ,List.length_map,List.length_range,List.all_nil,List.all_cons,List.length_append])
theorem e_shaped {shape g w:Nat} {banes:List Nat} (hg:g≤8) (hgw:g≤w) (hl:banes.length=g) (hb:∀ x∈banes,x < w) (hs:shape=1∨shape=2→∀ x∈banes,g≤x) :
    ∃ rules:List Rule,Zz [pN shape,.lst (encN banes),pN g]=some (rules.map Rule.enc)∧(∀ r∈rules,YR g w r)∧rules.length≤8:=by
  unfold Zz Qbi
  walk_at "ev"
  obtain ⟨γ',e,rules,s4,s5,rfl,h1,h2⟩:=QhX (g:=gSet 4) (b:=YJ) (fun j γ=>∃ (rules:List Rule) (s4 s5:Slot),γ=[.fz (pN shape),.fz (.lst (encN banes)),.fz (pN g),.ow (rules.map Rule.enc),s4,s5]∧(∀ r∈rules,YR g w r)∧rules.length≤j)
    g [.fz (pN shape),.fz (.lst (encN banes)),.fz (pN g),.ow ([].map Rule.enc),.un,.un] ⟨[],.un,.un,rfl,by simp,by simp⟩ (by
      rintro j γ hj ⟨rules,s4,s5,rfl,h1,h2⟩
      have key:∃ (rules':List Rule) (s5':Slot),YJ [.fz (pN shape),.fz (.lst (encN banes)),.fz (pN g),.ow (rules.map Rule.enc),.fz (pN j),s5]=some (.nx [.fz (pN shape),.fz (.lst (encN banes)),.fz (pN g),.ow (rules'.map Rule.enc),.fz (pN j),s5'])∧(∀ r∈rules',YR g w r)∧rules'.length≤j + 1:=by
        unfold YJ
        walk_at "ev"
        rw [Qid (b:=decide (j + 1 < g)) (by walk_at "ev"),Option.bind_some,orK_b (b:=shape==2) (by walk_at "ev")]
        walk_at "ev"
        cases hc:((shape==1&&decide (j + 1 < g))||shape==2) with
        | false=>walk_at "ev";exact ⟨rules,_,rfl,h1,by omega⟩
        | true =>
          have hsh:shape=1∨shape=2:=by
            rw [Bool.or_eq_true,Bool.and_eq_true,beq_iff_eq,beq_iff_eq] at hc
            exact hc.imp (fun h=>h.1) id
          have hmod:=Nat.mod_lt (j + 1) (show 0 < g by omega)
          have hj':j < banes.length:=by omega
          have eg:banes[j]?=some banes[j]:=List.getElem?_eq_getElem hj'
          have hm:=List.getElem_mem hj'
          have hlt:=hb _ hm
          have hge:=hs hsh _ hm
          walk_at "ev"
          rw [eg]
          walk_at "ev"
          obtain ⟨nb,enb⟩:=QdR ⟨banes[j],[(j + 1) % g]⟩ rules
          rw [show (PV.tup [pN banes[j],PV.tup [pN ((j + 1) % g)]])=Rule.enc ⟨banes[j],[(j + 1) % g]⟩ from rfl,enb]
          walk_at "ev"
          cases nb with
          | false=>walk_at "ev";exact ⟨rules,_,rfl,h1,by omega⟩
          | true =>
            walk_at "ev"
            rw [YQ (by rw [List.length_map];omega) rfl]
            walk_at "ev"
            exact ⟨rules++[⟨banes[j],[(j + 1) % g]⟩],_,by rw [List.map_append];rfl,QbR h1 ⟨hge,hlt,by simp,by simp;omega⟩,by simp;omega⟩
      obtain ⟨rules',s5',e,q1,q2⟩:=key
      exact ⟨_,_,rfl,e,rules',_,s5',rfl,q1,q2⟩)
  rw [show ([]:List PV)=([]:List Rule).map Rule.enc from rfl,e]
  walk_at "ev"
  exact ⟨rules,rfl,h1,by omega⟩
theorem QiL {g w head:Nat} {picks:List Nat} (h1:g≤head) (h2:head < w):YR g w ⟨head,(List.range w).filter fun k=>decide (k∈picks)⟩ :=
  ⟨h1,h2,List.Pairwise.filter _ List.pairwise_lt_range,fun x hx=>List.mem_range.mp (List.mem_filter.mp hx).1⟩
theorem size6 (i:Nat) (h:i < 6):∃ size,size≤6∧([pN 0,pN 1,pN 1,pN 2,pN 2,pN 3])[i]?=some (pN size):=by
  have:i=0∨i=1∨i=2∨i=3∨i=4∨i=5:=by omega
  rcases this with rfl | rfl | rfl | rfl | rfl | rfl
  · exact ⟨0,by decide,rfl⟩
  · exact ⟨1,by decide,rfl⟩
  · exact ⟨1,by decide,rfl⟩
  · exact ⟨2,by decide,rfl⟩
  · exact ⟨2,by decide,rfl⟩
  · exact ⟨3,by decide,rfl⟩
theorem QhF (c:Int) {g w:Nat} (h:g < w) (hw:w≤60):∃ r:Rule,QV [.int c,pN g,pN w]=some r.enc∧YR g w r:=by
  unfold QV XT
  walk_at "ev"
  generalize ((c % ((2147483629:Nat):Int)).toNat + 1) * 48271 % 2147483647=n0
  have hh:n0 / 3 % (w - g) < w - g:=Nat.mod_lt _ (by omega)
  generalize n0 / 3 % (w - g)=hd at *
  generalize n0 * 16807 % 2147483647=n1
  obtain ⟨size,hs,e⟩:=size6 (n1 / 7 % 6) (Nat.mod_lt _ (by decide))
  rw [e]
  walk_at "ev"
  obtain ⟨γ',e,number,picks,s7,rfl,h1⟩:=QhX (g:=gSet 7) (b:=YD) (fun j γ=>∃ (number:Nat) (picks:List Nat) (s7:Slot),γ=[.fz (.int c),.fz (pN g),.fz (pN w),.fz (pN number),.fz (pN (g + hd)),.fz (pN size),.ow (encN picks),s7]∧picks.length=j)
    size [.fz (.int c),.fz (pN g),.fz (pN w),.fz (pN n1),.fz (pN (g + hd)),.fz (pN size),.ow (encN []),.un] ⟨n1,[],.un,rfl,rfl⟩ (by
      rintro j γ hj ⟨number,picks,s7,rfl,h1⟩
      refine ⟨_,_,rfl,?_,number * 69621 % 2147483647,picks++[number * 69621 % 2147483647 / 11 % w],.fz (pN j),rfl,by simp [h1]⟩
      unfold YD
      walk_at "ev"
      rw [YQ (by rw [encN_len];omega) rfl]
      walk_at "ev"
      simp [encN])
  rw [show ([]:List PV)=encN [] from rfl,e]
  walk_at "ev"
  rw [Qgi (fun k=>decide (k∈picks)) (List.range w) fun k hk=>⟨_,rfl,by walk_at "ev",rfl⟩]
  walk_at "ev"
  exact ⟨⟨g + hd,_⟩,rfl,QiL (by omega) (by omega)⟩
end DH

noncomputable section
namespace DH
open PySem PySem.Spec PyProof.Rows L2 L2.PM
theorem Zm {τ:Type} {s1 s2:MX τ} {γ γ':PEnv} {t t':τ} (h:s1 γ t=some (.nx γ' t')):xSeq s1 s2 γ t=s2 γ' t':=by
  unfold xSeq;rw [h];rfl
theorem xq_seqR {τ:Type} {s1 s2:MX τ} {γ:PEnv} {t:τ} {r:PV} (h:s1 γ t=some (.rt r)):xSeq s1 s2 γ t=some (.rt r):=by
  unfold xSeq;rw [h];rfl
theorem ZJ {τ:Type} {j:Nat} {m:MSt} {γ γ':PEnv} {t:τ} (h:m γ=some (.nx γ')) (hj:QL γ' j=QL γ j):Yo j m γ t=some (.nx γ' t):=by
  unfold Yo;rw [h]
  show (if QL γ' j=QL γ j then some (OutX.nx γ' t) else none)=_
  rw [if_pos hj]
theorem xq_liftR {τ:Type} {j:Nat} {m:MSt} {γ:PEnv} {t:τ} {r:PV} (h:m γ=some (.rt r)):Yo j m γ t=some (.rt r):=by
  unfold Yo;rw [h];rfl
theorem xq_ifF {τ:Type} {j:Nat} {rd:τ→Addr→PV} {tt:PEnv→Option Bool} {s1 s2:MX τ} {γ:PEnv} {t:τ} (h:∀ c,tt (γ.set j (.fz (rd t c)))=some false):xIfA j rd tt s1 s2 γ t=s2 γ t:=by
  unfold xIfA;rw [XW h];rfl
theorem QfJ {ms:List Nat} {f:Str} {m:MEx} {γ:PEnv} {t t':OT} {r:PV} (h:m γ=some r) (hp:putT f r t=some t'):QcG ms f m γ t=some (.nx (frz ms γ) t'):=by
  unfold QcG;rw [h,Option.bind_some,hp];rfl
theorem xq_make {j:Nat} {ms:List Nat} {ma:PEnv→Option (List PV)} {g:Addr→List PV→OT→Option OT} {mx:MX OT} {γ:PEnv} {qs:List PV} {t:OT} {r:PV} (h1:ma γ=some qs) (h2:∀ a,g a qs ⟨[],[],none⟩=some t) (hj:j < γ.length) (h3:∀ a,mx ((frz ms γ).set j (.fz (.opq a))) t=some (.rt r)):QhM j ms ma g mx γ=some (.rt r):=by
  unfold QhM
  rw [h1,Option.bind_some,XW h2,Option.bind_some,XW h3,Option.bind_some]
  show (if j < γ.length then some (Out.rt r) else none)=_
  rw [if_pos hj]
theorem forX_q {τ α:Type} {j:Nat} {g:PV→PEnv→Option PEnv} {b:MX τ} (f:α→PV) (I:Nat→PEnv→τ→Prop) (Post:PEnv→τ→Prop) (r:PV) (K:Nat):∀ (xs:List α) (k:Nat) (γ:PEnv) (t:τ),k + xs.length≤K→I k γ t →
    (∀ k x,k < K→x∈xs→∀ γ t,I k γ t→∃ γ1,g (f x) γ=some γ1∧QL γ1 j=QL γ j∧((∃ γ2 t2,b γ1 t=some (.nx γ2 t2)∧I (k + 1) γ2 t2)∨(∃ γ2 t2,b γ1 t=some (.bk γ2 t2)∧Post γ2 t2)∨b γ1 t=some (.rt r))) →
    (∃ γ' t',forX j g b (xs.map f) γ t=some (.nx γ' t')∧(I (k + xs.length) γ' t'∨Post γ' t'))∨forX j g b (xs.map f) γ t=some (.rt r)
  | [],k,γ,t,_,h0,_ => .inl ⟨γ,t,rfl,.inl h0⟩
  | x :: xs,k,γ,t,hK,h0,step=>by
    rw [List.length_cons] at hK
    obtain ⟨γ1,e1,ej,h⟩:=step k x (by omega) (by simp) γ t h0
    rw [List.map_cons,forX,e1,Option.bind_some,if_pos ej]
    rcases h with ⟨γ2,t2,e2,h2⟩ | ⟨γ2,t2,e2,h2⟩ | e2
    · rw [e2]
      have:=forX_q f I Post r K xs (k + 1) γ2 t2 (by omega) h2 fun k y hk hy=>step k y hk (by simp [hy])
      rw [List.length_cons,show k + (xs.length + 1)=k + 1 + xs.length by omega]
      exact this
    · rw [e2];exact .inl ⟨γ2,t2,rfl,.inr h2⟩
    · rw [e2];exact .inr rfl
theorem xq_for {τ:Type} {j:Nat} {ms:List Nat} {mi:PEnv→Option (List PV)} {g:PV→PEnv→Option PEnv} {b:MX τ} {γ:PEnv} {t:τ} {xs:List PV} (h:mi γ=some xs):xFor j ms mi g b γ t=forX j g b xs (frz ms γ) t:=by
  unfold xFor;rw [h];rfl
theorem xq_setA {τ:Type} {j i:Nat} {rd:τ→Addr→PV} {m:MEx} {γ:PEnv} {t:τ} {r:PV} (h:∀ c,m (γ.set j (.fz (rd t c)))=some r) (hf:flat r=true) (hij:i≠j):QhK j i rd m γ t=some (.nx (γ.set i (.fz r)) t):=by
  unfold QhK;rw [XW h,Option.bind_some,if_pos ⟨hf,hij⟩]
theorem QeM {τ:Type} {s1:MX τ} {s2:PEnv→τ→Option (PV×τ)} {γ γ':PEnv} {t t':τ} (h:s1 γ t=some (.nx γ' t')):vSeq s1 s2 γ t=s2 γ' t':=by
  unfold vSeq;rw [h];rfl
theorem Qig {τ:Type} {m:MSt} {γ:PEnv} {t:τ} {p:PV} (h:m γ=some (.rt p)):Qfr m γ t=some (p,t):=by
  unfold Qfr;rw [h];rfl
theorem Qgf {τ:Type} {s1 s2:MXE τ} {γ γ':PEnv} {t t':τ} (h:s1 γ t=some (.inl (.nx γ' t'))):eSeq s1 s2 γ t=s2 γ' t':=by
  unfold eSeq;rw [h];rfl
theorem Qei {τ:Type} {s1 s2:MXE τ} {γ γ':PEnv} {t t':τ} {k:Nat} (h:s1 γ t=some (.inr (γ',t',k))):eSeq s1 s2 γ t=some (.inr (γ',t',k)):=by
  unfold eSeq;rw [h];rfl
theorem Qgg {τ:Type} {j:Nat} {rd:τ→Addr→PV} {tt:PEnv→Option Bool} {s1 s2:MXE τ} {γ:PEnv} {t:τ} (h:∀ c,tt (γ.set j (.fz (rd t c)))=some true):eIfA j rd tt s1 s2 γ t=s1 γ t:=by
  unfold eIfA;rw [XW h];rfl
theorem Qgh {τ:Type} {j:Nat} {rd:τ→Addr→PV} {tt:PEnv→Option Bool} {s1 s2:MXE τ} {γ:PEnv} {t:τ} (h:∀ c,tt (γ.set j (.fz (rd t c)))=some false):eIfA j rd tt s1 s2 γ t=s2 γ t:=by
  unfold eIfA;rw [XW h];rfl
theorem Qcs {τ:Type} {ma:PEnv→Option (List PV)} {k:Nat} {γ:PEnv} {t:τ} {qs:List PV} (h:ma γ=some qs) (hl:qs.length < 9):Qcl [] ma k γ t=some (.inr (γ,t,k)):=by
  unfold Qcl;rw [h,Option.bind_some,if_pos hl];rfl
theorem QgX {τ:Type} {j i:Nat} {ms:List Nat} {okm:τ→Bool} {g:Addr→List PV→τ→Option (τ ⊕ (τ×Nat))} {ma:PEnv→Option (List PV)} {γ:PEnv} {t t':τ} {qs:List PV} {a:Addr} (h1:ma γ=some qs) (h2:QL γ j=some a) (h3:okm t=true) (h4:g a qs t=some (.inl t')) (hij:i≠j):XO j i ms okm g ma γ t=some (.inl (.nx ((frz ms γ).set i (.fz .non)) t')):=by
  unfold XO;rw [h1,Option.bind_some,h2,Option.bind_some,if_pos ⟨h3,hij⟩,h4];rfl
theorem QgW {τ:Type} {j i k:Nat} {ms:List Nat} {okm:τ→Bool} {g:Addr→List PV→τ→Option (τ ⊕ (τ×Nat))} {ma:PEnv→Option (List PV)} {γ:PEnv} {t t':τ} {qs:List PV} {a:Addr} (h1:ma γ=some qs) (h2:QL γ j=some a) (h3:okm t=true) (h4:g a qs t=some (.inr (t',k))) (hij:i≠j):XO j i ms okm g ma γ t=some (.inr (frz ms γ,t',k)):=by
  unfold XO;rw [h1,Option.bind_some,h2,Option.bind_some,if_pos ⟨h3,hij⟩,h4];rfl
theorem xq_callV {τ:Type} {j i:Nat} {ms:List Nat} {g:Addr→List PV→τ→Option (PV×τ)} {ma:PEnv→Option (List PV)} {γ:PEnv} {t t':τ} {p:PV} {qs:List PV} {a:Addr} (h1:ma γ=some qs) (h2:QL γ j=some a) (h4:g a qs t=some (p,t')) (hij:i≠j):QeL j i ms g ma γ t=some (.nx ((frz ms γ).set i (.fz p)) t'):=by
  unfold QeL;rw [h1,Option.bind_some,h2,Option.bind_some,h4,Option.bind_some,if_pos hij]
inductive Una where
  | no | yes (g s:Nat)
noncomputable def Una.pv:Una→PV
  | .no => .non
  | .yes g s => .tup [pN g,pN s]
noncomputable def Una.none:Una→Bool
  | .no=>true
  | _=>false
noncomputable def mvV (m:Bool×Nat×Nat):PV := .tup [.str (if m.1=true then "doubt" else "reply"),pN m.2.1,pN m.2.2]
noncomputable abbrev Mvs:=List (Bool×Nat×Nat)
noncomputable def mvs (l:Mvs):List PV:=l.map mvV
noncomputable def tk (b:Bk) (h:Nat) (u:Una) (l:Mvs):OT:=⟨["book","held","unanswered"],[b.enc,pN h,u.pv],some (mvs l)⟩
noncomputable def aim (h:Nat):Una→Nat
  | .no=>h
  | .yes _ s=>s
noncomputable def tkV (C:Addr) (b:Bk) (h:Nat) (u:Una) (l:Mvs):PV := .obj C ["book","held","unanswered","moves"] [b.enc,pN h,u.pv,.lst (mvs l)]
theorem rd_tk (C:Addr) (b:Bk) (h:Nat) (u:Una) (l:Mvs) (c:Addr):XG C "moves" (tk b h u l) c=tkV C b h u l:=rfl
theorem fld_book (C:Addr) (b:Bk) (h:Nat) (u:Una) (l:Mvs):fldK C "book" (tkV C b h u l)=some b.enc:=by
  show (if C=C then _ else none)=_
  rw [if_pos rfl];rfl
theorem fld_held (C:Addr) (b:Bk) (h:Nat) (u:Una) (l:Mvs):fldK C "held" (tkV C b h u l)=some (pN h):=by
  show (if C=C then _ else none)=_
  rw [if_pos rfl];rfl
theorem fld_una (C:Addr) (b:Bk) (h:Nat) (u:Una) (l:Mvs):fldK C "unanswered" (tkV C b h u l)=some u.pv:=by
  show (if C=C then _ else none)=_
  rw [if_pos rfl];rfl
theorem fld_mv (C:Addr) (b:Bk) (h:Nat) (u:Una) (l:Mvs):fldK C "moves" (tkV C b h u l)=some (.lst (mvs l)):=by
  show (if C=C then _ else none)=_
  rw [if_pos rfl];rfl
theorem ev_mFld (C:Addr) (f:Str) (m:MEx) (γ:PEnv):mFld C f m γ=(m γ).bind (fldK C f):=rfl
noncomputable def mthK (C:Addr) (f:Str) (g:List PV→Option PV) (o:Option (List PV)) (q:PV):Option PV:=if isC C f q=true then o.bind fun ps=>g (q :: ps) else none
theorem ev_mMeth (C:Addr) (f:Str) (g:List PV→Option PV) (m:MEx) (ma:PEnv→Option (List PV)) (γ:PEnv):YT C f g m ma γ=(m γ).bind (mthK C f g (ma γ)):=rfl
theorem Qci {C:Addr} {f:Str} (hf:(["book","held","unanswered","moves"]:List Str).contains f=false) (g:List PV→Option PV) (ps:List PV) (b:Bk) (h:Nat) (u:Una) (l:Mvs):mthK C f g (some ps) (tkV C b h u l)=g (tkV C b h u l :: ps):=by
  unfold mthK
  rw [show isC C f (tkV C b h u l)=true by show ((C==C) && !(["book","held","unanswered","moves"]:List Str).contains f)=true;rw [hf];simp]
  rfl
theorem mth_turn (C:Addr) (g:List PV→Option PV) (ps:List PV) (b:Bk) (h:Nat) (u:Una) (l:Mvs):mthK C "turn" g (some ps) (tkV C b h u l)=g (tkV C b h u l :: ps):=Qci (by decide +kernel) g ps b h u l
theorem mth_now (C:Addr) (g:List PV→Option PV) (ps:List PV) (b:Bk) (h:Nat) (u:Una) (l:Mvs):mthK C "now" g (some ps) (tkV C b h u l)=g (tkV C b h u l :: ps):=Qci (by decide +kernel) g ps b h u l
theorem mth_aims (C:Addr) (g:List PV→Option PV) (ps:List PV) (b:Bk) (h:Nat) (u:Una) (l:Mvs):mthK C "aims" g (some ps) (tkV C b h u l)=g (tkV C b h u l :: ps):=Qci (by decide +kernel) g ps b h u l
theorem mth_win (C:Addr) (g:List PV→Option PV) (ps:List PV) (b:Bk) (h:Nat) (u:Una) (l:Mvs):mthK C "winner" g (some ps) (tkV C b h u l)=g (tkV C b h u l :: ps):=Qci (by decide +kernel) g ps b h u l
theorem mth_can (C:Addr) (g:List PV→Option PV) (ps:List PV) (b:Bk) (h:Nat) (u:Una) (l:Mvs):mthK C "can_name" g (some ps) (tkV C b h u l)=g (tkV C b h u l :: ps):=Qci (by decide +kernel) g ps b h u l
theorem mth_wait (C:Addr) (g:List PV→Option PV) (ps:List PV) (b:Bk) (h:Nat) (u:Una) (l:Mvs):mthK C "waiting" g (some ps) (tkV C b h u l)=g (tkV C b h u l :: ps):=Qci (by decide +kernel) g ps b h u l
theorem mth_said (C:Addr) (g:List PV→Option PV) (ps:List PV) (b:Bk) (h:Nat) (u:Una) (l:Mvs):mthK C "said" g (some ps) (tkV C b h u l)=g (tkV C b h u l :: ps):=Qci (by decide +kernel) g ps b h u l
theorem una_isN (u:Una):isN u.pv=u.none:=by cases u <;> rfl
noncomputable def trn (u:Una):Str:=if u.none=true then "doubter" else "speaker"
noncomputable def oth (u:Una):Str:=if u.none=true then "speaker" else "doubter"
theorem w_dd:pEq (.str "doubter") (.str "doubter")=some (.bl true):=by rw [pEq_s (by decide +kernel) (by decide +kernel)];rfl
theorem w_sd:pEq (.str "speaker") (.str "doubter")=some (.bl false):=by rw [pEq_s (by decide +kernel) (by decide +kernel),show (("speaker":Str)==("doubter":Str))=false by decide +kernel]
theorem w_ss:pEq (.str "speaker") (.str "speaker")=some (.bl true):=by rw [pEq_s (by decide +kernel) (by decide +kernel)];rfl
theorem n_dd:pNe (.str "doubter") (.str "doubter")=some (.bl false):=by rw [Qjv (by decide +kernel) (by decide +kernel)];rfl
theorem n_ss:pNe (.str "speaker") (.str "speaker")=some (.bl false):=by rw [Qjv (by decide +kernel) (by decide +kernel)];rfl
theorem n_sd:pNe (.str "speaker") (.str "doubter")=some (.bl true):=by rw [Qjv (by decide +kernel) (by decide +kernel),show (("speaker":Str)==("doubter":Str))=false by decide +kernel];rfl
theorem n_ds:pNe (.str "doubter") (.str "speaker")=some (.bl true):=by rw [Qjv (by decide +kernel) (by decide +kernel),show (("doubter":Str)==("speaker":Str))=false by decide +kernel];rfl
theorem trn_eqd (u:Una):pEq (.str (trn u)) (.str "doubter")=some (.bl u.none):=by
  cases u with
  | no=>exact w_dd
  | yes g s=>exact w_sd
theorem trn_ned (u:Una):pNe (.str (trn u)) (.str "doubter")=some (.bl (!u.none)):=by
  cases u with
  | no=>exact n_dd
  | yes g s=>exact n_sd
theorem trn_nes (u:Una):pNe (.str (trn u)) (.str "speaker")=some (.bl u.none):=by
  cases u with
  | no=>exact n_ds
  | yes g s=>exact n_ss
local macro_rules | `(tactic| walk_at "ev") => `(tactic| try simp (disch:=first | assumption | omega | (simp only [encN_len,List.length_map,List.length_range,List.length_cons,List.length_nil,List.length_append];omega) | decide) only [rd_tk,ev_mFld,fld_book,fld_held,fld_una,fld_mv,una_isN,ev_mMeth,mth_turn,mth_now,mth_aims,mth_win,mth_can,mth_wait,mth_said,trn_eqd,trn_ned,trn_nes,flat_benc,EVc,List.length_cons,List.length_nil,if_true,List.map_cons,List.map_nil,List.replicate_zero,List.replicate_succ,List.cons_append,List.nil_append,List.getElem?_cons_zero,List.getElem?_cons_succ,Option.bind_some,Option.map_some,List.set_cons_zero,List.set_cons_succ,List.length_map,List.length_range,List.all_nil,List.all_cons,List.length_append])
theorem QdF (C:Addr) (b:Bk) (h:Nat) (u:Una) (l:Mvs):QJ C [tkV C b h u l]=some (.str (trn u)):=by
  unfold QJ Qdf
  walk_at "ev"
  cases u with
  | no=>unfold Una.none;walk_at "ev";rfl
  | yes g s=>unfold Una.none;walk_at "ev";rfl
theorem e_now (C:Addr) (b:Bk) (h:Nat) (u:Una) (l:Mvs):Yg C [tkV C b h u l]=some (pN h):=by
  unfold Yg QdW
  walk_at "ev"
theorem Qji (C:Addr) (b:Bk) (h:Nat) (u:Una) (l:Mvs):Zj C [tkV C b h u l]=some u.pv:=by
  unfold Zj QaE
  walk_at "ev"
theorem QiB (C:Addr) (b:Bk) (h:Nat) (u:Una) (l:Mvs):Zi C [tkV C b h u l]=some (.lst (mvs l)):=by
  unfold Zi Qdg
  walk_at "ev"
theorem e_aims (C:Addr) (b:Bk) (h:Nat) (u:Una) (l:Mvs):Zt C [tkV C b h u l]=some (pN (aim h u)):=by
  unfold Zt Qdh
  walk_at "ev"
  cases u with
  | no=>unfold Una.none;walk_at "ev";rfl
  | yes g s=>unfold Una.none;walk_at "ev";unfold Una.pv;walk_at "ev";rfl
theorem e_winner (C:Addr) {b:Bk} (ok:b.Ok) (h:Nat) (u:Una) (l:Mvs):ZA C [tkV C b h u l]=some (if (aim h u&&&stk b (2 ^ b.banes.length - 1)==0)=true then .str (oth u) else .non):=by
  unfold ZA Qbk
  walk_at "ev"
  rw [e_aims,QeH ok]
  walk_at "ev"
  rw [QgZ ok]
  walk_at "ev"
  rw [show (aim h u&&&stk b (2 ^ b.banes.length - 1) != 0) = !(aim h u&&&stk b (2 ^ b.banes.length - 1)==0) from rfl]
  cases hz:(aim h u&&&stk b (2 ^ b.banes.length - 1)==0) with
  | true =>
    walk_at "ev"
    rw [QdF]
    walk_at "ev"
    unfold oth
    cases u.none <;> rfl
  | false=>walk_at "ev";rfl
theorem pIn_il (g:Int) (xs:List Nat):pIn (.int g) (.lst (encN xs))=some (.bl (decide (0≤g)&&decide (g.toNat∈xs))):=by
  cases g with
  | ofNat k=>exact (pIn_nl k xs).trans (by simp)
  | negSucc k =>
    show (if okv (.int (.negSucc k))=true∧(encN xs).all okv=true then some (PV.bl ((encN xs).any fun y=>peq y (.int (.negSucc k)))) else none)=_
    rw [if_pos ⟨Qbv _,Qen xs⟩]
    congr 2
    rw [show decide ((0:Int)≤Int.negSucc k)=false from rfl,Bool.false_and,List.any_eq_false]
    intro y hy
    obtain ⟨x,_,rfl⟩:=List.mem_map.mp hy
    show ¬ (((x:Nat):Int)==Int.negSucc k)=true
    simp
noncomputable def can (b:Bk) (m s:Nat) (g:Int):Bool:=decide (0≤g)&&decide (g.toNat∈plN (m&&&stk b s))
theorem Qav (C:Addr) {b:Bk} (ok:b.Ok) (h:Nat) (u:Una) (l:Mvs) (g:Int) (s:Nat):QG C [tkV C b h u l,.int g,pN s]=some (.bl (can b (aim h u) s g)):=by
  have h8:=ok.g8
  unfold QG Qao
  walk_at "ev"
  rw [e_aims,QgZ ok]
  walk_at "ev"
  rw [Qjk (show b.banes.length≤60 by omega) (Nat.lt_of_le_of_lt Nat.and_le_right (stk_lt b s))]
  walk_at "ev"
  rw [pIn_il]
  rfl
theorem Qic {b:Bk} {m s:Nat} {g:Int} (h:can b m s g=true):((g.toNat:Nat):Int)=g:=by
  unfold can at h
  rw [Bool.and_eq_true,decide_eq_true_iff] at h
  omega
theorem runX3 {τ:Type} (m:MX τ) (a:Addr) (p q:PV) (t:τ):runX 3 3 m a [p,q] t=(m [.fz (.opq a),.fz p,.fz q] t).bind outX:=rfl
theorem runXE3 {τ:Type} (m:MXE τ) (a:Addr) (p q:PV) (t:τ):Qfs 3 3 m a [p,q] t=(m [.fz (.opq a),.fz p,.fz q] t).bind outE:=rfl
theorem e_init (C a:Addr) (b:Bk) (h:Nat):QH C a [b.enc,pN h] ⟨[],[],none⟩=some (tk b h .no []):=by
  unfold QH Qap
  rw [runX3]
  rw [Zm (γ':=[.fz (.opq a),.fz b.enc,.fz (pN h)]) (t':=⟨["book"],[b.enc],none⟩) rfl]
  rw [Zm (γ':=[.fz (.opq a),.fz b.enc,.fz (pN h)]) (t':=⟨["book","held"],[b.enc,pN h],none⟩) rfl]
  rw [Zm (γ':=[.fz (.opq a),.fz b.enc,.fz (pN h)]) (t':=⟨["book","held","unanswered"],[b.enc,pN h,.non],none⟩) rfl]
  rfl
theorem QiA {ms:List Nat} {m:MEx} {γ:PEnv} {b:Bk} {h:Nat} {l:Mvs} {u:Una} {d:Bool×Nat×Nat} (e:m γ=some (mvV d)) (hn:l.length≤1000):Qgk ms "moves" m γ (tk b h u l)=some (.nx (frz ms γ) (tk b h u (l++[d]))):=by
  unfold Qgk
  rw [e,Option.bind_some]
  show (if (mvs l).length < LIM∧(["book","held","unanswered"]:List Str).contains "moves"=false then some (OutX.nx (frz ms γ) (⟨["book","held","unanswered"],[b.enc,pN h,u.pv],some (mvs l++[mvV d])⟩:OT)) else none)=_
  rw [if_pos ⟨Nat.lt_of_lt_of_le (Nat.lt_succ_of_le (by unfold mvs;rw [List.length_map];exact hn)) (Qcj (by decide)),by decide +kernel⟩]
  unfold tk mvs
  rw [List.map_append]
  rfl
noncomputable def QeT (b:Bk) (h:Nat) (u:Una) (l:Mvs) (g:Int) (s:Nat):OT ⊕ (OT×Nat):=if u.none=true then (if can b (aim h u) s g=true then .inl (tk b h (.yes g.toNat s) (l++[(true,g.toNat,s)])) else .inr (tk b h u l,3)) else .inr (tk b h u l,2)
noncomputable def QeO (b:Bk) (h:Nat) (u:Una) (l:Mvs) (g:Int) (s:Nat):OT ⊕ (OT×Nat):=if u.none=true then .inr (tk b h u l,2) else if can b (aim h u) s g=true then .inl (tk b s .no (l++[(false,g.toNat,s)])) else .inr (tk b h u l,4)
theorem Qjl (C a:Addr) {b:Bk} (ok:b.Ok) {h:Nat} {u:Una} {l:Mvs} (g:Int) (s:Nat) (hn:l.length≤1000):QB C a [.int g,pN s] (tk b h u l)=some (QeT b h u l g s):=by
  unfold QB QaG QeT
  rw [runXE3]
  cases hu:u.none with
  | false =>
    rw [if_neg (by decide),Qei (γ':=[.fz (.opq a),.fz (.int g),.fz (pN s)]) (t':=tk b h u l) (k:=2)]
    · rfl
    · rw [Qgg fun c => ?_]
      · exact Qcs rfl (by decide)
      · walk_at "ev"
        rw [QdF]
        walk_at "ev"
        rw [hu]
        walk_at "ev"
  | true =>
    rw [if_pos rfl,Qgf (γ':=[.fz (.opq a),.fz (.int g),.fz (pN s)]) (t':=tk b h u l)]
    · cases hc:can b (aim h u) s g with
      | false =>
        rw [if_neg (by decide),Qei (γ':=[.fz (.opq a),.fz (.int g),.fz (pN s)]) (t':=tk b h u l) (k:=3)]
        · rfl
        · rw [Qgg fun c => ?_]
          · exact Qcs rfl (by decide)
          · walk_at "ev"
            rw [Qav C ok]
            walk_at "ev"
            rw [hc]
            walk_at "ev"
      | true =>
        have hg:=Qic hc
        rw [if_pos rfl,Qgf (γ':=[.fz (.opq a),.fz (.int g),.fz (pN s)]) (t':=tk b h u l)]
        · unfold Qdw
          rw [Zm (γ':=[.fz (.opq a),.fz (.int g),.fz (pN s)]) (t':=tk b h (.yes g.toNat s) l)]
          · rw [QiA (d:=(true,g.toNat,s)) (by walk_at "ev";unfold mvV pN;rw [hg];rfl) hn]
            rfl
          · refine QfJ (r := .tup [pN g.toNat,pN s]) ?_ rfl
            walk_at "ev"
            unfold pN
            rw [hg]
        · rw [Qgh fun c => ?_]
          · rfl
          · walk_at "ev"
            rw [Qav C ok]
            walk_at "ev"
            rw [hc]
            walk_at "ev"
    · rw [Qgh fun c => ?_]
      · rfl
      · walk_at "ev"
        rw [QdF]
        walk_at "ev"
        rw [hu]
        walk_at "ev"
theorem Qjj (C a:Addr) {b:Bk} (ok:b.Ok) {h:Nat} {u:Una} {l:Mvs} (g:Int) (s:Nat) (hn:l.length≤1000):QA C a [.int g,pN s] (tk b h u l)=some (QeO b h u l g s):=by
  unfold QA QaF QeO
  rw [runXE3]
  cases hu:u.none with
  | true =>
    rw [if_pos rfl,Qei (γ':=[.fz (.opq a),.fz (.int g),.fz (pN s)]) (t':=tk b h u l) (k:=2)]
    · rfl
    · rw [Qgg fun c => ?_]
      · exact Qcs rfl (by decide)
      · walk_at "ev"
        rw [QdF]
        walk_at "ev"
        rw [hu]
        walk_at "ev"
  | false =>
    rw [if_neg (by decide),Qgf (γ':=[.fz (.opq a),.fz (.int g),.fz (pN s)]) (t':=tk b h u l)]
    · cases hc:can b (aim h u) s g with
      | false =>
        rw [if_neg (by decide),Qei (γ':=[.fz (.opq a),.fz (.int g),.fz (pN s)]) (t':=tk b h u l) (k:=4)]
        · rfl
        · rw [Qgg fun c => ?_]
          · exact Qcs rfl (by decide)
          · walk_at "ev"
            rw [Qav C ok]
            walk_at "ev"
            rw [hc]
            walk_at "ev"
      | true =>
        have hg:=Qic hc
        rw [if_pos rfl,Qgf (γ':=[.fz (.opq a),.fz (.int g),.fz (pN s)]) (t':=tk b h u l)]
        · unfold Qdw
          rw [Zm (γ':=[.fz (.opq a),.fz (.int g),.fz (pN s)]) (t':=tk b s u l)]
          · rw [Zm (γ':=[.fz (.opq a),.fz (.int g),.fz (pN s)]) (t':=tk b s .no l)]
            · rw [QiA (d:=(false,g.toNat,s)) (by walk_at "ev";unfold mvV pN;rw [hg];rfl) hn]
              rfl
            · exact QfJ (r := .non) (by walk_at "ev") rfl
          · exact QfJ (r:=pN s) (by walk_at "ev") rfl
        · rw [Qgh fun c => ?_]
          · rfl
          · walk_at "ev"
            rw [Qav C ok]
            walk_at "ev"
            rw [hc]
            walk_at "ev"
    · rw [Qgh fun c => ?_]
      · rfl
      · walk_at "ev"
        rw [QdF]
        walk_at "ev"
        rw [hu]
        walk_at "ev"
end DH

noncomputable section
namespace DH
open PySem PySem.Spec PyProof.Rows L2 L2.PM
local macro_rules | `(tactic| walk_at "ev") => `(tactic| try simp (disch:=first | assumption | omega | (simp only [encN_len,tr_len,encN_len,List.length_map,List.length_range,List.length_cons,List.length_nil,List.length_append];omega) | decide) only [encN_len,encN_flat,enc_ix0,enc_ix1,enc_ix2,renc_ix0,renc_ix1,flat_benc,flat_renc,e_inside,testBit_one,testBit_zero',e_whole_n,pAdd_ni,pAdd_in,e_cell,runO_3',outO_ro',EVc,List.length_cons,List.length_nil,if_true,List.map_cons,List.map_nil,List.replicate_zero,List.replicate_succ,List.cons_append,List.nil_append,List.getElem?_cons_zero,List.getElem?_cons_succ,Option.bind_some,Option.map_some,List.set_cons_zero,List.set_cons_succ,List.length_map,List.length_range,List.all_nil,List.all_cons,List.length_append])
theorem QhH (ns:List Int) (hn:ns.length≤63) {g w:Nat} (cut:Nat) (hg:g≤8) (hgw:g≤w) (hw:w≤60):∃ b:Bk,QW [.lst (ns.map .int),pN g,pN w,pN cut]=some b.enc∧b.Ok∧b.banes.length=g∧b.words=w:=by
  unfold QW XU
  walk_at "ev"
  rw [ifK_setn (3 * ((ns.getD 1 0 % ((4:Nat):Int)).toNat % 2)) (ns.getD 1 0 % ((4:Nat):Int)).toNat (by walk_at "ev") rfl]
  have h4:=XA (ns.getD 1 0) (show 0 < 4 by decide)
  obtain ⟨shape,es,hs⟩:∃ shape,(if (w==g)=true then 3 * ((ns.getD 1 0 % ((4:Nat):Int)).toNat % 2) else (ns.getD 1 0 % ((4:Nat):Int)).toNat)=shape∧(shape=0∨shape=3∨((shape=1∨shape=2)∧g < w)):=by
    refine ⟨_,rfl,?_⟩
    cases hc:w==g with
    | true =>
      simp only [if_true]
      omega
    | false =>
      have:w≠g:=by simpa using hc
      simp only [Bool.false_eq_true,if_false]
      omega
  rw [es]
  walk_at "ev"
  generalize ((ns.getD 1 0 / ((4:Nat):Int) % ((2147483629:Nat):Int)).toNat + 1) * 40692 % 2147483647=n0
  obtain ⟨γ',e,number,banes,s6,rfl,h1,h2,h3⟩:=QhX (g:=gSet 7) (b:=QK) (fun j γ=>∃ (number:Nat) (banes:List Nat) (s6:Slot),γ=[.fz (.lst (ns.map .int)),.fz (pN g),.fz (pN w),.fz (pN cut),.fz (pN shape),.fz (pN number),.ow (encN banes),s6,.un,.un,.un]∧banes.length=j∧(∀ x∈banes,x < w)∧(shape=1∨shape=2→∀ x∈banes,g≤x))
    g [.fz (.lst (ns.map .int)),.fz (pN g),.fz (pN w),.fz (pN cut),.fz (pN shape),.fz (pN n0),.ow (encN []),.un,.un,.un,.un] ⟨n0,[],.un,rfl,rfl,by simp,by simp⟩ (by
      rintro j γ hj ⟨number,banes,s6,rfl,h1,h2,h3⟩
      have fin:∀ x:Nat,x < w→(shape=1∨shape=2→g≤x)→QK [.fz (.lst (ns.map .int)),.fz (pN g),.fz (pN w),.fz (pN cut),.fz (pN shape),.fz (pN number),.ow (encN banes),.fz (pN j),.un,.un,.un]=some (.nx [.fz (.lst (ns.map .int)),.fz (pN g),.fz (pN w),.fz (pN cut),.fz (pN shape),.fz (pN (number * 48271 % 2147483647)),.ow (encN (banes++[x])),.fz (pN j),.un,.un,.un]) →
        ∃ γ1 γ2,gSet 7 (pN j) [.fz (.lst (ns.map .int)),.fz (pN g),.fz (pN w),.fz (pN cut),.fz (pN shape),.fz (pN number),.ow (encN banes),s6,.un,.un,.un]=some γ1∧QK γ1=some (.nx γ2)∧∃ (number:Nat) (banes:List Nat) (s6:Slot),γ2=[.fz (.lst (ns.map .int)),.fz (pN g),.fz (pN w),.fz (pN cut),.fz (pN shape),.fz (pN number),.ow (encN banes),s6,.un,.un,.un]∧banes.length=j + 1∧(∀ x∈banes,x < w)∧(shape=1∨shape=2→∀ x∈banes,g≤x):=by
        intro x hx hx2 e
        refine ⟨_,_,rfl,e,_,_,_,rfl,by simp [h1],fun y hy => ?_,fun hq y hy => ?_⟩
        · rcases List.mem_append.mp hy with z | z
          · exact h2 y z
          · rw [List.mem_singleton.mp z];exact hx
        · rcases List.mem_append.mp hy with z | z
          · exact h3 hq y z
          · rw [List.mem_singleton.mp z];exact hx2 hq
      rcases hs with rfl | rfl | ⟨hs,hlt⟩
      · refine fin (number * 48271 % 2147483647 / 5 % w) (Nat.mod_lt _ (by omega)) (by omega) ?_
        unfold QK
        walk_at "ev"
        rw [show ((0==0):Bool)=true from rfl]
        walk_at "ev"
        rw [YQ (by rw [encN_len];omega) rfl]
        walk_at "ev"
        simp [encN]
      · have hm:=Nat.mod_lt (j + 1 + number * 48271 % 2147483647 / 5 % 2) (show 0 < g by omega)
        refine fin ((j + 1 + number * 48271 % 2147483647 / 5 % 2) % g) (by omega) (by omega) ?_
        unfold QK
        walk_at "ev"
        rw [show ((3==0):Bool)=false from rfl]
        walk_at "ev"
        rw [show ((3==3):Bool)=true from rfl]
        walk_at "ev"
        rw [YQ (by rw [encN_len];omega) rfl]
        walk_at "ev"
        simp [encN]
      · have hm:=Nat.mod_lt j (show 0 < w - g by omega)
        refine fin (g + j % (w - g)) (by omega) (by omega) ?_
        unfold QK
        walk_at "ev"
        rw [show ((shape==0):Bool)=false by rcases hs with rfl | rfl <;> rfl]
        walk_at "ev"
        rw [show ((shape==3):Bool)=false by rcases hs with rfl | rfl <;> rfl]
        walk_at "ev"
        rw [YQ (by rw [encN_len];omega) rfl]
        walk_at "ev"
        simp [encN])
  rw [show ([]:List PV)=encN [] from rfl,e]
  walk_at "ev"
  obtain ⟨rules0,er,q1,q2⟩:=e_shaped (shape:=shape) hg hgw h1 h2 h3
  rw [er]
  obtain ⟨s5,hs5,hkeep⟩:∃ s5,(s5 = .ow (encN banes)∨s5 = .fz (.lst (encN banes)))∧Xb ((rules0.map Rule.enc).all flat) [4,6,1] [.fz (.lst (ns.map .int)),.fz (pN g),.fz (pN w),.fz (pN cut),.fz (pN shape),.fz (pN number),.ow (encN banes),s6,.un,.un,.un]=[.fz (.lst (ns.map .int)),.fz (pN g),.fz (pN w),.fz (pN cut),.fz (pN shape),.fz (pN number),s5,s6,.un,.un,.un]:=by
    cases (rules0.map Rule.enc).all flat with
    | true=>exact ⟨_,.inl rfl,by walk_at "ev"⟩
    | false=>exact ⟨_,.inr rfl,by walk_at "ev"⟩
  rw [Option.map_some,hkeep]
  walk_at "ev"
  have hlen:(cutP ns (some ((3:Nat):Int)) (some ((cut:Nat):Int))).length≤63:=by
    have:=Qhf ns (some ((3:Nat):Int)) (some ((cut:Nat):Int))
    omega
  generalize cutP ns (some ((3:Nat):Int)) (some ((cut:Nat):Int))=cells at *
  obtain ⟨γ',e,rules,s8,s9,rfl,k1,k2⟩:=XE (g:=gSet 9) (b:=ZY) PV.int
    (fun pre γ=>∃ (rules:List Rule) (s8 s9:Slot),γ=[.fz (.lst (ns.map .int)),.fz (pN g),.fz (pN w),.fz (pN cut),.fz (pN shape),.fz (pN number),s5,s6,.ow (rules.map Rule.enc),s8,s9]∧(∀ r∈rules,YR g w r)∧rules.length≤40)
    cells cells [] [.fz (.lst (ns.map .int)),.fz (pN g),.fz (pN w),.fz (pN cut),.fz (pN shape),.fz (pN number),s5,s6,.ow (rules0.map Rule.enc),.un,.un] rfl ⟨rules0,.un,.un,rfl,q1,by omega⟩ (by
      rintro pre c post γ hpre ⟨rules,s8,s9,rfl,k1,k2⟩
      have key:∃ (rules':List Rule) (s9':Slot),ZY [.fz (.lst (ns.map .int)),.fz (pN g),.fz (pN w),.fz (pN cut),.fz (pN shape),.fz (pN number),s5,s6,.ow (rules.map Rule.enc),.fz (.int c),s9]=some (.nx [.fz (.lst (ns.map .int)),.fz (pN g),.fz (pN w),.fz (pN cut),.fz (pN shape),.fz (pN number),s5,s6,.ow (rules'.map Rule.enc),.fz (.int c),s9'])∧(∀ r∈rules',YR g w r)∧rules'.length≤40:=by
        unfold ZY
        walk_at "ev"
        rw [Qid (b:=decide (rules.length < 12)) (by walk_at "ev")]
        walk_at "ev"
        cases hc:(decide (g < w)&&decide (rules.length < 12)) with
        | false=>walk_at "ev";exact ⟨rules,_,rfl,k1,k2⟩
        | true =>
          rw [Bool.and_eq_true,decide_eq_true_iff,decide_eq_true_iff] at hc
          obtain ⟨r,er,hr⟩:=QhF c hc.1 hw
          walk_at "ev"
          rw [er]
          walk_at "ev"
          obtain ⟨nb,enb⟩:=QdR r rules
          rw [enb]
          walk_at "ev"
          cases nb with
          | false=>walk_at "ev";exact ⟨rules,_,rfl,k1,k2⟩
          | true =>
            walk_at "ev"
            rw [YQ (by rw [List.length_map];omega) rfl]
            walk_at "ev"
            exact ⟨rules++[r],_,by rw [List.map_append];rfl,QbR k1 hr,by simp;omega⟩
      obtain ⟨rules',s9',e,q1,q2⟩:=key
      exact ⟨_,_,rfl,e,rules',_,s9',rfl,q1,q2⟩)
  rw [e]
  have ok:(⟨w,banes,rules⟩:Bk).Ok := .of2 (by omega) (by omega) hw h2 (by rw [h1];exact k1) k2
  rcases hs5 with rfl | rfl
  · walk_at "ev"
    exact ⟨⟨w,banes,rules⟩,rfl,ok,h1,rfl⟩
  · walk_at "ev"
    exact ⟨⟨w,banes,rules⟩,rfl,ok,h1,rfl⟩
end DH

noncomputable section
namespace DH
open PySem PySem.Spec PyProof.Rows L2 L2.PM
theorem okv_mv (m:Bool×Nat×Nat):okv (mvV m)=true:=by
  unfold mvV okv
  rw [show dep (.tup [.str (if m.1=true then "doubt" else "reply"),pN m.2.1,pN m.2.2])=1 from rfl]
  show (true&&(okS (.str (if m.1=true then "doubt" else "reply"))&&(okS (pN m.2.1)&&(okS (pN m.2.2)&&true))))=true
  rw [show okS (.str (if m.1=true then "doubt" else "reply"))=true by cases m.1 <;> decide +kernel]
  rfl
theorem QiD:∀ l:Mvs,depL (mvs l)≤1
  | []=>Nat.zero_le _
  | m :: l=>by
    show max (dep (mvV m)) (depL (mvs l))≤1
    have:=QiD l
    have h:dep (mvV m)=1:=rfl
    omega
theorem Qir:∀ l:Mvs,okSL (mvs l)=true
  | []=>rfl
  | m :: l=>by
    show (okS (mvV m)&&okSL (mvs l))=true
    rw [Qir l]
    have:=okv_mv m
    unfold okv at this
    rw [Bool.and_eq_true] at this
    rw [this.2];rfl
theorem Qeh (l:Mvs):okv (.lst (mvs l))=true:=by
  unfold okv
  rw [Bool.and_eq_true,decide_eq_true_iff]
  refine ⟨?_,Qir l⟩
  show depL (mvs l) + 1≤50
  have:=QiD l
  omega
theorem mvs_len (l:Mvs):(mvs l).length=l.length:=by unfold mvs;rw [List.length_map]
local macro_rules | `(tactic| walk_at "ev") => `(tactic| try simp (disch:=first | assumption | omega | (simp only [encN_len,mvs_len,encN_len,List.length_map,List.length_range,List.length_cons,List.length_nil,List.length_append];omega) | decide) only [encN_len,encN_flat,enc_ix0,enc_ix1,enc_ix2,renc_ix0,renc_ix1,flat_benc,flat_renc,testBit_one,testBit_zero',e_whole_n,rd_tk,ev_mFld,fld_book,fld_held,fld_una,fld_mv,una_isN,ev_mMeth,mth_turn,mth_now,mth_aims,mth_win,mth_can,mth_wait,mth_said,trn_eqd,trn_ned,trn_nes,mvs_len,EVc,List.length_cons,List.length_nil,if_true,List.map_cons,List.map_nil,List.replicate_zero,List.replicate_succ,List.cons_append,List.nil_append,List.getElem?_cons_zero,List.getElem?_cons_succ,Option.bind_some,Option.map_some,List.set_cons_zero,List.set_cons_succ,List.length_map,List.length_range,List.all_nil,List.all_cons,List.length_append])
theorem Qhb (h:Nat) (u:Una):QP [pN h,u.pv]=some (pN (aim h u)):=by
  unfold QP Qbj
  walk_at "ev"
  cases u with
  | no=>unfold Una.none;walk_at "ev";rfl
  | yes g s=>unfold Una.none;walk_at "ev";unfold Una.pv;walk_at "ev";rfl
theorem e_waits (u:Una):ZO [u.pv,u.pv]=some (.bl true):=by
  unfold ZO QbT
  cases u with
  | no=>unfold Una.pv;walk_at "ev"
  | yes g s =>
    unfold Una.pv
    walk_at "ev"
    rw [show (!((0 + 1 + 1:Nat)==2))=false from rfl]
    walk_at "ev"
    rw [QdA (by rw [show [pN g,pN s]=encN [g,s] from rfl];exact QgL _) (by rw [show [pN g,pN s]=encN [g,s] from rfl];exact QgL _),Qcq]
    rfl
theorem e_said1 (l:Mvs) (m:Bool×Nat×Nat):Xl [.fz (.lst (mvs l)),.fz (.lst (mvs l)),.fz (mvV m)]=some (.nx [.fz (.lst (mvs l)),.fz (.lst (mvs l)),.fz (mvV m)]):=by
  unfold Xl mvV
  walk_at "ev"
  rw [show (!((0 + 1 + 1 + 1:Nat)==3))=false from rfl]
  walk_at "ev"
theorem QiC (l:Mvs) (hl:l.length≤1000):Zh [.lst (mvs l),.lst (mvs l)]=some (.bl true):=by
  unfold Zh Qde
  walk_at "ev"
  rw [show (!(l.length==l.length))=false by simp]
  walk_at "ev"
  obtain ⟨γ',e,s2,rfl⟩:=XE (g:=gSet 2) (b:=Xl) mvV (fun _ γ=>∃ s2,γ=[.fz (.lst (mvs l)),.fz (.lst (mvs l)),s2]) l l [] [.fz (.lst (mvs l)),.fz (.lst (mvs l)),.un] rfl ⟨_,rfl⟩ (by
    rintro pre m post γ hp ⟨s2,rfl⟩
    exact ⟨_,_,rfl,e_said1 l m,_,rfl⟩)
  rw [show mvs l=l.map mvV from rfl] at *
  rw [e]
  walk_at "ev"
  rw [show l.map mvV=mvs l from rfl,QdA (Qeh l) (Qeh l),Qcq]
  rfl
noncomputable def wv (b:Bk) (h:Nat) (u:Una):PV:=if (aim h u&&&stk b (2 ^ b.banes.length - 1)==0)=true then .str (oth u) else .non
theorem e_wins (b:Bk) (h:Nat) (u:Una):Ye [wv b h u,pN (stk b (2 ^ b.banes.length - 1)),pN h,u.pv]=some (.bl true):=by
  unfold Ye Qdc wv
  walk_at "ev"
  rw [Qhb]
  walk_at "ev"
  cases hz:(aim h u&&&stk b (2 ^ b.banes.length - 1)==0) with
  | false=>walk_at "ev";rw [if_neg (by decide)];walk_at "ev"
  | true =>
    walk_at "ev"
    cases u with
    | no=>show (Option.map Out.rt (pEq (.str "speaker") (.str "speaker"))).bind outV=_;rw [w_ss];rfl
    | yes g s=>show (Option.map Out.rt (pEq (.str "doubter") (.str "doubter"))).bind outV=_;rw [w_dd];rfl
theorem e_hit2 {b:Bk} (ok:b.Ok):ZQ [b.enc,pN (2 ^ b.banes.length - 1)]=some (pN (stk b (2 ^ b.banes.length - 1))):=by
  have h8:=ok.g8
  obtain ⟨f,e,hf,hl⟩:=QgY ok (show 2 ^ b.banes.length - 1 < 2 ^ b.banes.length by have:=Nat.two_pow_pos b.banes.length;omega)
  unfold ZQ QbW
  walk_at "ev"
  rw [e]
  walk_at "ev"
  rw [compN (α:=Nat) (fun g=>(yl b (2 ^ b.banes.length - 1)).testBit (bn b g)) (fun g=>pN (2 ^ g)) (List.range b.banes.length) fun g hg=>⟨_,rfl,by
    have hgl:=List.mem_range.mp hg
    walk_at "ev"
    rw [bn_get hgl]
    walk_at "ev"
    rw [show decide (bn b g∈f)=(yl b (2 ^ b.banes.length - 1)).testBit (bn b g) by rw [Bool.eq_iff_iff,decide_eq_true_iff];exact hf _],fun _=>by
    have hgl:=List.mem_range.mp hg
    walk_at "ev"⟩]
  walk_at "ev"
  rw [show (List.map (fun g=>pN (2 ^ g)) (List.filter (fun g=>(yl b (2 ^ b.banes.length - 1)).testBit (bn b g)) (List.range b.banes.length)))=encN ((List.filter (fun g=>(yl b (2 ^ b.banes.length - 1)).testBit (bn b g)) (List.range b.banes.length)).map fun g=>2 ^ g) by unfold encN;rw [List.map_map];rfl,pSum_n,pw_eq _ _ (stk b (2 ^ b.banes.length - 1)) fun g => ?_]
  · rfl
  · rw [Bool.eq_iff_iff,Qih,Bool.and_eq_true,decide_eq_true_iff]
    exact Iff.rfl
theorem QaO (x:Bool):pI01 [.bl x]=some (pN (if x=true then 1 else 0)):=by cases x <;> rfl
theorem two_str (u:Una):[PV.str "doubter",.str "speaker"][if (!u.none)=true then 1 else 0]?=some (.str (trn u)):=by
  cases u <;> rfl
theorem trn_ne (u:Una):pNe (.str (trn u)) (.str (trn u))=some (.bl false):=by
  cases u with
  | no=>exact n_dd
  | yes g s=>exact n_ss
theorem e_seen1 (C:Addr) {b:Bk} (ok:b.Ok) (h:Nat) (u:Una) (l:Mvs) (o k:Nat) (hk:k < 4) (s6:Slot):∃ s6',Xk C [.fz (tkV C b h u l),.fz (pN (stk b (2 ^ b.banes.length - 1))),.fz (pN h),.fz u.pv,.fz (pN o),.fz (pN k),s6]=some (.nx [.fz (tkV C b h u l),.fz (pN (stk b (2 ^ b.banes.length - 1))),.fz (pN h),.fz u.pv,.fz (pN o),.fz (pN k),s6']):=by
  unfold Xk
  walk_at "ev"
  rcases (show k=0∨k=1∨k=2∨k=3 by omega) with rfl | rfl | rfl | rfl
  · simp only [Nat.reduceBEq]
    walk_at "ev"
    rw [QdF]
    walk_at "ev"
    rw [QaO]
    walk_at "ev"
    rw [two_str]
    walk_at "ev"
    rw [trn_ne]
    walk_at "ev"
    simp only [Nat.reduceBEq]
    walk_at "ev"
    simp only [Nat.reduceBEq]
    walk_at "ev"
    simp only [Nat.reduceBEq]
    walk_at "ev"
    exact ⟨_,rfl⟩
  · simp only [Nat.reduceBEq]
    walk_at "ev"
    simp only [Nat.reduceBEq]
    walk_at "ev"
    rw [e_now]
    walk_at "ev"
    rw [e_now]
    walk_at "ev"
    rw [show (!(h==h))=false by simp]
    walk_at "ev"
    simp only [Nat.reduceBEq]
    walk_at "ev"
    simp only [Nat.reduceBEq]
    walk_at "ev"
    exact ⟨_,rfl⟩
  · simp only [Nat.reduceBEq]
    walk_at "ev"
    simp only [Nat.reduceBEq]
    walk_at "ev"
    simp only [Nat.reduceBEq]
    walk_at "ev"
    rw [Qji]
    walk_at "ev"
    rw [e_waits]
    walk_at "ev"
    simp only [Nat.reduceBEq]
    walk_at "ev"
    exact ⟨_,rfl⟩
  · simp only [Nat.reduceBEq]
    walk_at "ev"
    simp only [Nat.reduceBEq]
    walk_at "ev"
    simp only [Nat.reduceBEq]
    walk_at "ev"
    simp only [Nat.reduceBEq]
    walk_at "ev"
    rw [e_winner C ok,show (if (aim h u&&&stk b (2 ^ b.banes.length - 1)==0)=true then PV.str (oth u) else .non)=wv b h u from rfl]
    walk_at "ev"
    rw [e_wins]
    walk_at "ev"
    exact ⟨_,rfl⟩
theorem QhY (C:Addr) {b:Bk} (ok:b.Ok) (h:Nat) (u:Una) (l:Mvs) (o:Nat) (ho:o < 2):QQ C [tkV C b h u l,pN (stk b (2 ^ b.banes.length - 1)),pN h,u.pv,pN o]=some (.bl true):=by
  unfold QQ Qdd
  walk_at "ev"
  obtain ⟨ks,ek,hk⟩:∃ ks:List Nat,[PV.lst [pN 0,pN 1,pN 2,pN 3],PV.lst [pN 3,pN 2,pN 1,pN 0]][o]?=some (.lst (encN ks))∧∀ k∈ks,k < 4:=by
    rcases (show o=0∨o=1 by omega) with rfl | rfl
    · exact ⟨[0,1,2,3],rfl,by decide⟩
    · exact ⟨[3,2,1,0],rfl,by decide⟩
  rw [ek]
  walk_at "ev"
  obtain ⟨γ',e,s5,s6,rfl⟩:=XE (g:=gSet 5) (b:=Xk C) pN (fun _ γ=>∃ s5 s6,γ=[.fz (tkV C b h u l),.fz (pN (stk b (2 ^ b.banes.length - 1))),.fz (pN h),.fz u.pv,.fz (pN o),s5,s6]) ks ks [] [.fz (tkV C b h u l),.fz (pN (stk b (2 ^ b.banes.length - 1))),.fz (pN h),.fz u.pv,.fz (pN o),.un,.un] rfl ⟨_,_,rfl⟩ (by
    rintro pre k post γ hp ⟨s5,s6,rfl⟩
    obtain ⟨s6',e⟩:=e_seen1 C ok h u l o k (hk k (by rw [← hp];simp)) s6
    exact ⟨_,_,rfl,e,_,_,rfl⟩)
  rw [show encN ks=ks.map pN from rfl,e]
  walk_at "ev"
noncomputable def dueN (r d c:Bool):Nat:=if r=true then (if c=true then 0 else if d=true then 130 else 132) else 129
theorem can_nat {b:Bk} {m s k:Nat}:can b m s (k:Int)=(decide (k < b.banes.length)&&m.testBit k&&(yl b s).testBit (bn b k)):=by
  unfold can
  rw [Int.toNat_natCast,show decide ((0:Int)≤(k:Int))=true by simp,Bool.true_and,Bool.eq_iff_iff,decide_eq_true_iff,mem_plN,Nat.testBit_and,Bool.and_eq_true,Qih,Bool.and_eq_true,Bool.and_eq_true,decide_eq_true_iff]
  exact ⟨fun h=>⟨⟨h.2.1,h.1⟩,h.2.2⟩,fun h=>⟨h.1.2,h.1.1,h.2⟩⟩
theorem Qec (d:Bool):[pN 132,pN 130][if d=true then 1 else 0]?=some (pN (if d=true then 130 else 132)):=by cases d <;> rfl
theorem e_due {b:Bk} (ok:b.Ok) (r d:Bool) (m:Nat) (g:Int) {s:Nat} (hs:s < 2 ^ b.banes.length):Zr [b.enc,.bl r,.bl d,pN m,.int g,pN s]=some (pN (dueN r d (can b m s g))):=by
  have h8:=ok.g8
  obtain ⟨f,e,hf,hl⟩:=QgY ok hs
  unfold Zr QbX
  walk_at "ev"
  cases r with
  | false=>walk_at "ev";rfl
  | true =>
    cases g with
    | negSucc k =>
      walk_at "ev"
      rw [show pLe (pN 0) (.int (.negSucc k))=some (.bl false) from rfl]
      walk_at "ev"
      rw [QaO]
      walk_at "ev"
      rw [Qec]
      rfl
    | ofNat k =>
      rw [show PV.int (Int.ofNat k)=pN k from rfl,show Int.ofNat k=(k:Int) from rfl,can_nat]
      walk_at "ev"
      rw [show decide (0≤k)=true by simp]
      walk_at "ev"
      simp only [Nat.reduceAdd,Nat.reduceSub,List.replicate_zero]
      cases hk:decide (k < b.banes.length) with
      | false => 
        walk_at "ev"
        rw [QaO]
        walk_at "ev"
        rw [Qec]
        rfl
      | true =>
        have hk':=of_decide_eq_true hk
        walk_at "ev"
        cases hm:m.testBit k with
        | false =>
          walk_at "ev"
          rw [QaO]
          walk_at "ev"
          rw [Qec]
          rfl
        | true =>
          walk_at "ev"
          rw [bn_get hk',e]
          walk_at "ev"
          rw [show decide (bn b k∈f)=(yl b s).testBit (bn b k) by rw [Bool.eq_iff_iff,decide_eq_true_iff];exact hf _]
          cases hy:(yl b s).testBit (bn b k) with
          | true=>walk_at "ev";rfl
          | false =>
            walk_at "ev"
            rw [QaO]
            walk_at "ev"
            rw [Qec]
            rfl
theorem pNe_e0 (xs:List Nat):pNe (.lst (encN xs)) (.lst [])=some (.bl (!xs.isEmpty)):=by
  show (if okv (.lst (encN xs))=true∧okv (.lst [])=true then some (PV.bl (!peq (.lst (encN xs)) (.lst []))) else none)=_
  rw [if_pos ⟨okv_encL xs,rfl⟩]
  cases xs <;> rfl
theorem pPow_10:pPow (pN 10) (pN 40)=some (pN (10 ^ 40)):=by
  have hc:cPow ((10:Nat):Int) ((40:Nat):Int)=true:=QdG (by constructor;omega;constructor;omega;show 10 < 2 ^ 64;omega)
  show (if cPow ((10:Nat):Int) ((40:Nat):Int)=true then some (PV.int (((10:Nat):Int) ^ ((40:Nat):Int).toNat)) else none)=_
  rw [if_pos hc,Int.toNat_natCast]
  unfold pN
  rw [Int.natCast_pow]
theorem e_named (c:Int) (m:Nat) {n:Nat} (hn:n≤8):∃ g:Int,Zq [.int c,pN m,pN n]=some (.int g):=by
  unfold Zq QbV
  walk_at "ev"
  rw [Qgi (fun k=>m.testBit k) (List.range n) fun k hk=>⟨_,rfl,by
    have:=List.mem_range.mp hk
    walk_at "ev",by walk_at "ev"⟩]
  generalize (List.range n).filter (fun k=>m.testBit k)=xs
  walk_at "ev"
  rw [pNe_e0]
  walk_at "ev"
  rw [Qid (b:=decide (0 < (c % ((3:Nat):Int)).toNat)) (by walk_at "ev")]
  cases hb:(!xs.isEmpty)&&decide (0 < (c % ((3:Nat):Int)).toNat) with
  | true =>
    rw [Bool.and_eq_true,Bool.not_eq_true'] at hb
    have hp:0 < xs.length:=by
      cases xs with
      | nil=>cases hb.1
      | cons x t=>simp
    have hlt:=XA (c / ((3:Nat):Int)) hp
    walk_at "ev"
    rw [List.getElem?_eq_getElem hlt]
    walk_at "ev"
    exact ⟨_,rfl⟩
  | false =>
    walk_at "ev"
    have l40:10 ^ 40 < 2 ^ 140:=by decide
    have g40:0 < 10 ^ 40:=Nat.pow_pos (by decide)
    have p40:=pPow_10
    generalize 10 ^ 40=x at *
    rw [p40]
    walk_at "ev"
    generalize (c / ((12:Nat):Int) % ((x:Nat):Int)).toNat=y
    rw [show pSub (.int (-((1:Nat):Int))) (pN y)=some (.int (-((1:Nat):Int) - ((y:Nat):Int))) from rfl]
    walk_at "ev"
    have h2:=XA (c / ((6:Nat):Int)) (show 0 < 2 by decide)
    obtain ⟨far,ef⟩:∃ far:Int,[pN y,PV.int (-((1:Nat):Int) - ((y:Nat):Int))][(c / ((6:Nat):Int) % ((2:Nat):Int)).toNat]?=some (.int far):=by
      generalize (c / ((6:Nat):Int) % ((2:Nat):Int)).toNat=i at h2
      rcases (show i=0∨i=1 by omega) with rfl | rfl
      · exact ⟨_,rfl⟩
      · exact ⟨_,rfl⟩
    rw [ef]
    walk_at "ev"
    cases hz:(c / ((3:Nat):Int) % ((2:Nat):Int)).toNat==0 with
    | true=>walk_at "ev";exact ⟨_,rfl⟩
    | false =>
      walk_at "ev"
      exact ⟨_,rfl⟩
end DH

noncomputable section
namespace DH
open PySem PySem.Spec PyProof.Rows L2 L2.PM
theorem try_ok {τ:Type} {j i:Nat} {ks:List Nat} {mb:MXE τ} {sm:Nat→Addr→MSt} {γ γ':PEnv} {t t':τ} (h:mb γ t=some (.inl (.nx γ' t'))):xTry j i ks mb sm γ t=some (.nx γ' t'):=by
  unfold xTry;rw [h];rfl
theorem try_ex {τ:Type} {j i k:Nat} {ks:List Nat} {mb:MXE τ} {sm:Nat→Addr→MSt} {γ γ1 γ2:PEnv} {t t1:τ} (h:mb γ t=some (.inr (γ1,t1,k))) (hk:ks.contains k=true) (hij:i≠j) (hs:∀ a,sufK i (sm k a (γ1.set i (.fz (.opq a))))=some γ2) (hj:QL γ2 j=QL γ1 j):xTry j i ks mb sm γ t=some (.nx γ2 t1):=by
  unfold xTry
  rw [h]
  show (if ks.contains k=true∧i≠j then _ else none)=_
  rw [if_pos ⟨hk,hij⟩,XW hs,Option.bind_some,if_pos hj]
theorem eIf_T {τ:Type} {tt:PEnv→Option Bool} {s1 s2:MXE τ} {γ:PEnv} {t:τ} (h:tt γ=some true):eIf tt s1 s2 γ t=s1 γ t:=by
  unfold eIf;rw [h];rfl
theorem eIf_F {τ:Type} {tt:PEnv→Option Bool} {s1 s2:MXE τ} {γ:PEnv} {t:τ} (h:tt γ=some false):eIf tt s1 s2 γ t=s2 γ t:=by
  unfold eIf;rw [h];rfl
theorem mIsE_8 (s0 s1 s2 s3 s4 s5 s6:Slot) (a:Addr) (b:Bool):mIsE 7 a b [s0,s1,s2,s3,s4,s5,s6,.fz (.opq a)]=some (.bl b):=by
  show (if a=a then some (PV.bl b) else none)=_
  rw [if_pos rfl]
noncomputable abbrev TG (a:Addr) (d:Bool) (g:Int) (s:Nat) (s4 s5 s6 s7:Slot):PEnv:=[.fz (.opq a),.fz (.bl d),.fz (.int g),.fz (pN s),s4,s5,s6,s7]
local macro_rules | `(tactic| walk_at "ev") => `(tactic| try simp (disch:=first | assumption | omega | (simp only [encN_len,mvs_len,encN_len,List.length_map,List.length_range,List.length_cons,List.length_nil,List.length_append];omega) | decide) only [encN_len,encN_flat,mIsE_8,flat_benc,EVc,List.length_cons,List.length_nil,if_true,List.map_cons,List.map_nil,List.replicate_zero,List.replicate_succ,List.cons_append,List.nil_append,List.getElem?_cons_zero,List.getElem?_cons_succ,Option.bind_some,Option.map_some,List.set_cons_zero,List.set_cons_succ,List.length_map,List.length_range,List.all_nil,List.all_cons,List.length_append])
theorem e_suite (k:Nat) (hk:k=2∨k=3∨k=4) (a ea:Addr) (d:Bool) (g:Int) (s:Nat) (s4:Slot):Zw k ea (TG a d g s s4 (.ow []) (.ow []) (.fz (.opq ea)))
    = some (.nx (TG a d g s s4 (.ow [.bl (k==2),.bl (k==3),.bl (k==4),.bl true]) (.ow [.bl false,.bl false,.bl false,.bl false,.bl false]) (.fz (.opq ea)))):=by
  unfold Zw TG
  walk_at "ev"
  rcases hk with rfl | rfl | rfl <;> rfl
noncomputable def Qft:MSt:=(sSeq (sIf (truB (bin2 pEq (mVar 5) (mLst (mLim aNil)))) (sRet (bin2 pIx (mLst (mLim (Qc (mN 0) (Qc (mN 64) aNil)))) (Qn pI01 (Qc (bin2 Qdz (mVar 4) (mC .non)) aNil)))) sNx)
  (sSeq (sIf (bOr (truB (bin2 pIn (mC (.bl true)) (mVar 6))) (bNot (mTru (bin2 pIx (mVar 5) (mN 3))))) (sRet (mN 32)) sNx)
  (sRet (bin2 pAdd (bin2 pAdd (bin2 pAdd (mN 128) (Qn pI01 (Qc (bin2 pIx (mVar 5) (mN 0)) aNil))) (bin2 pMul (mN 2) (Qn pI01 (Qc (bin2 pIx (mVar 5) (mN 1)) aNil)))) (bin2 pMul (mN 4) (Qn pI01 (Qc (bin2 pIx (mVar 5) (mN 2)) aNil)))))))
theorem e_post0 (a:Addr) (d:Bool) (g:Int) (s:Nat) (s6 s7:Slot):Qft (TG a d g s (.fz .non) (.ow []) s6 s7)=some (.rt (pN 0)):=by
  unfold Qft TG
  walk_at "ev"
  rw [show pEq (.lst []) (.lst [])=some (.bl true) from rfl]
  walk_at "ev"
  rfl
theorem e_postk (k:Nat) (hk:k=2∨k=3∨k=4) (a:Addr) (d:Bool) (g:Int) (s:Nat) (s4 s7:Slot):Qft (TG a d g s s4 (.ow [.bl (k==2),.bl (k==3),.bl (k==4),.bl true]) (.ow [.bl false,.bl false,.bl false,.bl false,.bl false]) s7)=some (.rt (pN (if k=2 then 129 else if k=3 then 130 else 132))):=by
  unfold Qft TG
  walk_at "ev"
  rw [show pEq (.lst [.bl (k==2),.bl (k==3),.bl (k==4),.bl true]) (.lst [])=some (.bl false) from rfl]
  walk_at "ev"
  rw [show pIn (.bl true) (.lst [.bl false,.bl false,.bl false,.bl false,.bl false])=some (.bl false) from rfl]
  walk_at "ev"
  rw [QaO,QaO,QaO]
  rcases hk with rfl | rfl | rfl
  · walk_at "ev"
    rfl
  · walk_at "ev"
    rfl
  · walk_at "ev"
    rfl
theorem ok_d (b:Bk) (h:Nat) (u:Una) (l:Mvs):okM "moves" "doubted" (tk b h u l)=true:=by
  show (!(["book","held","unanswered"]:List Str).contains "doubted" && !(("doubted":Str)==("moves":Str)))=true
  decide +kernel
theorem ok_r (b:Bk) (h:Nat) (u:Una) (l:Mvs):okM "moves" "replied" (tk b h u l)=true:=by
  show (!(["book","held","unanswered"]:List Str).contains "replied" && !(("replied":Str)==("moves":Str)))=true
  decide +kernel
noncomputable def mvD (d:Bool) (b:Bk) (h:Nat) (u:Una) (l:Mvs) (g:Int) (s:Nat):OT ⊕ (OT×Nat):=if d=true then QeT b h u l g s else QeO b h u l g s
theorem e_body (C a:Addr) {b:Bk} (ok:b.Ok) {h:Nat} {u:Una} {l:Mvs} (d:Bool) (g:Int) (s:Nat) (hn:l.length≤1000) (s7:Slot) :
    (eIf (mTru (mVar 1)) (XO 0 4 [2,3] (okM "moves" "doubted") (QB C) (Qc (mVar 2) (Qc (mVar 3) aNil))) (XO 0 4 [2,3] (okM "moves" "replied") (QA C) (Qc (mVar 2) (Qc (mVar 3) aNil)))) (TG a d g s (.fz .non) (.ow []) (.ow []) s7) (tk b h u l)
      = (match mvD d b h u l g s with
        | .inl t'=>some (.inl (.nx (TG a d g s (.fz .non) (.ow []) (.ow []) s7) t'))
        | .inr (t',k)=>some (.inr (TG a d g s (.fz .non) (.ow []) (.ow []) s7,t',k))):=by
  unfold mvD TG
  cases d with
  | true =>
    have e:=Qjl C a ok g s (u:=u) (h:=h) hn
    rw [if_pos rfl,eIf_T (by walk_at "ev")]
    cases hd:QeT b h u l g s with
    | inl t'=>rw [hd] at e;exact QgX (qs:=[.int g,pN s]) (a:=a) rfl rfl (ok_d _ _ _ _) e (by decide)
    | inr z=>rw [hd] at e;exact QgW (qs:=[.int g,pN s]) (a:=a) rfl rfl (ok_d _ _ _ _) e (by decide)
  | false =>
    have e:=Qjj C a ok g s (u:=u) (h:=h) hn
    rw [if_neg (by decide),eIf_F (by walk_at "ev")]
    cases hd:QeO b h u l g s with
    | inl t'=>rw [hd] at e;exact QgX (qs:=[.int g,pN s]) (a:=a) rfl rfl (ok_r _ _ _ _) e (by decide)
    | inr z=>rw [hd] at e;exact QgW (qs:=[.int g,pN s]) (a:=a) rfl rfl (ok_r _ _ _ _) e (by decide)
noncomputable def nxH (d:Bool) (h s:Nat):Nat:=if d=true then h else s
noncomputable def nxU (d:Bool) (g:Int) (s:Nat):Una:=if d=true then .yes g.toNat s else .no
theorem e_tried (C a:Addr) {b:Bk} (ok:b.Ok) {h:Nat} {u:Una} {l:Mvs} (d:Bool) (g:Int) (s:Nat) (hn:l.length≤1000) :
    ZP C a [.bl d,.int g,pN s] (tk b h u l)=some (pN (dueN (d==u.none) d (can b (aim h u) s g)),if ((d==u.none)&&can b (aim h u) s g)=true then tk b (nxH d h s) (nxU d g s) (l++[(d,g.toNat,s)]) else tk b h u l):=by
  unfold ZP QbU
  show vSeq _ _ (TG a d g s .un .un .un .un) _=_
  rw [QeM (ZJ (γ:=TG a d g s .un .un .un .un) (γ':=TG a d g s (.fz .non) .un .un .un) rfl rfl)]
  rw [QeM (ZJ (γ:=TG a d g s (.fz .non) .un .un .un) (γ':=TG a d g s (.fz .non) (.ow []) .un .un) (by unfold TG;walk_at "ev") rfl)]
  rw [QeM (ZJ (γ:=TG a d g s (.fz .non) (.ow []) .un .un) (γ':=TG a d g s (.fz .non) (.ow []) (.ow []) .un) (by unfold TG;walk_at "ev") rfl)]
  have eb:=e_body C a ok d g s (u:=u) (h:=h) hn .un
  have key:∀ k,(k=2∨k=3∨k=4)→mvD d b h u l g s = .inr (tk b h u l,k)→vSeq (xTry 0 7 [2,3,4] (eIf (mTru (mVar 1)) (XO 0 4 [2,3] (okM "moves" "doubted") (QB C) (Qc (mVar 2) (Qc (mVar 3) aNil))) (XO 0 4 [2,3] (okM "moves" "replied") (QA C) (Qc (mVar 2) (Qc (mVar 3) aNil)))) Zw) (Qfr Qft) (TG a d g s (.fz .non) (.ow []) (.ow []) .un) (tk b h u l)=some (pN (if k=2 then 129 else if k=3 then 130 else 132),tk b h u l):=fun k hk hd=>by
    rw [hd] at eb
    rw [QeM (try_ex eb (by rcases hk with rfl | rfl | rfl <;> rfl) (by decide) (γ2:=TG a d g s (.fz .non) (.ow [.bl (k==2),.bl (k==3),.bl (k==4),.bl true]) (.ow [.bl false,.bl false,.bl false,.bl false,.bl false]) .un) (fun ea => ?_) rfl)]
    · exact Qig (e_postk k hk a d g s _ _)
    · show sufK 7 (Zw k ea (TG a d g s (.fz .non) (.ow []) (.ow []) (.fz (.opq ea))))=_
      rw [e_suite k hk]
      rfl
  have good:∀ t',mvD d b h u l g s = .inl t'→vSeq (xTry 0 7 [2,3,4] (eIf (mTru (mVar 1)) (XO 0 4 [2,3] (okM "moves" "doubted") (QB C) (Qc (mVar 2) (Qc (mVar 3) aNil))) (XO 0 4 [2,3] (okM "moves" "replied") (QA C) (Qc (mVar 2) (Qc (mVar 3) aNil)))) Zw) (Qfr Qft) (TG a d g s (.fz .non) (.ow []) (.ow []) .un) (tk b h u l)=some (pN 0,t'):=fun t' hd=>by
    rw [hd] at eb
    rw [QeM (try_ok eb)]
    exact Qig (e_post0 a d g s _ _)
  show vSeq (xTry 0 7 [2,3,4] (eIf (mTru (mVar 1)) (XO 0 4 [2,3] (okM "moves" "doubted") (QB C) (Qc (mVar 2) (Qc (mVar 3) aNil))) (XO 0 4 [2,3] (okM "moves" "replied") (QA C) (Qc (mVar 2) (Qc (mVar 3) aNil)))) Zw) (Qfr Qft) (TG a d g s (.fz .non) (.ow []) (.ow []) .un) (tk b h u l)=_
  unfold mvD QeT QeO at key good
  unfold dueN nxH nxU
  cases d with
  | true =>
    cases hu:u.none with
    | false =>
      rw [key 2 (.inl rfl) (by rw [if_pos rfl,hu];rfl)]
      rfl
    | true =>
      cases hc:can b (aim h u) s g with
      | false =>
        rw [key 3 (.inr (.inl rfl)) (by rw [if_pos rfl,hu,if_pos rfl,hc];rfl)]
        rfl
      | true =>
        rw [good (tk b h (.yes g.toNat s) (l++[(true,g.toNat,s)])) (by rw [if_pos rfl,hu,if_pos rfl,hc];rfl)]
        rfl
  | false =>
    cases hu:u.none with
    | true =>
      rw [key 2 (.inl rfl) (by rw [if_neg (by decide),hu];rfl)]
      rfl
    | false =>
      cases hc:can b (aim h u) s g with
      | false =>
        rw [key 4 (.inr (.inr rfl)) (by rw [if_neg (by decide),hu,if_neg (by decide),hc];rfl)]
        rfl
      | true =>
        rw [good (tk b s .no (l++[(false,g.toNat,s)])) (by rw [if_neg (by decide),hu,if_neg (by decide),hc];rfl)]
        rfl
end DH

noncomputable section
namespace DH
open PySem PySem.Spec PyProof.Rows L2 L2.PM
noncomputable def kpV (l:Mvs):PV := .lst [.lst (mvs (l++[(true,0,0)])),.lst (mvs (l++[(true,0,0)]))]
noncomputable abbrev hitM (b:Bk):Nat:=stk b (2 ^ b.banes.length - 1)
noncomputable abbrev G (C:Addr) (ns:List Int) (b:Bk) (w cut h:Nat) (u:Una) (l:Mvs) (ks:List Mvs) (a:Addr) (s13 s14 s15 s16 s17 s18 s19 s20:Slot):PEnv :=
  [.fz (.lst (ns.map .int)),.fz (pN b.banes.length),.fz (pN w),.fz (pN cut),.fz b.enc,.fz (pN h),.fz (pN (2 ^ b.banes.length - 1)),.fz (pN (hitM b)),.fz u.pv,.ow (mvs l),.ow (ks.map kpV),.fz (.opq a),.fz (tkV C b (2 ^ b.banes.length - 1) .no []),s13,s14,s15,s16,s17,s18,s19,s20]
theorem flat_mv (m:Bool×Nat×Nat):flat (mvV m)=false:=rfl
theorem pEq_bb (x y:Bool):pEq (.bl x) (.bl y)=some (.bl (x==y)):=by rw [QdA (okv_bl x) (okv_bl y)];rfl
local macro_rules | `(tactic| walk_at "ev") => `(tactic| try simp (disch:=first | assumption | omega | (simp only [encN_len,mvs_len,encN_len,List.length_map,List.length_range,List.length_cons,List.length_nil,List.length_append];omega) | decide) only [encN_len,encN_flat,enc_ix0,enc_ix1,enc_ix2,flat_benc,testBit_one,testBit_zero',una_isN,mvs_len,flat_mv,pEq_bb,rd_tk,ev_mMeth,mth_said,EVc,List.length_cons,List.length_nil,if_true,List.map_cons,List.map_nil,List.replicate_zero,List.replicate_succ,List.cons_append,List.nil_append,List.getElem?_cons_zero,List.getElem?_cons_succ,Option.bind_some,Option.map_some,List.set_cons_zero,List.set_cons_succ,List.length_map,List.length_range,List.all_nil,List.all_cons,List.length_append])
variable (C:Addr) (ns:List Int) (b:Bk) (w cut h:Nat) (u:Una) (l:Mvs) (ks:List Mvs) (a:Addr) (c:Int) (s14 s15 s16 s17 s18 s19 s20:Slot)
theorem t1:(sSet [8] 14 (bin2 pIs (mVar 8) (mC .non))) (G C ns b w cut h u l ks a (.fz (.int c)) s14 s15 s16 s17 s18 s19 s20)=some (.nx (G C ns b w cut h u l ks a (.fz (.int c)) (.fz (.bl u.none)) s15 s16 s17 s18 s19 s20)):=by
  unfold G;walk_at "ev"
theorem t2:(sSet [5,8] 15 (Qn QP (Qc (mVar 5) (Qc (mVar 8) aNil)))) (G C ns b w cut h u l ks a (.fz (.int c)) s14 s15 s16 s17 s18 s19 s20)=some (.nx (G C ns b w cut h u l ks a (.fz (.int c)) s14 (.fz (pN (aim h u))) s16 s17 s18 s19 s20)):=by
  unfold G;walk_at "ev";rw [Qhb];walk_at "ev"
theorem t3:∃ d:Bool,(sIf (truB (bin2 pEq (bin2 pMod (mVar 13) (mN 5)) (mN 0))) (sSet [14] 14 (vNot (mVar 14))) sNx) (G C ns b w cut h u l ks a (.fz (.int c)) (.fz (.bl u.none)) s15 s16 s17 s18 s19 s20)=some (.nx (G C ns b w cut h u l ks a (.fz (.int c)) (.fz (.bl d)) s15 s16 s17 s18 s19 s20)):=by
  unfold G
  walk_at "ev"
  cases (c % ((5:Nat):Int)).toNat==0 with
  | true=>walk_at "ev";exact ⟨_,rfl⟩
  | false=>walk_at "ev";exact ⟨_,rfl⟩
theorem t4 (h8:b.banes.length≤8) (m:Nat):∃ g:Int,(sSet [13,15,1] 16 (Qn Zq (Qc (bin2 pDiv (mVar 13) (mN 10)) (Qc (mVar 15) (Qc (mVar 1) aNil))))) (G C ns b w cut h u l ks a (.fz (.int c)) s14 (.fz (pN m)) s16 s17 s18 s19 s20)=some (.nx (G C ns b w cut h u l ks a (.fz (.int c)) s14 (.fz (pN m)) (.fz (.int g)) s17 s18 s19 s20)):=by
  obtain ⟨g,e⟩:=e_named (c / ((10:Nat):Int)) m h8
  refine ⟨g,?_⟩
  unfold G
  walk_at "ev"
  rw [e]
  walk_at "ev"
theorem t5 (h8:b.banes.length≤8):∃ s:Nat,s < 2 ^ b.banes.length∧(sSet [13,1,6,13] 17 (bin2 pIx (mLst (mLim (Qc (bin2 pMod (bin2 pDiv (mVar 13) (mN 360)) (bin2 pShl (mN 1) (mVar 1))) (Qc (mVar 6) aNil)))) (bin2 pMod (bin2 pDiv (mVar 13) (mN 5)) (mN 2)))) (G C ns b w cut h u l ks a (.fz (.int c)) s14 s15 s16 s17 s18 s19 s20)=some (.nx (G C ns b w cut h u l ks a (.fz (.int c)) s14 s15 s16 (.fz (pN s)) s18 s19 s20)):=by
  have hp:=Nat.two_pow_pos b.banes.length
  have hp8:=pow8 h8
  have h2:=XA (c / ((5:Nat):Int)) (show 0 < 2 by decide)
  have hd:=XA (c / ((360:Nat):Int)) hp
  unfold G
  walk_at "ev"
  generalize (c / ((5:Nat):Int) % ((2:Nat):Int)).toNat=i at *
  rcases (show i=0∨i=1 by omega) with rfl | rfl
  · exact ⟨_,hd,rfl⟩
  · exact ⟨_,show 2 ^ b.banes.length - 1 < _ by omega,rfl⟩
theorem t7 (ok:b.Ok) (d:Bool) (m:Nat) (g:Int) {s:Nat} (hs:s < 2 ^ b.banes.length):(sIf (truB (bin2 pNe (mVar 18) (Qn Zr (Qc (mVar 4) (Qc (bin2 pEq (mVar 14) (bin2 pIs (mVar 8) (mC .non))) (Qc (mVar 14) (Qc (mVar 15) (Qc (mVar 16) (Qc (mVar 17) aNil))))))))) (sRet (mC (.bl false))) sNx)
    (G C ns b w cut h u l ks a (.fz (.int c)) (.fz (.bl d)) (.fz (pN m)) (.fz (.int g)) (.fz (pN s)) (.fz (pN (dueN (d==u.none) d (can b m s g)))) s19 s20)=some (.nx (G C ns b w cut h u l ks a (.fz (.int c)) (.fz (.bl d)) (.fz (pN m)) (.fz (.int g)) (.fz (pN s)) (.fz (pN (dueN (d==u.none) d (can b m s g)))) s19 s20)):=by
  unfold G
  walk_at "ev"
  rw [e_due ok (d==u.none) d m g hs]
  walk_at "ev"
  rw [show (!(dueN (d==u.none) d (can b m s g)==dueN (d==u.none) d (can b m s g)))=false by simp]
  walk_at "ev"
theorem due_z (r d c:Bool):(dueN r d c==0)=(r&&c):=by cases r <;> cases d <;> cases c <;> rfl
theorem two_mv (d:Bool):[PV.str "reply",.str "doubt"][if d=true then 1 else 0]?=some (.str (if d=true then "doubt" else "reply")):=by cases d <;> rfl
theorem t8 (d:Bool) (m:Nat) (g:Int) (s:Nat) (hl:l.length≤1000):(sIf (truB (bin2 pEq (mVar 18) (mN 0))) (sSeq (sApp [14,16,17] 9 (mTup (Qc (bin2 pIx (mLst (mLim (Qc (mC (.str "reply")) (Qc (mC (.str "doubt")) aNil)))) (Qn pI01 (Qc (mVar 14) aNil))) (Qc (mVar 16) (Qc (mVar 17) aNil)))))
  (sSeq (sSet [] 8 (mC .non))
  (sIf (mTru (mVar 14)) (sSet [16,17] 8 (mTup (Qc (mVar 16) (Qc (mVar 17) aNil)))) (sSet [17] 5 (mVar 17))))) sNx)
    (G C ns b w cut h u l ks a (.fz (.int c)) (.fz (.bl d)) (.fz (pN m)) (.fz (.int g)) (.fz (pN s)) (.fz (pN (dueN (d==u.none) d (can b m s g)))) s19 s20)=some (.nx (if ((d==u.none)&&can b m s g)=true then G C ns b w cut (nxH d h s) (nxU d g s) (l++[(d,g.toNat,s)]) ks a (.fz (.int c)) (.fz (.bl d)) (.fz (pN m)) (.fz (.int g)) (.fz (pN s)) (.fz (pN (dueN (d==u.none) d (can b m s g)))) s19 s20
      else G C ns b w cut h u l ks a (.fz (.int c)) (.fz (.bl d)) (.fz (pN m)) (.fz (.int g)) (.fz (pN s)) (.fz (pN (dueN (d==u.none) d (can b m s g)))) s19 s20)):=by
  unfold G
  walk_at "ev"
  rw [due_z]
  cases hr:(d==u.none)&&can b m s g with
  | false=>walk_at "ev";rfl
  | true =>
    rw [Bool.and_eq_true] at hr
    have hg:=Qic hr.2
    walk_at "ev"
    rw [QaO]
    walk_at "ev"
    rw [two_mv]
    walk_at "ev"
    have em:PV.tup [.str (if d=true then "doubt" else "reply"),.int g,pN s]=mvV (d,g.toNat,s):=by unfold mvV pN;rw [hg]
    rw [em,YQ (by rw [mvs_len];omega) rfl]
    have el:mvs l++[mvV (d,g.toNat,s)]=mvs (l++[(d,g.toNat,s)]):=by unfold mvs;rw [List.map_append];rfl
    walk_at "ev"
    rw [el]
    cases d with
    | true =>
      walk_at "ev"
      rw [show (nxU true g s).pv = .tup [.int g,pN s] by show PV.tup [.int ((g.toNat:Nat):Int),pN s]=_;rw [hg]]
      rfl
    | false =>
      walk_at "ev"
      rfl
theorem okcp:okM "moves" "said" (tk b h u l)=true:=by
  show (!(["book","held","unanswered"]:List Str).contains "said" && !(("said":Str)==("moves":Str)))=true
  decide +kernel
theorem t9:xCp 11 19 "moves" "said" (G C ns b w cut h u l ks a (.fz (.int c)) s14 s15 s16 s17 s18 s19 s20) (tk b h u l)=some (.nx (G C ns b w cut h u l ks a (.fz (.int c)) s14 s15 s16 s17 s18 (.ow (mvs l)) s20) (tk b h u l)):=by
  show (if (["book","held","unanswered"]:List Str).contains "moves"=false∧okM "moves" "said" (tk b h u l)=true∧(19:Nat)≠11∧19 < 21 then _ else none)=_
  rw [if_pos ⟨by decide +kernel,okcp b h u l,by decide,by decide⟩]
  rfl
theorem t10 (ok:b.Ok) (hl:l.length≤1000):xIfA 11 (XG C "moves") (bOr (bNot (mTru (Qn Zh (Qc (mVar 19) (Qc (mVar 9) aNil))))) (bNot (mTru (Qn (QQ C) (Qc (mVar 11) (Qc (mVar 7) (Qc (mVar 5) (Qc (mVar 8) (Qc (bin2 pMod (bin2 pDiv (mVar 13) (mN 7)) (mN 2)) aNil))))))))) (Yo 11 (sRet (mC (.bl false)))) xNx
    (G C ns b w cut h u l ks a (.fz (.int c)) s14 s15 s16 s17 s18 (.ow (mvs l)) s20) (tk b h u l)=some (.nx (G C ns b w cut h u l ks a (.fz (.int c)) s14 s15 s16 s17 s18 (.ow (mvs l)) s20) (tk b h u l)):=by
  have h2:=XA (c / ((7:Nat):Int)) (show 0 < 2 by decide)
  rw [xq_ifF fun x => ?_]
  · rfl
  · unfold G
    walk_at "ev"
    rw [QiC l hl]
    walk_at "ev"
    rw [QhY C ok h u l _ h2]
    walk_at "ev"
theorem t11 (hl:l.length≤1000):(sApp [] 19 (mTup (Qc (mC (.str "doubt")) (Qc (mN 0) (Qc (mN 0) aNil))))) (G C ns b w cut h u l ks a (.fz (.int c)) s14 s15 s16 s17 s18 (.ow (mvs l)) s20)=some (.nx (G C ns b w cut h u l ks a (.fz (.int c)) s14 s15 s16 s17 s18 (.ow (mvs (l++[(true,0,0)]))) s20)):=by
  unfold G
  walk_at "ev"
  rw [show PV.tup [.str "doubt",pN 0,pN 0]=mvV (true,0,0) from rfl,YQ (by rw [mvs_len];omega) rfl]
  walk_at "ev"
  unfold mvs
  rw [List.map_append]
  rfl
theorem t12 (hl:l.length≤1000) (hk:ks.length≤1000):(sApp [19,19] 10 (mLst (mLim (Qc (mVar 19) (Qc (mLst (Qn Qce (Qc (mVar 19) aNil))) aNil))))) (G C ns b w cut h u l ks a (.fz (.int c)) s14 s15 s16 s17 s18 (.ow (mvs (l++[(true,0,0)]))) s20)=some (.nx (G C ns b w cut h u l (ks++[l]) a (.fz (.int c)) s14 s15 s16 s17 s18 (.fz (.lst (mvs (l++[(true,0,0)])))) s20)):=by
  unfold G
  walk_at "ev"
  rw [YQ (by rw [List.length_map];omega) rfl,List.map_append]
  rfl
end DH
namespace HD
open PySem PySem.W PySem.Calls PyProof.Rows L2
noncomputable abbrev fo (x q:Str) (st:Stmt) (dV doc pm:Value) (c:Addr):Obj:=⟨.type "function",none,.func (fnOf x q (Qq st) (Qm st) (Qe st) dV .none doc pm none (.ref c) .none),#[]⟩
noncomputable abbrev co (x q:Str) (t:Nat) (l n:Int) (a b:Addr) (u v:Value) (c:Addr) (z:Nat):Obj:=⟨.type "code",none,.fields #[.str x t,.str q (t + 1),.str "/claim/cut.py" (t + 2),.int l 0,.int n 0,.int 0 0,.int 0 0,.int 3 0,.ref a,.bool true,.int 181 0,.ref b,.none,u,v,.ref c,.int z 0,.int l 0,.str "/claim/cut.py" (z + 1)],#[]⟩
noncomputable abbrev en (P:Params) (x:Str) (t:Nat) (v:Value):DictEntry:=⟨PyData.keyHash P x,.str x t,v⟩
noncomputable def run (thr ok:Thread→Bool) (st:SharedT→Thread→Option (SharedT×Thread)):Nat→SharedT→Thread→Option SharedT
  | 0,_,_=>none
  | n + 1,s,t=>match thr t with
    | true=>some s
    | false=>match ok t with
      | false=>none
      | true=>match st s t with
        | some x=>run thr ok st n x.1 x.2
        | none=>none
theorem run_top {tb:String→Option Builtin} {p:Program} {w:World} {m:Nat} {an:Option Value}:∀ (n:Nat) (s r:SharedT) (t:Thread),
    run through (stepOk m an) (stepT (denote tb) p w) n s t=some r→topRun tb p w m an n s.abs t=some r.abs:=by
  intro n
  induction n with
  | zero=>intro s r t h;cases h
  | succ n ih =>
    intro s r t h
    simp only [run] at h
    simp only [topRun]
    split at h
    · next e=>cases h;rw [e]
    · next e =>
      rw [e]
      split at h
      · cases h
      · next e2 =>
        rw [e2]
        split at h
        · next x e3=>rw [stepT_spec (s':=x.1) (t':=x.2) e3];exact ih _ _ _ h
        · cases h
noncomputable def tree (l:List Obj):BT:=(l.foldl (fun x o=>(x.1.ins x.2 o,x.2 + 1)) (BT.nil,0)).1
noncomputable def st0 (w:World) (os:OsState):SharedT:=⟨tree (boot_heap w.params).objs.toList,11,(boot_heap w.params).life,Array.mk [],boot_drawn,boot_toks,os⟩
theorem st0_abs (w:World) (os:OsState):(st0 w os).abs=⟨boot_heap w.params,Array.mk [],boot_drawn,boot_toks,os⟩:=by
  have h:∀ P:Params,absHeap (tree (boot_heap P).objs.toList) 11 (boot_heap P).life=boot_heap P:=fun P=>by kernel_rfl
  show Shared.mk (absHeap (tree (boot_heap w.params).objs.toList) 11 (boot_heap w.params).life) _ _ _ _=_
  rw [h]
  rfl
noncomputable def only (p:Program) (st:Stmt):Program:={ p with main:={ p.main with body:=[st] } }
noncomputable def defPos (s:Stmt):Pos:=match s with
  | .FunctionDef _ _ _ _ _ _ _ _ _ c=>c
  | _=>⟨0,0,0,0⟩
noncomputable def QdB (p:Program):List Str:=(p.main.scope.names.map (·.1)).filter fun n => !(n==("law":Str))
noncomputable def sees (p:Program) (P:Params) (h:Heap) (s:Shared):Bool :=
  staticsOk (importedModules p.main.body) (boot_heap P) h&&namesBound p h&&gensDone s&&laidKept (boot_heap P) h
noncomputable def end_ (p q:Program) (as:List Addr) (w:World) (os:OsState) (N:Nat) :=
  (run through (Fast.tw6613529449190102663 11 (some (.ref 6))) (Fast.tw10156331382660048174 (Fast.tw11892475500146522536 Fast.tw14364793385576792824) p w) N (st0 w os) (topStub p)).map fun s =>
    (sees p w.params s.abs.heap s.abs,Fast.tw4187177175401517315 q (QdB p) (importedModules p.main.body) (fun _=>true) true s.abs,as.map s.abs.heap.get?)
theorem left {p q:Program} {K:Params→Frag} {as:List Addr} {N:Nat} (e:opening p=plainProg p.main.scope.names) (f:∀ s,fenceModules? p s=some s) (hN:Nat.ble 600 N=true)
    (one:∀ (w:World) (os:OsState),end_ p q as w os N=some (true,openGood q (QdB p),(K w.params).map fun x=>some x.2)) :
    LeftO p q (QdB p) (fun _=>true) (fun s=>as.map s.heap.get?) (fun w=>(K w.params).map fun x=>some x.2) N:=by
  intro w
  have o:=boot_open (p:=p) (N:=N) e hN f w
  match hf:fencedOpening treeTable p w N with
  | none=>rw [hf] at o;cases o
  | some ⟨h,gs,d,k,os⟩ =>
    rw [hf] at o
    have o2:=Option.some.inj o
    have c1:h=boot_heap w.params:=congrArg Prod.fst o2
    have c2:gs=Array.mk []:=congrArg (fun x=>x.2.1) o2
    have c3:d=boot_drawn:=congrArg (fun x=>x.2.2.1) o2
    have c4:k=boot_toks:=congrArg (fun x=>x.2.2.2) o2
    have r:=one w os
    unfold end_ at r
    rw [← Fast.te6613529449190102663,← Fast.te10156331382660048174,← Fast.te11892475500146522536,← Fast.te14364793385576792824,← Fast.te4187177175401517315] at r
    match hr:run through (stepOk 11 (some (.ref 6))) (stepT (denote treeTable) p w) N (st0 w os) (topStub p) with
    | none=>rw [hr] at r;cases r
    | some s =>
      rw [hr] at r
      have r2:=Option.some.inj r
      have l1:=congrArg Prod.fst r2
      have l2:=congrArg (fun x=>x.2.1) r2
      have l3:=congrArg (fun x=>x.2.2) r2
      have t:=run_top N _ _ _ hr
      rw [st0_abs] at t
      subst c1 c2 c3 c4
      have z:(boot_heap w.params).isNs mainGlobals=true∧(boot_heap w.params).objs.size=11∧(boot_heap w.params).nsMap mainGlobals "__annotations__"=some (.ref 6):=⟨by kernel_rfl,by kernel_rfl,by kernel_rfl⟩
      have u:topFrom treeTable p w N ⟨boot_heap w.params,Array.mk [],boot_drawn,boot_toks,os⟩=some s.abs:=by
        simp only [topFrom,z.1,z.2.1,z.2.2,t]
        have l1':(staticsOk (importedModules p.main.body) (boot_heap w.params) s.abs.heap&&namesBound p s.abs.heap&&gensDone s.abs&&laidKept (boot_heap w.params) s.abs.heap)=true:=l1
        simp only [Option.bind_some,l1']
        rfl
      have v:openEnds treeTable p w N=some s.abs:=by
        unfold openEnds
        rw [hf]
        exact u
      rw [v]
      exact congrArg some (Prod.ext l2 l3)
theorem opens {l:OpenLaw} {K:Params→Frag} {as:List Addr} {st:Stmt} {N:Nat} (ws:Fast.tw9446332074065402090 l=true) (e:opening l.prog=plainProg l.prog.main.scope.names) (f:∀ s,fenceModules? l.prog s=some s) (hN:Nat.ble 600 N=true)
    (one:∀ (w:World) (os:OsState),end_ l.prog (only l.prog st) as w os N=some (true,openGood (only l.prog st) (QdB l.prog),(K w.params).map fun x=>some x.2)) (ha:∀ P,as=(K P).map (·.1))
    (hd:defOf (only l.prog st) l.name=some (⟨l.name,Qq st,Qm st,Qe st,defPos st⟩,[])) (hp:l.prog.theDef l.name=some (Qq st,Qm st,Qe st)) (hk:kwWritten? (Qq st).kwonlyargs (Qq st).kw_defaults=some [])
    (ok:(chainsOk (only l.prog st)&&opensWell l.prog&&(frees l.row.toRowW&&l.row.within.isEmpty))=true) (hb:l.prog.bare) (hw:l.row.toRowW.promised)
    (go:WalkO (only l.prog st) (QdB l.prog) (fun _ _=>True) (InK K) l.row.toRowW ⟨l.name,Qq st,Qm st,Qe st,defPos st⟩ [] fun f vs=>PySem.call f vs):l.Holds:=by
  rw [← Fast.te9446332074065402090] at ws
  exact holds_law ws fun k=>holds_open (r:=l.row) (left e f hN one) (InK.of ha) InK.keeps (fun _ _=>trivial) (fun _ _ _ _ _=>trivial) hd hp hk (fun s _=>recFacts_of (R:=[]) rfl) (Bool.or_true _) k ok hb hw go
end HD
namespace K32
open PySem PySem.Spec PyProof.Rows L2 L2.PM DH
noncomputable def I (C:Addr) (ns:List Int) (b:Bk) (w cut:Nat) (a:Addr) (k:Nat) (γ:PEnv) (t:OT):Prop :=
  ∃ h u l ks s13 s14 s15 s16 s17 s18 s19 s20,γ=G C ns b w cut h u l ks a s13 s14 s15 s16 s17 s18 s19 s20∧t=tk b h u l∧l.length≤k∧ks.length≤k
theorem turn (C:Addr) (ns:List Int) {b:Bk} (ok:b.Ok) (w cut h:Nat) (u:Una) (l:Mvs) (ks:List Mvs) (a:Addr) (c:Int) (s14 s15 s16 s17 s18 s19 s20:Slot) {k:Nat} (hk:k≤100) (hl:l.length≤k) (hks:ks.length≤k) :
    ∃ γ2 t2,Xt C (G C ns b w cut h u l ks a (.fz (.int c)) s14 s15 s16 s17 s18 s19 s20) (tk b h u l)=some (.nx γ2 t2)∧I C ns b w cut a (k + 1) γ2 t2:=by
  have h8:=ok.g8
  unfold Xt
  rw [Zm (ZJ (t1 C ns b w cut h u l ks a c s14 s15 s16 s17 s18 s19 s20) rfl)]
  rw [Zm (ZJ (t2 C ns b w cut h u l ks a c _ s15 s16 s17 s18 s19 s20) rfl)]
  obtain ⟨d,e3⟩:=t3 C ns b w cut h u l ks a c (.fz (pN (aim h u))) s16 s17 s18 s19 s20
  rw [Zm (ZJ e3 rfl)]
  obtain ⟨g,e4⟩:=t4 C ns b w cut h u l ks a c (.fz (.bl d)) s16 s17 s18 s19 s20 h8 (aim h u)
  rw [Zm (ZJ e4 rfl)]
  obtain ⟨s,hs,e5⟩:=t5 C ns b w cut h u l ks a c (.fz (.bl d)) (.fz (pN (aim h u))) (.fz (.int g)) s17 s18 s19 s20 h8
  rw [Zm (ZJ e5 rfl)]
  have e6:=xq_callV (j:=11) (i:=18) (ms:=[14,16,17]) (ma:=Qc (mVar 14) (Qc (mVar 16) (Qc (mVar 17) aNil))) (γ:=G C ns b w cut h u l ks a (.fz (.int c)) (.fz (.bl d)) (.fz (pN (aim h u))) (.fz (.int g)) (.fz (pN s)) s18 s19 s20) (qs:=[.bl d,.int g,pN s]) (a:=a) rfl rfl (e_tried C a ok (h:=h) (u:=u) (l:=l) d g s (by omega)) (by decide)
  rw [Zm (e6.trans (show _=some (OutX.nx (G C ns b w cut h u l ks a (.fz (.int c)) (.fz (.bl d)) (.fz (pN (aim h u))) (.fz (.int g)) (.fz (pN s)) (.fz (pN (dueN (d==u.none) d (can b (aim h u) s g)))) s19 s20) _) from rfl))]
  rw [Zm (ZJ (t7 C ns b w cut h u l ks a c s19 s20 ok d (aim h u) g hs) rfl)]
  have e8:=t8 C ns b w cut h u l ks a c s19 s20 d (aim h u) g s (by omega)
  cases hr:(d==u.none)&&can b (aim h u) s g with
  | true =>
    rw [hr,if_pos rfl] at e8
    rw [if_pos rfl]
    rw [Zm (ZJ e8 rfl)]
    have hl':(l++[(d,g.toNat,s)]).length≤k + 1:=by simp;omega
    generalize l++[(d,g.toNat,s)]=l' at *
    rw [Zm (t9 C ns b w cut _ _ l' ks a c _ _ _ _ _ s19 s20)]
    rw [Zm (t10 C ns b w cut _ _ l' ks a c _ _ _ _ _ s20 ok (by omega))]
    rw [Zm (ZJ (t11 C ns b w cut _ _ l' ks a c _ _ _ _ _ s20 (by omega)) rfl)]
    exact ⟨_,_,ZJ (t12 C ns b w cut _ _ l' ks a c _ _ _ _ _ s20 (by omega) (by omega)) rfl,_,_,l',_,_,_,_,_,_,_,_,_,rfl,rfl,hl',by simp;omega⟩
  | false =>
    rw [hr,if_neg (by decide)] at e8
    rw [if_neg (by decide)]
    rw [Zm (ZJ e8 rfl)]
    rw [Zm (t9 C ns b w cut _ _ l ks a c _ _ _ _ _ s19 s20)]
    rw [Zm (t10 C ns b w cut _ _ l ks a c _ _ _ _ _ s20 ok (by omega))]
    rw [Zm (ZJ (t11 C ns b w cut _ _ l ks a c _ _ _ _ _ s20 (by omega)) rfl)]
    exact ⟨_,_,ZJ (t12 C ns b w cut _ _ l ks a c _ _ _ _ _ s20 (by omega) (by omega)) rfl,_,_,l,_,_,_,_,_,_,_,_,_,rfl,rfl,by omega,by simp;omega⟩
theorem newL_ok {C:Addr} {b:Bk} {h:Nat} {ma:PEnv→Option (List PV)} {γ:PEnv} (e:ma γ=some [b.enc,pN h]):Qjx C "moves" (QH C) ma γ=some (tkV C b h .no []):=by
  unfold Qjx
  rw [e,Option.bind_some,XW fun a=>e_init C a b h]
  rfl
local macro_rules | `(tactic| walk_at "ev") => `(tactic| try simp (disch:=first | assumption | omega | (simp only [encN_len,mvs_len,encN_len,List.length_map,List.length_range,List.length_cons,List.length_nil,List.length_append];omega) | decide) only [encN_len,encN_flat,enc_ix0,enc_ix1,enc_ix2,flat_benc,testBit_one,testBit_zero',una_isN,mvs_len,flat_mv,pEq_bb,rd_tk,ev_mMeth,mth_said,e_cell,pAdd_ni,pAdd_in,EVc,List.length_cons,List.length_nil,if_true,List.map_cons,List.map_nil,List.replicate_zero,List.replicate_succ,List.cons_append,List.nil_append,List.getElem?_cons_zero,List.getElem?_cons_succ,Option.bind_some,Option.map_some,List.set_cons_zero,List.set_cons_succ,List.length_map,List.length_range,List.all_nil,List.all_cons,List.length_append])
theorem e_good1 (C:Addr) (ns:List Int) {b:Bk} (ok:b.Ok) (w cut h:Nat) (u:Una) (l:Mvs) (ks:List Mvs) (a:Addr) (hl:l.length≤1000) (s13 s14 s15 s16 s17 s18 s19 s20:Slot) :
    QhK 11 20 (XG C "moves") (vAnd (Qn Zh (Qc (YT C "said" (Zi C) (mVar 11) aNil) (Qc (mVar 9) aNil))) (Qn (QQ C) (Qc (mVar 11) (Qc (mVar 7) (Qc (mVar 5) (Qc (mVar 8) (Qc (mN 1) aNil)))))))
      (G C ns b w cut h u l ks a s13 s14 s15 s16 s17 s18 s19 s20) (tk b h u l)=some (.nx (G C ns b w cut h u l ks a s13 s14 s15 s16 s17 s18 s19 (.fz (.bl true))) (tk b h u l)):=by
  refine xq_setA (fun x => ?_) rfl (by decide)
  unfold G
  walk_at "ev"
  rw [QiB]
  walk_at "ev"
  rw [QiC l hl]
  walk_at "ev"
  rw [QhY C ok h u l 1 (by decide)]
theorem e_good2 (C:Addr) (ns:List Int) {b:Bk} (ok:b.Ok) (w cut h:Nat) (u:Una) (l:Mvs) (ks:List Mvs) (a:Addr) (s13 s14 s15 s16 s17 s18 s19:Slot) :
    (sSet [20,12,7,6,12] 20 (vAnd (mVar 20) (vAnd (Qn (QQ C) (Qc (mVar 12) (Qc (mVar 7) (Qc (mVar 6) (Qc (mC .non) (Qc (mN 0) aNil)))))) (bin2 pEq (YT C "said" (Zi C) (mVar 12) aNil) (mLst (mLim aNil))))))
      (G C ns b w cut h u l ks a s13 s14 s15 s16 s17 s18 s19 (.fz (.bl true)))=some (.nx (G C ns b w cut h u l ks a s13 s14 s15 s16 s17 s18 s19 (.fz (.bl true)))):=by
  have e:=QhY C ok (2 ^ b.banes.length - 1) .no [] 0 (by decide)
  rw [show Una.no.pv = .non from rfl] at e
  unfold G
  walk_at "ev"
  rw [e]
  walk_at "ev"
  rw [QiB]
  walk_at "ev"
  rw [show pEq (.lst (mvs [])) (.lst [])=some (.bl true) from rfl]
  walk_at "ev"
theorem okv_kp (l:Mvs):pEq (.lst (mvs l)) (.lst (mvs l))=some (.bl true):=by rw [QdA (Qeh l) (Qeh l),Qcq]
theorem e_all (C:Addr) (ns:List Int) {b:Bk} (w cut h:Nat) (u:Una) (l:Mvs) (ks:List Mvs) (a:Addr) (hk:ks.length≤1000) (s13 s14 s15 s16 s17 s18 s19:Slot) :
    (sRet (vAnd (mVar 20) (Qn Qgp (Qc (mLst (XY (iLst (mVar 10)) 1 [] (gSet 0) Qdv (bin2 pEq (bin2 pIx (mVar 0) (mN 0)) (bin2 pIx (mVar 0) (mN 1))))) aNil)))) (G C ns b w cut h u l ks a s13 s14 s15 s16 s17 s18 s19 (.fz (.bl true)))=some (.rt (.bl true)):=by
  unfold G
  walk_at "ev"
  rw [Qbd kpV (fun _ => .bl true) ks fun l' _=>⟨_,rfl,by
    unfold kpV
    walk_at "ev"
    rw [okv_kp]⟩]
  walk_at "ev"
  rw [show (ks.map fun _=>PV.bl true)=(ks.map fun _=>true).map .bl by rw [List.map_map];rfl,Qiq]
  rw [show (ks.map fun _=>true).all id=true by simp]
  rfl
theorem law_true (C:Addr) (ns:List Int) (hn:ns.length≤63):QaY C [.lst (ns.map .int)]=some (.bl true):=by
  unfold QaY Qfh
  walk_at "ev"
  have hg:=XA (ns.getD 0 0) (show 0 < 9 by decide)
  have hx:=XA (ns.getD 0 0 / ((9:Nat):Int) + ((1:Nat):Int)) (show 0 < 8 by decide)
  have hc:=XA (ns.getD 2 0) (show 0 < 9 by decide)
  generalize (ns.getD 0 0 % ((9:Nat):Int)).toNat=g at *
  generalize ((ns.getD 0 0 / ((9:Nat):Int) + ((1:Nat):Int)) % ((8:Nat):Int)).toNat=x at *
  generalize (ns.getD 2 0 % ((9:Nat):Int)).toNat=y at *
  obtain ⟨b,eb,ok,hl,hbw⟩:=QhH ns hn (3 + y) (show g≤8 by omega) (show g≤g + x by omega) (by omega)
  rw [eb]
  subst hl
  have hp:=Nat.two_pow_pos b.banes.length
  have hp8:=pow8 (show b.banes.length≤8 by omega)
  walk_at "ev"
  generalize (ns.getD 2 0 / ((9:Nat):Int) % ((2 ^ b.banes.length:Nat):Int)).toNat=held at *
  rw [e_hit2 ok]
  walk_at "ev"
  rw [show sPar3 8 9 10 (mC .non) [.fz (.lst (ns.map .int)),.fz (pN b.banes.length),.fz (pN (b.banes.length + x)),.fz (pN (3 + y)),.fz b.enc,.fz (pN held),.fz (pN (2 ^ b.banes.length - 1)),.fz (pN (stk b (2 ^ b.banes.length - 1))),.un,.un,.un,.un,.un,.un,.un,.un,.un,.un,.un,.un,.un]
    = some (.nx [.fz (.lst (ns.map .int)),.fz (pN b.banes.length),.fz (pN (b.banes.length + x)),.fz (pN (3 + y)),.fz b.enc,.fz (pN held),.fz (pN (2 ^ b.banes.length - 1)),.fz (pN (stk b (2 ^ b.banes.length - 1))),.fz .non,.ow [],.ow [],.un,.un,.un,.un,.un,.un,.un,.un,.un,.un]) from rfl]
  walk_at "ev"
  rw [xq_make (qs:=[b.enc,pN held]) (t:=tk b held .no []) (r := .bl true) (by walk_at "ev") (fun a=>e_init C a b held) (by simp) fun a => ?_]
  · walk_at "ev"
  · rw [Zm (γ':=G C ns b (b.banes.length + x) (3 + y) held .no [] [] a .un .un .un .un .un .un .un .un) (t':=tk b held .no [])]
    · have hcl:(cutP ns (some ((3 + y:Nat):Int)) (some ((3 + y + 30:Nat):Int))).length≤63:=by
        have:=Qhf ns (some ((3 + y:Nat):Int)) (some ((3 + y + 30:Nat):Int))
        omega
      have hfor:=xq_for (τ:=OT) (j:=11) (ms:=[0,3,3]) (mi:=iLst (mLst (sl3 pCut (mVar 0) (mSo (mVar 3)) (mSo (bin2 pAdd (mVar 3) (mN 30)))))) (g:=gSet 13) (b:=Xt C) (γ:=G C ns b (b.banes.length + x) (3 + y) held .no [] [] a .un .un .un .un .un .un .un .un) (t:=tk b held .no []) (xs:=(cutP ns (some ((3 + y:Nat):Int)) (some ((3 + y + 30:Nat):Int))).map PV.int) (by unfold G;walk_at "ev")
      generalize cutP ns (some ((3 + y:Nat):Int)) (some ((3 + y + 30:Nat):Int))=cells at *
      rcases forX_q (j:=11) (g:=gSet 13) (b:=Xt C) PV.int (I C ns b (b.banes.length + x) (3 + y) a) (fun _ _=>False) (.bl true) 63 cells 0 (frz [0,3,3] (G C ns b (b.banes.length + x) (3 + y) held .no [] [] a .un .un .un .un .un .un .un .un)) (tk b held .no []) (by omega)
        ⟨held,.no,[],[],_,_,_,_,_,_,_,_,rfl,rfl,Nat.le_refl _,Nat.le_refl _⟩ (by
          rintro k c hk hc γ t ⟨h,u,l,ks,s13,s14,s15,s16,s17,s18,s19,s20,rfl,rfl,hl,hks⟩
          refine ⟨_,rfl,rfl,.inl ?_⟩
          exact turn C ns ok (b.banes.length + x) (3 + y) h u l ks a c s14 s15 s16 s17 s18 s19 s20 (show k≤100 by omega) hl hks) with ⟨γ',t',e,h | h⟩ | e
      · rw [Zm (hfor.trans e)]
        obtain ⟨h,u,l,ks,s13,s14,s15,s16,s17,s18,s19,s20,rfl,rfl,hl,hks⟩:=h
        rw [Zm (e_good1 C ns ok _ _ h u l ks a (by omega) s13 s14 s15 s16 s17 s18 s19 s20)]
        rw [Zm (ZJ (e_good2 C ns ok _ _ h u l ks a s13 s14 s15 s16 s17 s18 s19) rfl)]
        exact xq_liftR (e_all C ns _ _ h u l ks a (by omega) s13 s14 s15 s16 s17 s18 s19)
      · exact h.elim
      · rw [xq_seqR (hfor.trans e)]
    · refine ZJ ?_ rfl
      walk_at "ev"
      rw [newL_ok (b:=b) (h:=2 ^ b.banes.length - 1) (by walk_at "ev")]
      rfl
end K32

namespace K32
open PySem PySem.Spec PyProof.Rows L2 L2.PM DH
noncomputable def top (i:Nat):Stmt:=PySem.Challenge.pw_doubthall_k32_moves.main.body.getD i (.Pass ⟨0,0,0,0⟩)
structure Txt (mg:Str→Option Value):Prop where
  b_ValueError:mg "ValueError"=none
  b_all:mg "all"=none
  b_bool:mg "bool"=none
  b_enumerate:mg "enumerate"=none
  b_int:mg "int"=none
  b_isinstance:mg "isinstance"=none
  b_len:mg "len"=none
  b_list:mg "list"=none
  b_range:mg "range"=none
  b_str:mg "str"=none
  b_sum:mg "sum"=none
  b_tuple:mg "tuple"=none
structure TFld (K:PySem.W.Frag) (C:Addr):Prop where
  fl_book:CFld K C "book"
  fl_held:CFld K C "held"
  fl_unanswered:CFld K C "unanswered"
  fl_moves:CFld K C "moves"
structure WExc (K:PySem.W.Frag) (mg:Str→Option Value) (CA:Nat→Addr):Prop where
  mg_HallError:mg "HallError"=some (.ref (CA 0))
  mg_RowError:mg "RowError"=some (.ref (CA 1))
  mg_NotTurn:mg "NotTurn"=some (.ref (CA 2))
  mg_NoDoubt:mg "NoDoubt"=some (.ref (CA 3))
  mg_NoReply:mg "NoReply"=some (.ref (CA 4))
  mg_NoAsk:mg "NoAsk"=some (.ref (CA 5))
  mg_NoWord:mg "NoWord"=some (.ref (CA 6))
  mg_NotGuess:mg "NotGuess"=some (.ref (CA 7))
  mg_NotTold:mg "NotTold"=some (.ref (CA 8))
  new_NotTurn:XNew K (CA 2)
  new_NoDoubt:XNew K (CA 3)
  new_NoReply:XNew K (CA 4)
  cat_HallError:XCat K (CA 0)
  mro_HallError:∀ k,([2,3,4]:List Nat).contains k=true→PySem.W.mroIn K (CA k) (.ref (CA 0))=some true
  is_NoReply:∀ k,([2,3,4]:List Nat).contains k=true→XIs K (CA k) (.ref (CA 4)) (YA k 4)
  is_NoDoubt:∀ k,([2,3,4]:List Nat).contains k=true→XIs K (CA k) (.ref (CA 3)) (YA k 3)
  is_NotTurn:∀ k,([2,3,4]:List Nat).contains k=true→XIs K (CA k) (.ref (CA 2)) (YA k 2)
  is_NotTold:∀ k,([2,3,4]:List Nat).contains k=true→XIs K (CA k) (.ref (CA 8)) (YA k 8)
  is_NotGuess:∀ k,([2,3,4]:List Nat).contains k=true→XIs K (CA k) (.ref (CA 7)) (YA k 7)
  is_NoWord:∀ k,([2,3,4]:List Nat).contains k=true→XIs K (CA k) (.ref (CA 6)) (YA k 6)
  is_NoAsk:∀ k,([2,3,4]:List Nat).contains k=true→XIs K (CA k) (.ref (CA 5)) (YA k 5)
  is_RowError:∀ k,([2,3,4]:List Nat).contains k=true→XIs K (CA k) (.ref (CA 1)) (YA k 1)
  is_ValueError:∀ k,([2,3,4]:List Nat).contains k=true→XIs K (CA k) (.type "ValueError") true
noncomputable abbrev ZT:Stmt:=top 27
noncomputable def Qbn:List Str:=["shape","banes","guesses","rules","k","rule"]
theorem QdL {P:Program} {w:World} {K:PySem.W.Frag} {mg:Str→Option Value} {base:Heap} {f:Addr} {fd:FuncData} (T:Txt mg)  (F:Fun K "_law_shaped" "_law_shaped" ZT f fd):FnOk P w K mg base CX0 1 f fd ["shape","banes","guesses"] (spO K 3 Zz):=by
  have sc:FnScope Qbn ["shape","banes","guesses"] (Qe ZT):=⟨rfl,rfl,rfl,by decide +kernel,rfl,by decide +kernel,by decide +kernel⟩
  have nd:=sc.nd
  refine fnO (N:=Qbn) (k:=0) F sc rfl fun cdv A outer s H E hr => ?_
  exact (Qi (YO (i:=3) nd rfl (Or.inl rfl) (Zf Qg))
      (Qi (QfK PassesOwn.never rfl (QbG (by rfl) T.b_range (Qb (Qa 2 (pv 2)) Qg)) (Zv (Zb (i:=4) nd rfl (Or.inl rfl))) (Qk (Zs (WM.tm (Qbq (WM.tm (Qaf (Qw (Yr hr.units) (Qa 0 (pv 0)) Qf (Qs _)) (Xy (Qw Qjw (Qj Yd (Qa 4 (pv 4)) Qf) (Qa 2 (pv 2)) (Qs _))))) (QaM (Qw (Yr hr.units) (Qa 0 (pv 0)) Qf (Qs _))))) (Qi (Qy (i:=5) nd rfl (Or.inl rfl) (Xu (Qb (QN QM (Qa 1 (pv 1)) (Qa 4 (pv 4)) (fun _ _=>rfl)) (Qb (Xu (Qb (Qj QF (Qj Yd (Qa 4 (pv 4)) Qf) (Qa 2 (pv 2))) Qg)) Qg))))
      (Qk (Zs (Qw (Qel hr.units) (Qa 5 (pv 5)) (Qa 3 (pv 3)) (by with_unfolding_all rfl)) (Qk (XN (i:=3) (pv 3) (Qa 5 (pv 5)) (Yq (QaR PySem.F.plainAttrs_list PySem.F.slot_list_append PySem.F.type_list_append Ze (pv 3) (ZM (Qa 5 (pv 5))))))) QR))) QR)))
      (Qk (Qbt 3 (pv 3)))))
noncomputable abbrev ZE:Stmt:=top 25
noncomputable def QaH:List Str:=["script","k"]
theorem Qdp {P:Program} {w:World} {K:PySem.W.Frag} {mg:Str→Option Value} {base:Heap} {f:Addr} {fd:FuncData} (T:Txt mg)  (F:Fun K "_law_cell_at" "_law_cell_at" ZE f fd):FnOk P w K mg base CX0 1 f fd ["script","k"] (spM K 2 Qt):=by
  have sc:FnScope QaH ["script","k"] (Qe ZE):=⟨rfl,rfl,rfl,by decide +kernel,rfl,by decide +kernel,by decide +kernel⟩
  have nd:=sc.nd
  refine fnM (N:=QaH) (k:=0) F sc rfl fun cdv A outer s H E hr => ?_
  exact (Qi (Zs (Qw Qjw (Qa 1 (pv 1)) (ZL Qaj (by rfl) T.b_len PySem.boot_len (Qb (Qa 0 (pv 0)) Qg)) (Qs _)) (Qk (Qx (QN QM (Qa 0 (pv 0)) (Qa 1 (pv 1)) (fun _ _=>rfl)))) QR)
      (Qk (Qx Qf)))
noncomputable abbrev QZ:Stmt:=top 26
noncomputable def YK:List Str:=["cell","guesses","words","number","head","size","picks","k"]
theorem Qdo {P:Program} {w:World} {K:PySem.W.Frag} {mg:Str→Option Value} {base:Heap} {f:Addr} {fd:FuncData} (T:Txt mg)  (F:Fun K "_law_rule_of" "_law_rule_of" QZ f fd):FnOk P w K mg base CX0 1 f fd ["cell","guesses","words"] (spM K 3 QV):=by
  have sc:FnScope YK ["cell","guesses","words"] (Qe QZ):=⟨rfl,rfl,rfl,by decide +kernel,rfl,by decide +kernel,by decide +kernel⟩
  have nd:=sc.nd
  refine fnM (N:=YK) (k:=0) F sc rfl fun cdv A outer s H E hr => ?_
  exact (Qi (Qy (i:=3) nd rfl (Or.inl rfl) (Qj QF (Qj QbC (Qj Yd (Qj QF (Qa 0 (pv 0)) Qf) Qf) Qf) Qf))
      (Qi (Qy (i:=4) nd rfl (Or.inl rfl) (Qj Yd (Qa 1 (pv 1)) (Qj QF (Qj ZR (Qa 3 (pv 3)) Qf) (Qj Qch (Qa 2 (pv 2)) (Qa 1 (pv 1))))))
      (Qi (Qy (i:=3) nd rfl (Or.inl rfl) (Qj QF (Qj QbC (Qa 3 (pv 3)) Qf) Qf))
      (Qi (Qy (i:=5) nd rfl (Or.inl rfl) (QN QM (EO.em (Zf (QX (QX (QX (QX (QX (QX Qg)))))))) (Qj QF (Qj ZR (Qa 3 (pv 3)) Qf) Qf) (fun _ _=>rfl)))
      (Qi (YO (i:=6) nd rfl (Or.inr rfl) (Zf Qg))
      (Qi (QfK PassesOwn.never rfl (QbG (by rfl) T.b_range (Qb (Qa 5 (pv 5)) Qg)) (Zv (Zb (i:=7) nd rfl (Or.inl rfl))) (Qi (Qy (i:=3) nd rfl (Or.inl rfl) (Qj QF (Qj QbC (Qa 3 (pv 3)) Qf) Qf))
      (Qk (XN (i:=6) (pv 6) (Qj QF (Qj ZR (Qa 3 (pv 3)) Qf) (Qa 2 (pv 2))) (Yq (QaR PySem.F.plainAttrs_list PySem.F.slot_list_append PySem.F.type_list_append Ze (pv 6) (ZM (Qj QF (Qj ZR (Qa 3 (pv 3)) Qf) (Qa 2 (pv 2))))))))))
      (Qk (Qx (Xu (Qb (Qa 4 (pv 4)) (Qb (ZB Qes (by rfl) T.b_tuple (by kernel_rfl) (Qb (EO.em (XV (X:=(cxOf CX0 P w K mg base YK "_law_rule_of" (Qe QZ) f cdv A outer s H E).nox) (N':=["w","picks"]) (nt:=1) (caps:=[6]) (ts:=[0]) (ns:=([0]++[1])) (ls:=[0]) rfl (QcN (N:=YK) (osc:=(Qe QZ)) rfl rfl (by decide +kernel)) (by decide) (Yn _) (XX (by rfl) T.b_range (Qb (Qa 2 (pv 2)) Qg)) (fun _ _ _ _ _ _=>(Zv (Zb (i:=0) (show (["w","picks"]:List Str).Nodup by decide +kernel) rfl (Or.inl rfl)))) (fun _ _ _ _ _ _=>(QdD (Qw (Qgr (by exact hr.units)) (Qa 0 (pv 0)) (Qa 1 (pv 1)) (by with_unfolding_all rfl)))) (fun _ _ _ _ _ _=>(Qa 0 (pv 0))))) Qg)) Qg)))))))))))
noncomputable abbrev ZF:Stmt:=top 28
noncomputable def QaI:List Str:=["script","guesses","words","cut","shape","number","banes","k","rules","cell","rule"]
theorem Qdq {P:Program} {w:World} {K:PySem.W.Frag} {mg:Str→Option Value} {base:Heap} {f:Addr} {fd:FuncData} (T:Txt mg) (c__law_shaped:CalO P w K mg base 1 "_law_shaped" 3 Zz) (c__law_cell_at:Cal P w K mg base 1 "_law_cell_at" 2 Qt) (c__law_rule_of:Cal P w K mg base 1 "_law_rule_of" 3 QV) (F:Fun K "_law_book_of" "_law_book_of" ZF f fd):FnOk P w K mg base CX0 2 f fd ["script","guesses","words","cut"] (spM K 4 QW):=by
  have sc:FnScope QaI ["script","guesses","words","cut"] (Qe ZF):=⟨rfl,rfl,rfl,by decide +kernel,rfl,by decide +kernel,by decide +kernel⟩
  have nd:=sc.nd
  refine fnM (N:=QaI) (k:=1) F sc rfl fun cdv A outer s H E hr => ?_
  exact (Qi (Qy (i:=4) nd rfl (Or.inl rfl) (Qj QF (Qz c__law_cell_at QS (hr.mono (by decide)) (by rfl) (Qb (Qa 0 (pv 0)) (QX Qg))) Qf))
      (Qi (Zs (Qw (Yr hr.units) (Qa 2 (pv 2)) (Qa 1 (pv 1)) (Qs _)) (Qk (Qy (i:=4) nd rfl (Or.inl rfl) (Qj QbC Qf (Qj QF (Qa 4 (pv 4)) Qf)))) QR)
      (Qi (Qy (i:=5) nd rfl (Or.inl rfl) (Qj QF (Qj QbC (Qj Yd (Qj QF (Qj ZR (Qz c__law_cell_at QS (hr.mono (by decide)) (by rfl) (Qb (Qa 0 (pv 0)) (QX Qg))) Qf) Qf) Qf) Qf) Qf))
      (Qi (YO (i:=6) nd rfl (Or.inl rfl) (Zf Qg))
      (Qi (QfK PassesOwn.never rfl (QbG (by rfl) T.b_range (Qb (Qa 1 (pv 1)) Qg)) (Zv (Zb (i:=7) nd rfl (Or.inl rfl))) (Qi (Qy (i:=5) nd rfl (Or.inl rfl) (Qj QF (Qj QbC (Qa 5 (pv 5)) Qf) Qf))
      (Qk (Zs (Qw (Yr hr.units) (Qa 4 (pv 4)) Qf (Qs _)) (Qk (XN (i:=6) (pv 6) (Qj QF (Qj ZR (Qa 5 (pv 5)) Qf) (Qa 2 (pv 2))) (Yq (QaR PySem.F.plainAttrs_list PySem.F.slot_list_append PySem.F.type_list_append Ze (pv 6) (ZM (Qj QF (Qj ZR (Qa 5 (pv 5)) Qf) (Qa 2 (pv 2)))))))) (Qk (Zs (Qw (Yr hr.units) (Qa 4 (pv 4)) Qf (Qs _)) (Qk (XN (i:=6) (pv 6) (Qj QF (Qj Yd (Qj Yd (Qa 7 (pv 7)) Qf) (Qj QF (Qj ZR (Qa 5 (pv 5)) Qf) Qf)) (Qa 1 (pv 1))) (Yq (QaR PySem.F.plainAttrs_list PySem.F.slot_list_append PySem.F.type_list_append Ze (pv 6) (ZM (Qj QF (Qj Yd (Qj Yd (Qa 7 (pv 7)) Qf) (Qj QF (Qj ZR (Qa 5 (pv 5)) Qf) Qf)) (Qa 1 (pv 1)))))))) (Qk (XN (i:=6) (pv 6) (Qj Yd (Qa 1 (pv 1)) (Qj QF (Qa 7 (pv 7)) (Qj Qch (Qa 2 (pv 2)) (Qa 1 (pv 1))))) (Yq (QaR PySem.F.plainAttrs_list PySem.F.slot_list_append PySem.F.type_list_append Ze (pv 6) (ZM (Qj Yd (Qa 1 (pv 1)) (Qj QF (Qa 7 (pv 7)) (Qj Qch (Qa 2 (pv 2)) (Qa 1 (pv 1))))))))))))))))
      (Qi (YO (i:=8) nd rfl (Or.inl rfl) (eo_cal c__law_shaped QbL (hr.mono (by decide)) (by rfl) (Qb (Qa 4 (pv 4)) (Qb (Qa 6 (pv 6)) (Qb (Qa 1 (pv 1)) Qg)))))
      (Qi (Qdx PassesOwn.never rfl (Qck (EO.em (eo_cut (Qa 0 (pv 0)) (Qef Qf) (Qef (Qa 3 (pv 3)))))) (Zv (Zb (i:=9) nd rfl (Or.inl rfl))) (Qk (Zs (WM.tm (Qaf (Qw om_gt (Qa 2 (pv 2)) (Qa 1 (pv 1)) (Qs _)) (Xy (Qw Qjw (ZL Qaj (by rfl) T.b_len PySem.boot_len (Qb (Qa 8 (pv 8)) Qg)) Qf (Qs _))))) (Qi (Qy (i:=10) nd rfl (Or.inl rfl) (Qz c__law_rule_of QaA (hr.mono (by decide)) (by rfl) (Qb (Qa 9 (pv 9)) (Qb (Qa 1 (pv 1)) (Qb (Qa 2 (pv 2)) Qg)))))
      (Qk (Zs (Qw (Qel hr.units) (Qa 10 (pv 10)) (Qa 8 (pv 8)) (by with_unfolding_all rfl)) (Qk (XN (i:=8) (pv 8) (Qa 10 (pv 10)) (Yq (QaR PySem.F.plainAttrs_list PySem.F.slot_list_append PySem.F.type_list_append Ze (pv 8) (ZM (Qa 10 (pv 10))))))) QR))) QR)))
      (Qk (Qx (Xu (Qb (Qa 2 (pv 2)) (Qb (ZB Qes (by rfl) T.b_tuple (by kernel_rfl) (Qb (Qa 6 (pv 6)) Qg)) (Qb (ZB Qes (by rfl) T.b_tuple (by kernel_rfl) (Qb (Qa 8 (pv 8)) Qg)) Qg)))))))))))))
noncomputable abbrev QO:Stmt:=top 29
noncomputable def ZW:List Str:=["book","held","found","changed","rule"]
theorem QdK {P:Program} {w:World} {K:PySem.W.Frag} {mg:Str→Option Value} {base:Heap} {f:Addr} {fd:FuncData} (T:Txt mg)  (F:Fun K "_law_yields" "_law_yields" QO f fd):FnOk P w K mg base CX0 1 f fd ["book","held"] (spM K 2 QY):=by
  have sc:FnScope ZW ["book","held"] (Qe QO):=⟨rfl,rfl,rfl,by decide +kernel,rfl,by decide +kernel,by decide +kernel⟩
  have nd:=sc.nd
  refine fnM (N:=ZW) (k:=0) F sc rfl fun cdv A outer s H E hr => ?_
  exact (Qi (YO (i:=2) nd rfl (Or.inr rfl) (XV (X:=(cxOf CX0 P w K mg base ZW "_law_yields" (Qe QO) f cdv A outer s H E).nox) (N':=["k","held"]) (nt:=1) (caps:=[1]) (ts:=[0]) (ns:=([1,0]++[])) (ls:=[0]) rfl (QcN (N:=ZW) (osc:=(Qe QO)) rfl rfl (by decide +kernel)) (by decide) (Yn _) (XX (by rfl) T.b_range (Qb (QN QM (Qa 0 (pv 0)) Qf (fun _ _=>rfl)) Qg)) (fun _ _ _ _ _ _=>(Zv (Zb (i:=0) (show (["k","held"]:List Str).Nodup by decide +kernel) rfl (Or.inl rfl)))) (fun _ _ _ _ _ _=>(QdD (Qw (Yr (by exact hr.units)) (Qj QbD (Qj Qga (Qa 1 (pv 1)) (Qa 0 (pv 0))) Qf) Qf (Qs _)))) (fun _ _ _ _ _ _=>(Qa 0 (pv 0)))))
      (Qi (Qy (i:=3) nd rfl (Or.inl rfl) Xm)
      (Qi (QgG 1000 PassesOwn.never (Qu (Qa 3 (pv 3))) (Qi (Qy (i:=3) nd rfl (Or.inl rfl) Xm)
      (Qk (Qdx PassesOwn.never rfl (Qgc (QN QM (Qa 0 (pv 0)) Qf (fun _ _=>rfl))) (Zv (Zb (i:=4) nd rfl (Or.inl rfl))) (Qk (Zs (WM.tm (Qaf (Qw (Qel hr.units) (QN QM (Qa 4 (pv 4)) Qf (fun _ _=>rfl)) (Qa 2 (pv 2)) (by with_unfolding_all rfl)) (Xy (Qu (ZL (cm_all rfl) (by rfl) T.b_all (by kernel_rfl) (Qb (EO.em (XV (X:=(cxOf CX0 P w K mg base ZW "_law_yields" (Qe QO) f cdv A outer s H E).nox) (N':=["w","found"]) (nt:=1) (caps:=[2]) (ts:=[0]) (ns:=[]) (ls:=[0,1]) rfl (QcN (N:=ZW) (osc:=(Qe QO)) rfl rfl (by decide +kernel)) (by decide) (Yn _) (Qgc (QN QM (Qa 4 (pv 4)) Qf (fun _ _=>rfl))) (fun _ _ _ _ _ _=>(Zv (Zb (i:=0) (show (["w","found"]:List Str).Nodup by decide +kernel) rfl (Or.inl rfl)))) (fun _ _ _ _ _ _=>Qgd) (fun _ _ _ _ _ _=>(YB (Qgr (by exact hr.units)) (Qa 0 (pv 0)) (Qa 1 (pv 1)) (by with_unfolding_all rfl))))) Qg)))))) (Qi (XN (i:=2) (pv 2) (QN QM (Qa 4 (pv 4)) Qf (fun _ _=>rfl)) (Yq (QaR PySem.F.plainAttrs_list PySem.F.slot_list_append PySem.F.type_list_append Ze (pv 2) (ZM (QN QM (Qa 4 (pv 4)) Qf (fun _ _=>rfl))))))
      (Qk (Qy (i:=3) nd rfl (Or.inl rfl) Xm))) QR))))))
      (Qk (Qbt 2 (pv 2))))))
noncomputable abbrev Yf:Stmt:=top 30
noncomputable def Qax:List Str:=["book","held","found"]
theorem Qgs {P:Program} {w:World} {K:PySem.W.Frag} {mg:Str→Option Value} {base:Heap} {f:Addr} {fd:FuncData} (T:Txt mg) (c__law_yields:Cal P w K mg base 1 "_law_yields" 2 QY) (F:Fun K "_law_hit" "_law_hit" Yf f fd):FnOk P w K mg base CX0 2 f fd ["book","held"] (spM K 2 ZQ):=by
  have sc:FnScope Qax ["book","held"] (Qe Yf):=⟨rfl,rfl,rfl,by decide +kernel,rfl,by decide +kernel,by decide +kernel⟩
  have nd:=sc.nd
  refine fnM (N:=Qax) (k:=1) F sc rfl fun cdv A outer s H E hr => ?_
  exact (Qi (Qy (i:=2) nd rfl (Or.inr rfl) (Qz c__law_yields XC (hr.mono (by decide)) (by rfl) (Qb (Qa 0 (pv 0)) (Qb (Qa 1 (pv 1)) Qg))))
      (Qk (Qx (ZL (cm_sum rfl) (by rfl) T.b_sum (by kernel_rfl) (Qb (EO.em (XV (X:=(cxOf CX0 P w K mg base Qax "_law_hit" (Qe Yf) f cdv A outer s H E).nox) (N':=["g","book","found"]) (nt:=1) (caps:=[0,2]) (ts:=[0]) (ns:=([1,0]++[2])) (ls:=[0]) rfl (QcN (N:=Qax) (osc:=(Qe Yf)) rfl rfl (by decide +kernel)) (by decide) (Yn _) (XX (by rfl) T.b_range (Qb (ZL Qaj (by rfl) T.b_len PySem.boot_len (Qb (QN QM (Qa 0 (pv 0)) Qf (fun _ _=>rfl)) Qg)) Qg)) (fun _ _ _ _ _ _=>(Zv (Zb (i:=0) (show (["g","book","found"]:List Str).Nodup by decide +kernel) rfl (Or.inl rfl)))) (fun _ _ _ _ _ _=>(QdD (Qw (Qgr (by exact hr.units)) (QN QM (QN QM (Qa 1 (pv 1)) Qf (fun _ _=>rfl)) (Qa 0 (pv 0)) (fun _ _=>rfl)) (Qa 2 (pv 2)) (by with_unfolding_all rfl)))) (fun _ _ _ _ _ _=>(Qj QbB Qf (Qa 0 (pv 0)))))) Qg)))))
noncomputable abbrev Zo:Stmt:=Zd (top 23) 0
noncomputable def Qar:List Str:=["self","book","held"]
theorem QcD {P:Program} {w:World} {K:PySem.W.Frag} {mg:Str→Option Value} {base:Heap} {f:Addr} {fd:FuncData} (T:Txt mg) {C:Addr} (W:TFld K C)  (F:Fun K "__init__" "Talk.__init__" Zo f fd):FnOk P w K mg base CX0 1 f fd ["self","book","held"] (spX K (ObjG K C "moves") 3 (QH C)):=by
  have sc:FnScope Qar ["self","book","held"] (Qe Zo):=⟨rfl,rfl,rfl,by decide +kernel,rfl,by decide +kernel,by decide +kernel⟩
  have nd:=sc.nd
  refine fnX (N:=Qar) (k:=0) F sc rfl fun cdv A outer s H E hr => ?_
  exact (Zc (Qgj (pv 0) W.fl_book (Qa 1 (pv 1)))
      (Zc (Qgj (pv 0) W.fl_held (Qa 2 (pv 2)))
      (Zc (Qgj (pv 0) W.fl_unanswered Yl)
      (QeJ (xm_fn (pv 0) W.fl_moves (Zf Qg))))))
noncomputable abbrev ZU:Stmt:=top 35
noncomputable def Qbo:List Str:=["held","against"]
theorem QdM {P:Program} {w:World} {K:PySem.W.Frag} {mg:Str→Option Value} {base:Heap} {f:Addr} {fd:FuncData} (T:Txt mg)  (F:Fun K "_law_ground" "_law_ground" ZU f fd):FnOk P w K mg base CX0 1 f fd ["held","against"] (spM K 2 QP):=by
  have sc:FnScope Qbo ["held","against"] (Qe ZU):=⟨rfl,rfl,rfl,by decide +kernel,rfl,by decide +kernel,by decide +kernel⟩
  have nd:=sc.nd
  refine fnM (N:=Qbo) (k:=0) F sc rfl fun cdv A outer s H E hr => ?_
  exact (Qi (Zs (Qw Qex (Qa 1 (pv 1)) Yl (Qs _)) (Qk (Qbt 0 (pv 0))) QR)
      (Qk (Qx (QN QM (Qa 1 (pv 1)) Qf (fun _ _=>rfl)))))
noncomputable abbrev ZN:Stmt:=top 39
noncomputable def Qae:List Str:=["cell","ground","guesses","spots","far"]
theorem QeF {P:Program} {w:World} {K:PySem.W.Frag} {mg:Str→Option Value} {base:Heap} {f:Addr} {fd:FuncData} (T:Txt mg)  (F:Fun K "_law_named" "_law_named" ZN f fd):FnOk P w K mg base CX0 1 f fd ["cell","ground","guesses"] (spM K 3 Zq):=by
  have sc:FnScope Qae ["cell","ground","guesses"] (Qe ZN):=⟨rfl,rfl,rfl,by decide +kernel,rfl,by decide +kernel,by decide +kernel⟩
  have nd:=sc.nd
  refine fnM (N:=Qae) (k:=0) F sc rfl fun cdv A outer s H E hr => ?_
  exact (Qi (QdO (i:=3) nd rfl rfl (N':=["k","ground"]) (nt:=1) (caps:=[1]) (ts:=[0]) (ns:=([1,0]++[])) (ls:=[0]) rfl (QcN (N:=Qae) (osc:=(Qe ZN)) rfl rfl (by decide +kernel)) (by decide) (Yn _) (XX (by rfl) T.b_range (Qb (Qa 2 (pv 2)) Qg)) (fun _ _ _ _ _ _=>(Zv (Zb (i:=0) (show (["k","ground"]:List Str).Nodup by decide +kernel) rfl (Or.inl rfl)))) (fun _ _ _ _ _ _=>(QdD (Qw (Yr (by exact hr.units)) (Qj QbD (Qj Qga (Qa 1 (pv 1)) (Qa 0 (pv 0))) Qf) Qf (Qs _)))) (fun _ _ _ _ _ _=>(Qa 0 (pv 0))))
      (Qi (Zs (WM.tm (Qaf (Qw (QcI hr.units) (Qa 3 (pv 3)) (EO.em (Zf Qg)) (Qs _)) (Xy (Qw om_gt (Qj QF (Qa 0 (pv 0)) Qf) Qf (Qs _))))) (Qk (Qx (QN QM (Qa 3 (pv 3)) (Qj QF (Qj ZR (Qa 0 (pv 0)) Qf) (ZL Qaj (by rfl) T.b_len PySem.boot_len (Qb (Qa 3 (pv 3)) Qg))) (fun _ _=>rfl)))) QR)
      (Qi (Qy (i:=4) nd rfl (Or.inl rfl) (QN QM (EO.em (Zf (Qb (Qj QF (Qj ZR (Qa 0 (pv 0)) Qf) (Qj om_pow Qf Qf)) (Qb (Qj Qch (em_neg Qf) (Qj QF (Qj ZR (Qa 0 (pv 0)) Qf) (Qj om_pow Qf Qf))) Qg)))) (Qj QF (Qj ZR (Qa 0 (pv 0)) Qf) Qf) (fun _ _=>rfl)))
      (Qi (Zs (Qw (Yr hr.units) (Qj QF (Qj ZR (Qa 0 (pv 0)) Qf) Qf) Qf (Qs _)) (Qk (Qbt 4 (pv 4))) QR)
      (Qk (Qx (Qj Qch (Qj QF (Qj ZR (Qa 0 (pv 0)) Qf) (Qj Yd (Qa 2 (pv 2)) Qf)) Qf)))))))
noncomputable abbrev Yy:Stmt:=Zd (top 23) 1
noncomputable def Qdl:List Str:=["self"]
theorem QfD {P:Program} {w:World} {K:PySem.W.Frag} {mg:Str→Option Value} {base:Heap} {f:Addr} {fd:FuncData} (T:Txt mg) {C:Addr} (W:TFld K C)  (F:Fun K "turn" "Talk.turn" Yy f fd):FnOk P w K mg base CX0 1 f fd ["self"] (spM K 1 (QJ C)):=by
  have sc:FnScope Qdl ["self"] (Qe Yy):=⟨rfl,rfl,rfl,by decide +kernel,rfl,by decide +kernel,by decide +kernel⟩
  have nd:=sc.nd
  refine fnM (N:=Qdl) (k:=0) F sc rfl fun cdv A outer s H E hr => ?_
  exact (Qk (Qx (em_if (Qw Qex (QcM (Qa 0 (pv 0)) W.fl_unanswered) Yl (Qs _)) Qai Qai)))
noncomputable abbrev Xh:Stmt:=top 11
noncomputable def Qcw:List Str:=["mask"]
theorem QiR {P:Program} {w:World} {K:PySem.W.Frag} {mg:Str→Option Value} {base:Heap} {f:Addr} {fd:FuncData} (T:Txt mg)  (F:Fun K "places" "places" Xh f fd):FnOk P w K mg base CX0 1 f fd ["mask"] (spM K 1 XB):=by
  have sc:FnScope Qcw ["mask"] (Qe Xh):=⟨rfl,rfl,rfl,by decide +kernel,rfl,by decide +kernel,by decide +kernel⟩
  have nd:=sc.nd
  refine fnM (N:=Qcw) (k:=0) F sc rfl fun cdv A outer s H E hr => ?_
  exact (Qk (Qii (XV (X:=(cxOf CX0 P w K mg base Qcw "places" (Qe Xh) f cdv A outer s H E).nox) (N':=["k","mask"]) (nt:=1) (caps:=[0]) (ts:=[0]) (ns:=[1,0]) (ls:=[0]) rfl (QcN (N:=Qcw) (osc:=(Qe Xh)) rfl rfl (by decide +kernel)) (by decide) (Yn _) (XX (by rfl) T.b_range (Qb (em_bits (Qa 0 (pv 0))) Qg)) (fun _ _ _ _ _ _=>(Zv (Zb (i:=0) (show (["k","mask"]:List Str).Nodup by decide +kernel) rfl (Or.inl rfl)))) (fun _ _ _ _ _ _=>(QdD (Qu (Qj QbD (Qj Qga (Qa 1 (pv 1)) (Qa 0 (pv 0))) Qf)))) (fun _ _ _ _ _ _=>(Qa 0 (pv 0))))))
noncomputable abbrev Yz:Stmt:=Zd (top 23) 6
noncomputable def Qdm:List Str:=["self"]
theorem QfF {P:Program} {w:World} {K:PySem.W.Frag} {mg:Str→Option Value} {base:Heap} {f:Addr} {fd:FuncData} (T:Txt mg) {C:Addr} (W:TFld K C)  (F:Fun K "aims" "Talk.aims" Yz f fd):FnOk P w K mg base CX0 1 f fd ["self"] (spM K 1 (Zt C)):=by
  have sc:FnScope Qdm ["self"] (Qe Yz):=⟨rfl,rfl,rfl,by decide +kernel,rfl,by decide +kernel,by decide +kernel⟩
  have nd:=sc.nd
  refine fnM (N:=Qdm) (k:=0) F sc rfl fun cdv A outer s H E hr => ?_
  exact (Qk (Qx (em_if (Qw Qex (QcM (Qa 0 (pv 0)) W.fl_unanswered) Yl (Qs _)) (QcM (Qa 0 (pv 0)) W.fl_held) (QN QM (QcM (Qa 0 (pv 0)) W.fl_unanswered) Qf (fun _ _=>rfl)))))
noncomputable abbrev Xp:Stmt:=top 12
noncomputable def Qfq:List Str:=["row","mask","k"]
theorem Qhv {P:Program} {w:World} {K:PySem.W.Frag} {mg:Str→Option Value} {base:Heap} {f:Addr} {fd:FuncData} (T:Txt mg)  (F:Fun K "mask_of" "mask_of" Xp f fd):FnOk P w K mg base CX0 1 f fd ["row"] (spM K 1 Zk):=by
  have sc:FnScope Qfq ["row"] (Qe Xp):=⟨rfl,rfl,rfl,by decide +kernel,rfl,by decide +kernel,by decide +kernel⟩
  have nd:=sc.nd
  refine fnM (N:=Qfq) (k:=0) F sc rfl fun cdv A outer s H E hr => ?_
  exact (Qi (Qy (i:=1) nd rfl (Or.inl rfl) Qf)
      (Qi (Qdx PassesOwn.never rfl (im_seq (Qa 0 (pv 0))) (Zv (Zb (i:=2) nd rfl (Or.inl rfl))) (Qk (sm_aug (i:=1) nd rfl (Or.inl rfl) (Qj QbB Qf (Qa 2 (pv 2))) om_ior)))
      (Qk (Qbt 1 (pv 1)))))
noncomputable abbrev Zg:Stmt:=top 16
noncomputable def YW:List Str:=["book","held","steps"]
theorem QdI {P:Program} {w:World} {K:PySem.W.Frag} {mg:Str→Option Value} {base:Heap} {f:Addr} {fd:FuncData} (T:Txt mg) (c_mask_of:Cal P w K mg base 1 "mask_of" 1 Zk) (F:Fun K "known_after" "known_after" Zg f fd):FnOk P w K mg base CX0 2 f fd ["book","held","steps"] (spM K 3 Zx):=by
  have sc:FnScope YW ["book","held","steps"] (Qe Zg):=⟨rfl,rfl,rfl,by decide +kernel,rfl,by decide +kernel,by decide +kernel⟩
  have nd:=sc.nd
  refine fnM (N:=YW) (k:=1) F sc rfl fun cdv A outer s H E hr => ?_
  exact (Qk (Qx (Qj om_or (Qa 1 (pv 1)) (Qz c_mask_of XJ (hr.mono (by decide)) (by rfl) (Qb (EO.em (XV (X:=(cxOf CX0 P w K mg base YW "known_after" (Qe Zg) f cdv A outer s H E).nox) (N':=["step","book"]) (nt:=1) (caps:=[0]) (ts:=[0]) (ns:=[]) (ls:=[1,0]) rfl (QcN (N:=YW) (osc:=(Qe Zg)) rfl rfl (by decide +kernel)) (by decide) (Yn _) (Qck (Qa 2 (pv 2))) (fun _ _ _ _ _ _=>(Zv (Zb (i:=0) (show (["step","book"]:List Str).Nodup by decide +kernel) rfl (Or.inl rfl)))) (fun _ _ _ _ _ _=>Qgd) (fun _ _ _ _ _ _=>(QN QM (QN QM (QN QM (Qa 1 (pv 1)) Qf (fun _ _=>rfl)) (Qa 0 (pv 0)) (fun _ _=>rfl)) Qf (fun _ _=>rfl))))) Qg)))))
noncomputable abbrev Qac:Stmt:=top 13
noncomputable def Qhl:List Str:=["mask","other"]
theorem QiS {P:Program} {w:World} {K:PySem.W.Frag} {mg:Str→Option Value} {base:Heap} {f:Addr} {fd:FuncData} (T:Txt mg)  (F:Fun K "inside" "inside" Qac f fd):FnOk P w K mg base CX0 1 f fd ["mask","other"] (spM K 2 Ys):=by
  have sc:FnScope Qhl ["mask","other"] (Qe Qac):=⟨rfl,rfl,rfl,by decide +kernel,rfl,by decide +kernel,by decide +kernel⟩
  have nd:=sc.nd
  refine fnM (N:=Qhl) (k:=0) F sc rfl fun cdv A outer s H E hr => ?_
  exact (Qk (Qx (YB (Yr hr.units) (Qj QbD (Qa 0 (pv 0)) (Qa 1 (pv 1))) (Qa 0 (pv 0)) (Qs _))))
noncomputable abbrev QT:Stmt:=top 15
noncomputable def YN:List Str:=["book","held","rules","bodies","known","steps","grown","number","rule","head"]
theorem QbN {P:Program} {w:World} {K:PySem.W.Frag} {mg:Str→Option Value} {base:Heap} {f:Addr} {fd:FuncData} (T:Txt mg) (c_mask_of:Cal P w K mg base 1 "mask_of" 1 Zk) (c_inside:Cal P w K mg base 1 "inside" 2 Ys) (F:Fun K "bringing_steps" "bringing_steps" QT f fd):FnOk P w K mg base CX0 2 f fd ["book","held"] (spM K 2 QU):=by
  have sc:FnScope YN ["book","held"] (Qe QT):=⟨rfl,rfl,rfl,by decide +kernel,rfl,by decide +kernel,by decide +kernel⟩
  have nd:=sc.nd
  refine fnM (N:=YN) (k:=1) F sc rfl fun cdv A outer s H E hr => ?_
  exact (Qi (Qy (i:=2) nd rfl (Or.inl rfl) (QN QM (Qa 0 (pv 0)) Qf (fun _ _=>rfl)))
      (Qi (QdO (i:=3) nd rfl rfl (N':=["rule"]) (nt:=1) (caps:=[]) (ts:=[0]) (ns:=[]) (ls:=[0]) rfl (QcN (N:=YN) (osc:=(Qe QT)) rfl rfl (by decide +kernel)) (by decide) (Yn _) (Qgc (Qa 2 (pv 2))) (fun _ _ _ _ _ _=>(Zv (Zb (i:=0) (show (["rule"]:List Str).Nodup by decide +kernel) rfl (Or.inl rfl)))) (fun _ _ _ _ _ _=>Qgd) (fun _ _ _ _ _ _=>(Qz c_mask_of XJ (hr.mono (by decide)) (by rfl) (Qb (QN QM (Qa 0 (pv 0)) Qf (fun _ _=>rfl)) Qg))))
      (Qi (Qy (i:=4) nd rfl (Or.inl rfl) (Qa 1 (pv 1)))
      (Qi (YO (i:=5) nd rfl (Or.inl rfl) (Zf Qg))
      (Qi (Qy (i:=6) nd rfl (Or.inl rfl) Xm)
      (Qi (QgG 1000 PassesOwn.never (Qu (Qa 6 (pv 6))) (Qi (Qy (i:=6) nd rfl (Or.inl rfl) Xm)
      (Qk (Qdx PassesOwn.never rfl (QgQ rfl (by rfl) T.b_enumerate (Qb (Qa 2 (pv 2)) Qg)) (Qiy (pg_tup rfl (Qcp (Zb (i:=7) nd rfl (Or.inl rfl)) (Qcp (Zb (i:=8) nd rfl (Or.inl rfl)) Qim)))) (Qi (Qy (i:=9) nd rfl (Or.inl rfl) (Qj QbB Qf (QN QM (Qa 8 (pv 8)) Qf (fun _ _=>rfl))))
      (Qk (Zs (WM.tm (Qaf (Yb (Qu (Qz c_inside Qad (hr.mono (by decide)) (by rfl) (Qb (Qa 9 (pv 9)) (Qb (Qa 4 (pv 4)) Qg))))) (Xy (Qu (Qz c_inside Qad (hr.mono (by decide)) (by rfl) (Qb (QN QM (Qa 3 (pv 3)) (Qa 7 (pv 7)) (fun _ _=>rfl)) (Qb (Qa 4 (pv 4)) Qg))))))) (Qi (sm_aug (i:=4) nd rfl (Or.inl rfl) (Qa 9 (pv 9)) om_ior)
      (Qi (XN (i:=5) (pv 5) (Qa 7 (pv 7)) (Yq (QaR PySem.F.plainAttrs_list PySem.F.slot_list_append PySem.F.type_list_append Ze (pv 5) (ZM (Qa 7 (pv 7))))))
      (Qk (Qy (i:=6) nd rfl (Or.inl rfl) Xm)))) QR)))))))
      (Qk (Qbt 5 (pv 5)))))))))
noncomputable abbrev Xo:Stmt:=top 17
noncomputable def Qfp:List Str:=["book","held"]
theorem Qhu {P:Program} {w:World} {K:PySem.W.Frag} {mg:Str→Option Value} {base:Heap} {f:Addr} {fd:FuncData} (T:Txt mg) (c_known_after:Cal P w K mg base 2 "known_after" 3 Zx) (c_bringing_steps:Cal P w K mg base 2 "bringing_steps" 2 QU) (F:Fun K "yielded" "yielded" Xo f fd):FnOk P w K mg base CX0 3 f fd ["book","held"] (spM K 2 YZ):=by
  have sc:FnScope Qfp ["book","held"] (Qe Xo):=⟨rfl,rfl,rfl,by decide +kernel,rfl,by decide +kernel,by decide +kernel⟩
  have nd:=sc.nd
  refine fnM (N:=Qfp) (k:=2) F sc rfl fun cdv A outer s H E hr => ?_
  exact (Qk (Qx (Qz c_known_after QbJ (hr.mono (by decide)) (by rfl) (Qb (Qa 0 (pv 0)) (Qb (Qa 1 (pv 1)) (Qb (Qz c_bringing_steps Qaz (hr.mono (by decide)) (by rfl) (Qb (Qa 0 (pv 0)) (Qb (Qa 1 (pv 1)) Qg))) Qg))))))
noncomputable abbrev Xg:Stmt:=top 21
noncomputable def Qcv:List Str:=["book","held","known"]
theorem QiQ {P:Program} {w:World} {K:PySem.W.Frag} {mg:Str→Option Value} {base:Heap} {f:Addr} {fd:FuncData} (T:Txt mg) (c_mask_of:Cal P w K mg base 1 "mask_of" 1 Zk) (c_inside:Cal P w K mg base 1 "inside" 2 Ys) (c_yielded:Cal P w K mg base 3 "yielded" 2 YZ) (F:Fun K "struck" "struck" Xg f fd):FnOk P w K mg base CX0 4 f fd ["book","held"] (spM K 2 YL):=by
  have sc:FnScope Qcv ["book","held"] (Qe Xg):=⟨rfl,rfl,rfl,by decide +kernel,rfl,by decide +kernel,by decide +kernel⟩
  have nd:=sc.nd
  refine fnM (N:=Qcv) (k:=3) F sc rfl fun cdv A outer s H E hr => ?_
  exact (Qi (Qy (i:=2) nd rfl (Or.inr rfl) (Qz c_yielded QeB (hr.mono (by decide)) (by rfl) (Qb (Qa 0 (pv 0)) (Qb (Qa 1 (pv 1)) Qg))))
      (Qk (Qx (Qz c_mask_of XJ (hr.mono (by decide)) (by rfl) (Qb (EO.em (XV (X:=(cxOf CX0 P w K mg base Qcv "struck" (Qe Xg) f cdv A outer s H E).nox) (N':=["guess","bane","known"]) (nt:=2) (caps:=[2]) (ts:=[0,1]) (ns:=[1,2]) (ls:=[0]) rfl (QcN (N:=Qcv) (osc:=(Qe Xg)) rfl rfl (by decide +kernel)) (by decide) (Qhw _ _) (QgQ rfl (by rfl) T.b_enumerate (Qb (QN QM (Qa 0 (pv 0)) Qf (fun _ _=>rfl)) Qg)) (fun _ _ _ _ _ _=>(Qiy (pg_tup rfl (Qcp (Zb (i:=0) (show (["guess","bane","known"]:List Str).Nodup by decide +kernel) rfl (Or.inl rfl)) (Qcp (Zb (i:=1) (show (["guess","bane","known"]:List Str).Nodup by decide +kernel) rfl (Or.inl rfl)) Qim))))) (fun _ _ _ _ _ _=>(QdD (Qu (Qz c_inside Qad (hr.mono (by decide)) (by rfl) (Qb (Qj QbB Qf (Qa 1 (pv 1))) (Qb (Qa 2 (pv 2)) Qg)))))) (fun _ _ _ _ _ _=>(Qa 0 (pv 0))))) Qg)))))
noncomputable abbrev Zn:Stmt:=Zd (top 23) 7
noncomputable def Qaq:List Str:=["self","guess","striker"]
theorem QcC {P:Program} {w:World} {K:PySem.W.Frag} {mg:Str→Option Value} {base:Heap} {f:Addr} {fd:FuncData} (T:Txt mg) {C:Addr} (W:TFld K C) (c_places:Cal P w K mg base 1 "places" 1 XB) (c_Talk_aims:YV P w K mg base 1 C "aims" 1 (Zt C)) (c_struck:Cal P w K mg base 4 "struck" 2 YL) (F:Fun K "can_name" "Talk.can_name" Zn f fd):FnOk P w K mg base CX0 5 f fd ["self","guess","striker"] (spM K 3 (QG C)):=by
  have sc:FnScope Qaq ["self","guess","striker"] (Qe Zn):=⟨rfl,rfl,rfl,by decide +kernel,rfl,by decide +kernel,by decide +kernel⟩
  have nd:=sc.nd
  refine fnM (N:=Qaq) (k:=4) F sc rfl fun cdv A outer s H E hr => ?_
  exact (Qk (Qx (YB (Qgr hr.units) (Qa 1 (pv 1)) (Qz c_places Qfz (hr.mono (by decide)) (by rfl) (Qb (Qj QbD (YG (Qa 0 (pv 0)) c_Talk_aims (Qan C) (hr.mono (by decide))) (Qz c_struck QbQ (hr.mono (by decide)) (by rfl) (Qb (QcM (Qa 0 (pv 0)) W.fl_book) (Qb (Qa 2 (pv 2)) Qg)))) Qg)) (by with_unfolding_all rfl))))
noncomputable abbrev ZI:Stmt:=Zd (top 23) 8
noncomputable def QaL:List Str:=["self","guess","striker"]
theorem Qdt {P:Program} {w:World} {K:PySem.W.Frag} {mg:Str→Option Value} {base:Heap} {f:Addr} {fd:FuncData} (T:Txt mg) {C:Addr} (W:TFld K C) {CA:Nat→Addr} (V:WExc K mg CA) (c_Talk_turn:YV P w K mg base 1 C "turn" 1 (QJ C)) (c_Talk_can_name:YV P w K mg base 5 C "can_name" 3 (QG C)) (F:Fun K "doubted" "Talk.doubted" ZI f fd):FnOk P w K mg base (CX1 P w) 6 f fd ["self","guess","striker"] (spXE K (ObjG K C "moves") CA 3 (QB C)):=by
  have sc:FnScope QaL ["self","guess","striker"] (Qe ZI):=⟨rfl,rfl,rfl,by decide +kernel,rfl,by decide +kernel,by decide +kernel⟩
  have nd:=sc.nd
  refine fnXE (N:=QaL) (k:=5) F sc rfl fun cdv A outer s H E hr => ?_
  exact (Qeb (QfW (Xq _ _ _) (Qw (QcI hr.units) (YG (Qa 0 (pv 0)) c_Talk_turn (Yp C) (hr.mono (by decide))) Qai (Qs _)) (QfV (Qcn (Qr _ _ _) (k:=2) QaX hr.hd (by rfl) V.mg_NotTurn V.new_NotTurn (Xa Qg))) (Qab QeK))
      (Qeb (QfW (Xq _ _ _) (Yb (Qu (em_mtd (Qa 0 (pv 0)) c_Talk_can_name (Xd C) (hr.mono (by decide)) (Qb (Qa 1 (pv 1)) (Qb (Qa 2 (pv 2)) Qg))))) (QfV (Qcn (Qr _ _ _) (k:=3) QaX hr.hd (by rfl) V.mg_NoDoubt V.new_NoDoubt (Xa Qg))) (Qab QeK))
      (Qab (Zc (Qgj (pv 0) W.fl_unanswered (Xu (Qb (Qa 1 (pv 1)) (Qb (Qa 2 (pv 2)) Qg))))
      (QeJ (xm_fa (pv 0) W.fl_moves (Yq (QaR PySem.F.plainAttrs_list PySem.F.slot_list_append PySem.F.type_list_append Ze (QfZ (pv 0) rfl) (ZM (Xu (Qb Qai (Qb (Qa 1 (pv 1)) (Qb (Qa 2 (pv 2)) Qg)))))))))))))
noncomputable abbrev ZH:Stmt:=Zd (top 23) 9
noncomputable def QaK:List Str:=["self","guess","striker"]
theorem Qds {P:Program} {w:World} {K:PySem.W.Frag} {mg:Str→Option Value} {base:Heap} {f:Addr} {fd:FuncData} (T:Txt mg) {C:Addr} (W:TFld K C) {CA:Nat→Addr} (V:WExc K mg CA) (c_Talk_turn:YV P w K mg base 1 C "turn" 1 (QJ C)) (c_Talk_can_name:YV P w K mg base 5 C "can_name" 3 (QG C)) (F:Fun K "replied" "Talk.replied" ZH f fd):FnOk P w K mg base (CX1 P w) 6 f fd ["self","guess","striker"] (spXE K (ObjG K C "moves") CA 3 (QA C)):=by
  have sc:FnScope QaK ["self","guess","striker"] (Qe ZH):=⟨rfl,rfl,rfl,by decide +kernel,rfl,by decide +kernel,by decide +kernel⟩
  have nd:=sc.nd
  refine fnXE (N:=QaK) (k:=5) F sc rfl fun cdv A outer s H E hr => ?_
  exact (Qeb (QfW (Xq _ _ _) (Qw (QcI hr.units) (YG (Qa 0 (pv 0)) c_Talk_turn (Yp C) (hr.mono (by decide))) Qai (Qs _)) (QfV (Qcn (Qr _ _ _) (k:=2) QaX hr.hd (by rfl) V.mg_NotTurn V.new_NotTurn (Xa Qg))) (Qab QeK))
      (Qeb (QfW (Xq _ _ _) (Yb (Qu (em_mtd (Qa 0 (pv 0)) c_Talk_can_name (Xd C) (hr.mono (by decide)) (Qb (Qa 1 (pv 1)) (Qb (Qa 2 (pv 2)) Qg))))) (QfV (Qcn (Qr _ _ _) (k:=4) QaX hr.hd (by rfl) V.mg_NoReply V.new_NoReply (Xa Qg))) (Qab QeK))
      (Qab (Zc (Qgj (pv 0) W.fl_held (Qa 2 (pv 2)))
      (Zc (Qgj (pv 0) W.fl_unanswered Yl)
      (QeJ (xm_fa (pv 0) W.fl_moves (Yq (QaR PySem.F.plainAttrs_list PySem.F.slot_list_append PySem.F.type_list_append Ze (QfZ (pv 0) rfl) (ZM (Xu (Qb Qai (Qb (Qa 1 (pv 1)) (Qb (Qa 2 (pv 2)) Qg))))))))))))))
noncomputable abbrev Yk:Stmt:=top 31
noncomputable def Qcb:List Str:=["talk","doubting","guess","striker","told","seen","odd","e"]
theorem QeE {P:Program} {w:World} {K:PySem.W.Frag} {mg:Str→Option Value} {base:Heap} {f:Addr} {fd:FuncData} (T:Txt mg) {C:Addr} (W:TFld K C) {CA:Nat→Addr} (V:WExc K mg CA) (c_Talk_doubted:QhQ P w K mg base 6 C "moves" "doubted" 3 CA (QB C)) (c_Talk_replied:QhQ P w K mg base 6 C "moves" "replied" 3 CA (QA C)) (F:Fun K "_law_tried" "_law_tried" Yk f fd):FnOk P w K mg base CX0 7 f fd ["talk","doubting","guess","striker"] (spXV K (ObjG K C "moves") 4 (ZP C)):=by
  have sc:FnScope Qcb ["talk","doubting","guess","striker"] (Qe Yk):=⟨rfl,rfl,rfl,by decide +kernel,rfl,by decide +kernel,by decide +kernel⟩
  have nd:=sc.nd
  refine fnXV (N:=Qcb) (k:=6) F sc rfl fun cdv A outer s H E hr => ?_
  exact (Qea (Ya (Qr _ _ _) (Qy (i:=4) nd rfl (Or.inl rfl) Yl))
      (Qea (Ya (Qr _ _ _) (YO (i:=5) nd rfl (Or.inl rfl) (Zf Qg)))
      (Qea (Ya (Qr _ _ _) (YO (i:=6) nd rfl (Or.inl rfl) (Zf Qg)))
      (Qea (xm_try (Qr _ _ _) (i:=7) (ks:=[2,3,4]) rfl rfl (fun xe=>(QhR (xe_if (Qu (Qa 1 (pv 1))) (QhR (xe_mt (i:=4) nd rfl (Or.inl rfl) (pv 0) c_Talk_doubted (Qbz C) (hr.mono (by decide)) (Qb (Qa 2 (pv 2)) (Qb (Qa 3 (pv 3)) Qg)))) (QhR (xe_mt (i:=4) nd rfl (Or.inl rfl) (pv 0) c_Talk_replied (Qby C) (hr.mono (by decide)) (Qb (Qa 2 (pv 2)) (Qb (Qa 3 (pv 3)) Qg)))))))
      (fun k a oe hc hk=>(Qi (YO (i:=5) nd rfl (Or.inl rfl) (Zf (Qb (QbE (x := "NotTurn") hc (V.is_NotTurn k hk) (pv 7) (by rfl) T.b_isinstance (by rfl) V.mg_NotTurn) (Qb (QbE (x := "NoDoubt") hc (V.is_NoDoubt k hk) (pv 7) (by rfl) T.b_isinstance (by rfl) V.mg_NoDoubt) (Qb (QbE (x := "NoReply") hc (V.is_NoReply k hk) (pv 7) (by rfl) T.b_isinstance (by rfl) V.mg_NoReply) (Qb (em_isEB (x := "ValueError") hc (V.is_ValueError k hk) (pv 7) (by rfl) T.b_isinstance (by rfl) T.b_ValueError (by kernel_rfl)) Qg))))))
      (Qi (YO (i:=6) nd rfl (Or.inl rfl) (Zf (Qb (QbE (x := "NoAsk") hc (V.is_NoAsk k hk) (pv 7) (by rfl) T.b_isinstance (by rfl) V.mg_NoAsk) (Qb (QbE (x := "NoWord") hc (V.is_NoWord k hk) (pv 7) (by rfl) T.b_isinstance (by rfl) V.mg_NoWord) (Qb (QbE (x := "NotGuess") hc (V.is_NotGuess k hk) (pv 7) (by rfl) T.b_isinstance (by rfl) V.mg_NotGuess) (Qb (QbE (x := "NotTold") hc (V.is_NotTold k hk) (pv 7) (by rfl) T.b_isinstance (by rfl) V.mg_NotTold) Qg))))))
      (Qk (YO (i:=6) nd rfl (Or.inl rfl) (eo_op oo_cat (Qa 6 (pv 6)) (EO.em (Zf (Qb (QbE (x := "RowError") hc (V.is_RowError k hk) (pv 7) (by rfl) T.b_isinstance (by rfl) V.mg_RowError) Qg)))))))))
      V.mro_HallError (by rfl) V.mg_HallError V.cat_HallError nd rfl rfl)
      (xv_post (Qr _ _ _) (Qi (Zs (Qw (Yr hr.units) (Qa 5 (pv 5)) (EO.em (Zf Qg)) (Qs _)) (Qk (Qx (QN QM (EO.em (Zf (QX (QX Qg)))) (ZB QaQ (by rfl) T.b_int (by kernel_rfl) (Qb (YB Qem (Qa 4 (pv 4)) Yl (Qs _)) Qg)) (fun _ _=>rfl)))) QR)
      (Qi (Zs (WM.tm (Qbq (Qw (Qgr hr.units) Xm (Qa 6 (pv 6)) (by with_unfolding_all rfl)) (QaM (Yb (Qu (QN QM (Qa 5 (pv 5)) Qf (fun _ _=>rfl))))))) (Qk (Qx Qf)) QR)
      (Qk (Qx (Qj Yd (Qj Yd (Qj Yd Qf (ZB QaQ (by rfl) T.b_int (by kernel_rfl) (Qb (QN QM (Qa 5 (pv 5)) Qf (fun _ _=>rfl)) Qg))) (Qj QbC Qf (ZB QaQ (by rfl) T.b_int (by kernel_rfl) (Qb (QN QM (Qa 5 (pv 5)) Qf (fun _ _=>rfl)) Qg)))) (Qj QbC Qf (ZB QaQ (by rfl) T.b_int (by kernel_rfl) (Qb (QN QM (Qa 5 (pv 5)) Qf (fun _ _=>rfl)) Qg)))))))))))))
noncomputable abbrev ZK:Stmt:=Zd (top 23) 5
noncomputable def XI:List Str:=["self"]
theorem QfE {P:Program} {w:World} {K:PySem.W.Frag} {mg:Str→Option Value} {base:Heap} {f:Addr} {fd:FuncData} (T:Txt mg) {C:Addr} (W:TFld K C)  (F:Fun K "said" "Talk.said" ZK f fd):FnOk P w K mg base CX0 1 f fd ["self"] (spM K 1 (Zi C)):=by
  have sc:FnScope XI ["self"] (Qe ZK):=⟨rfl,rfl,rfl,by decide +kernel,rfl,by decide +kernel,by decide +kernel⟩
  have nd:=sc.nd
  refine fnM (N:=XI) (k:=0) F sc rfl fun cdv A outer s H E hr => ?_
  exact (Qk (Qii (QcU QfS (by rfl) T.b_list (by kernel_rfl) (Qb (QcM (Qa 0 (pv 0)) W.fl_moves) Qg))))
theorem QfI {P:Program} {w:World} {K:PySem.W.Frag} {mg:Str→Option Value} {base:Heap} {f:Addr} {fd:FuncData} (T:Txt mg) {C:Addr} (W:TFld K C) (F:Fun K "said" "Talk.said" ZK f fd):FnOk P w K mg base CX0 1 f fd ["self"] (spCp K C "moves"):=by
  have sc:FnScope XI ["self"] (Qe ZK):=⟨rfl,rfl,rfl,by decide +kernel,rfl,by decide +kernel,by decide +kernel⟩
  exact fnCp (N:=XI) (k:=0) W.fl_moves.1 W.fl_moves.2 F sc rfl fun cdv A outer s H E hr=>Qee (QfY (QcQ QbY (by rfl) T.b_list (by kernel_rfl) (YF (QfZ (pv 0) rfl) QbA)))
noncomputable abbrev Yi:Stmt:=top 33
noncomputable def QbZ:List Str:=["found"]
theorem QeC {P:Program} {w:World} {K:PySem.W.Frag} {mg:Str→Option Value} {base:Heap} {f:Addr} {fd:FuncData} (T:Txt mg)  (F:Fun K "_law_whole" "_law_whole" Yi f fd):FnOk P w K mg base CX0 1 f fd ["found"] (spM K 1 QE):=by
  have sc:FnScope QbZ ["found"] (Qe Yi):=⟨rfl,rfl,rfl,by decide +kernel,rfl,by decide +kernel,by decide +kernel⟩
  have nd:=sc.nd
  refine fnM (N:=QbZ) (k:=0) F sc rfl fun cdv A outer s H E hr => ?_
  exact (Qk (Qx (QdE (YC (x := "int") isi_int (Qa 0 (pv 0)) (by rfl) T.b_isinstance (by rfl) T.b_int (by kernel_rfl)) (QeS (em_not (YC (x := "bool") isi_bl (Qa 0 (pv 0)) (by rfl) T.b_isinstance (by rfl) T.b_bool (by kernel_rfl)))))))
noncomputable abbrev Yx:Stmt:=top 34
noncomputable def Qdk:List Str:=["told","moves","move"]
theorem QfC {P:Program} {w:World} {K:PySem.W.Frag} {mg:Str→Option Value} {base:Heap} {f:Addr} {fd:FuncData} (T:Txt mg) (c__law_whole:Cal P w K mg base 1 "_law_whole" 1 QE) (F:Fun K "_law_said" "_law_said" Yx f fd):FnOk P w K mg base CX0 2 f fd ["told","moves"] (spM K 2 Zh):=by
  have sc:FnScope Qdk ["told","moves"] (Qe Yx):=⟨rfl,rfl,rfl,by decide +kernel,rfl,by decide +kernel,by decide +kernel⟩
  have nd:=sc.nd
  refine fnM (N:=Qdk) (k:=1) F sc rfl fun cdv A outer s H E hr => ?_
  exact (Qi (Zs (WM.tm (Qbq (Yb (Qu (YC (x := "list") isi_lst (Qa 0 (pv 0)) (by rfl) T.b_isinstance (by rfl) T.b_list (by kernel_rfl)))) (QaM (Qw (QcI hr.units) (ZL Qaj (by rfl) T.b_len PySem.boot_len (Qb (Qa 0 (pv 0)) Qg)) (ZL Qaj (by rfl) T.b_len PySem.boot_len (Qb (Qa 1 (pv 1)) Qg)) (Qs _))))) (Qk (Qx Xm)) QR)
      (Qi (Qdx PassesOwn.never rfl (Qck (Qa 0 (pv 0))) (Zv (Zb (i:=2) nd rfl (Or.inl rfl))) (Qi (Zs (WM.tm (Qbq (Yb (Qu (YC (x := "tuple") Qit (Qa 2 (pv 2)) (by rfl) T.b_isinstance (by rfl) T.b_tuple (by kernel_rfl)))) (Qbq (Qw (QcI hr.units) (ZL Qaj (by rfl) T.b_len PySem.boot_len (Qb (Qa 2 (pv 2)) Qg)) Qf (Qs _)) (QaM (Yb (Qu (YC (x := "str") QfO (QN QM (Qa 2 (pv 2)) Qf (fun _ _=>rfl)) (by rfl) T.b_isinstance (by rfl) T.b_str (by kernel_rfl)))))))) (Qk (Qx Xm)) QR)
      (Qk (Zs (WM.tm (Qbq (Yb (Qu (Qz c__law_whole ZC (hr.mono (by decide)) (by rfl) (Qb (QN QM (Qa 2 (pv 2)) Qf (fun _ _=>rfl)) Qg)))) (QaM (Yb (Qu (Qz c__law_whole ZC (hr.mono (by decide)) (by rfl) (Qb (QN QM (Qa 2 (pv 2)) Qf (fun _ _=>rfl)) Qg))))))) (Qk (Qx Xm)) QR))))
      (Qk (Qx (YB (Yr hr.units) (Qa 0 (pv 0)) (Qa 1 (pv 1)) (Qs _))))))
noncomputable abbrev Yj:Stmt:=top 36
noncomputable def Qca:List Str:=["told","against"]
theorem QeD {P:Program} {w:World} {K:PySem.W.Frag} {mg:Str→Option Value} {base:Heap} {f:Addr} {fd:FuncData} (T:Txt mg) (c__law_whole:Cal P w K mg base 1 "_law_whole" 1 QE) (F:Fun K "_law_waits" "_law_waits" Yj f fd):FnOk P w K mg base CX0 2 f fd ["told","against"] (spM K 2 ZO):=by
  have sc:FnScope Qca ["told","against"] (Qe Yj):=⟨rfl,rfl,rfl,by decide +kernel,rfl,by decide +kernel,by decide +kernel⟩
  have nd:=sc.nd
  refine fnM (N:=Qca) (k:=1) F sc rfl fun cdv A outer s H E hr => ?_
  exact (Qi (Zs (Qw Qex (Qa 1 (pv 1)) Yl (Qs _)) (Qk (Qx (YB Qex (Qa 0 (pv 0)) Yl (Qs _)))) QR)
      (Qi (Zs (WM.tm (Qbq (Yb (Qu (YC (x := "tuple") Qit (Qa 0 (pv 0)) (by rfl) T.b_isinstance (by rfl) T.b_tuple (by kernel_rfl)))) (Qbq (Qw (QcI hr.units) (ZL Qaj (by rfl) T.b_len PySem.boot_len (Qb (Qa 0 (pv 0)) Qg)) Qf (Qs _)) (Qbq (Yb (Qu (Qz c__law_whole ZC (hr.mono (by decide)) (by rfl) (Qb (QN QM (Qa 0 (pv 0)) Qf (fun _ _=>rfl)) Qg)))) (QaM (Yb (Qu (Qz c__law_whole ZC (hr.mono (by decide)) (by rfl) (Qb (QN QM (Qa 0 (pv 0)) Qf (fun _ _=>rfl)) Qg))))))))) (Qk (Qx Xm)) QR)
      (Qk (Qx (YB (Yr hr.units) (Qa 0 (pv 0)) (Qa 1 (pv 1)) (Qs _))))))
noncomputable abbrev Yv:Stmt:=top 37
noncomputable def Qdi:List Str:=["found","hit","held","against"]
theorem QfA {P:Program} {w:World} {K:PySem.W.Frag} {mg:Str→Option Value} {base:Heap} {f:Addr} {fd:FuncData} (T:Txt mg) (c__law_ground:Cal P w K mg base 1 "_law_ground" 2 QP) (F:Fun K "_law_wins" "_law_wins" Yv f fd):FnOk P w K mg base CX0 2 f fd ["found","hit","held","against"] (spM K 4 Ye):=by
  have sc:FnScope Qdi ["found","hit","held","against"] (Qe Yv):=⟨rfl,rfl,rfl,by decide +kernel,rfl,by decide +kernel,by decide +kernel⟩
  have nd:=sc.nd
  refine fnM (N:=Qdi) (k:=1) F sc rfl fun cdv A outer s H E hr => ?_
  exact (Qi (Zs (Qw (QcI hr.units) (Qj QbD (Qz c__law_ground XD (hr.mono (by decide)) (by rfl) (Qb (Qa 2 (pv 2)) (Qb (Qa 3 (pv 3)) Qg))) (Qa 1 (pv 1))) Qf (Qs _)) (Qk (Qx (YB Qex (Qa 0 (pv 0)) Yl (Qs _)))) QR)
      (Qk (Qx (QdE (YC (x := "str") QfO (Qa 0 (pv 0)) (by rfl) T.b_isinstance (by rfl) T.b_str (by kernel_rfl)) (QeS (YB (Yr hr.units) (Qa 0 (pv 0)) (QN QM (EO.em (Zf (Xa (Xa Qg)))) (ZB QaQ (by rfl) T.b_int (by kernel_rfl) (Qb (YB Qem (Qa 3 (pv 3)) Yl (Qs _)) Qg)) (fun _ _=>rfl)) (Qs _)))))))
noncomputable abbrev YY:Stmt:=Zd (top 23) 2
noncomputable def QdZ:List Str:=["self"]
theorem Qgu {P:Program} {w:World} {K:PySem.W.Frag} {mg:Str→Option Value} {base:Heap} {f:Addr} {fd:FuncData} (T:Txt mg) {C:Addr} (W:TFld K C)  (F:Fun K "now" "Talk.now" YY f fd):FnOk P w K mg base CX0 1 f fd ["self"] (spM K 1 (Yg C)):=by
  have sc:FnScope QdZ ["self"] (Qe YY):=⟨rfl,rfl,rfl,by decide +kernel,rfl,by decide +kernel,by decide +kernel⟩
  have nd:=sc.nd
  refine fnM (N:=QdZ) (k:=0) F sc rfl fun cdv A outer s H E hr => ?_
  exact (Qk (Qx (QcM (Qa 0 (pv 0)) W.fl_held)))
noncomputable abbrev ZG:Stmt:=Zd (top 23) 3
noncomputable def QaJ:List Str:=["self"]
theorem Qdr {P:Program} {w:World} {K:PySem.W.Frag} {mg:Str→Option Value} {base:Heap} {f:Addr} {fd:FuncData} (T:Txt mg) {C:Addr} (W:TFld K C)  (F:Fun K "waiting" "Talk.waiting" ZG f fd):FnOk P w K mg base CX0 1 f fd ["self"] (spM K 1 (Zj C)):=by
  have sc:FnScope QaJ ["self"] (Qe ZG):=⟨rfl,rfl,rfl,by decide +kernel,rfl,by decide +kernel,by decide +kernel⟩
  have nd:=sc.nd
  refine fnM (N:=QaJ) (k:=0) F sc rfl fun cdv A outer s H E hr => ?_
  exact (Qk (Qx (QcM (Qa 0 (pv 0)) W.fl_unanswered)))
noncomputable abbrev ZS:Stmt:=top 19
noncomputable def Qbm:List Str:=["book"]
theorem QdJ {P:Program} {w:World} {K:PySem.W.Frag} {mg:Str→Option Value} {base:Heap} {f:Addr} {fd:FuncData} (T:Txt mg)  (F:Fun K "all_guesses" "all_guesses" ZS f fd):FnOk P w K mg base CX0 1 f fd ["book"] (spM K 1 Zy):=by
  have sc:FnScope Qbm ["book"] (Qe ZS):=⟨rfl,rfl,rfl,by decide +kernel,rfl,by decide +kernel,by decide +kernel⟩
  have nd:=sc.nd
  refine fnM (N:=Qbm) (k:=0) F sc rfl fun cdv A outer s H E hr => ?_
  exact (Qk (Qx (Qj Qch (Qj QbB Qf (ZL Qaj (by rfl) T.b_len PySem.boot_len (Qb (QN QM (Qa 0 (pv 0)) Qf (fun _ _=>rfl)) Qg))) Qf)))
noncomputable abbrev ZV:Stmt:=Zd (top 23) 4
noncomputable def Qbp:List Str:=["self"]
theorem QdN {P:Program} {w:World} {K:PySem.W.Frag} {mg:Str→Option Value} {base:Heap} {f:Addr} {fd:FuncData} (T:Txt mg) {C:Addr} (W:TFld K C) (c_Talk_turn:YV P w K mg base 1 C "turn" 1 (QJ C)) (c_Talk_aims:YV P w K mg base 1 C "aims" 1 (Zt C)) (c_struck:Cal P w K mg base 4 "struck" 2 YL) (c_all_guesses:Cal P w K mg base 1 "all_guesses" 1 Zy) (F:Fun K "winner" "Talk.winner" ZV f fd):FnOk P w K mg base CX0 5 f fd ["self"] (spM K 1 (ZA C)):=by
  have sc:FnScope Qbp ["self"] (Qe ZV):=⟨rfl,rfl,rfl,by decide +kernel,rfl,by decide +kernel,by decide +kernel⟩
  have nd:=sc.nd
  refine fnM (N:=Qbp) (k:=4) F sc rfl fun cdv A outer s H E hr => ?_
  exact (Qi (Zs (Qu (Qj QbD (YG (Qa 0 (pv 0)) c_Talk_aims (Qan C) (hr.mono (by decide))) (Qz c_struck QbQ (hr.mono (by decide)) (by rfl) (Qb (QcM (Qa 0 (pv 0)) W.fl_book) (Qb (Qz c_all_guesses QbK (hr.mono (by decide)) (by rfl) (Qb (QcM (Qa 0 (pv 0)) W.fl_book) Qg)) Qg))))) (Qk (Qx Yl)) QR)
      (Qk (Qx (em_if (Qw (Yr hr.units) (YG (Qa 0 (pv 0)) c_Talk_turn (Yp C) (hr.mono (by decide))) Qai (Qs _)) Qai Qai))))
noncomputable abbrev Yw:Stmt:=top 38
noncomputable def Qdj:List Str:=["talk","hit","held","against","order","k","told"]
theorem QfB {P:Program} {w:World} {K:PySem.W.Frag} {mg:Str→Option Value} {base:Heap} {f:Addr} {fd:FuncData} (T:Txt mg) {C:Addr} (W:TFld K C) (c_Talk_turn:YV P w K mg base 1 C "turn" 1 (QJ C)) (c__law_whole:Cal P w K mg base 1 "_law_whole" 1 QE) (c__law_waits:Cal P w K mg base 2 "_law_waits" 2 ZO) (c__law_wins:Cal P w K mg base 2 "_law_wins" 4 Ye) (c_Talk_now:YV P w K mg base 1 C "now" 1 (Yg C)) (c_Talk_waiting:YV P w K mg base 1 C "waiting" 1 (Zj C)) (c_Talk_winner:YV P w K mg base 5 C "winner" 1 (ZA C)) (F:Fun K "_law_seen" "_law_seen" Yw f fd):FnOk P w K mg base CX0 6 f fd ["talk","hit","held","against","order"] (spM K 5 (QQ C)):=by
  have sc:FnScope Qdj ["talk","hit","held","against","order"] (Qe Yw):=⟨rfl,rfl,rfl,by decide +kernel,rfl,by decide +kernel,by decide +kernel⟩
  have nd:=sc.nd
  refine fnM (N:=Qdj) (k:=5) F sc rfl fun cdv A outer s H E hr => ?_
  exact (Qi (Qdx PassesOwn.never rfl (Qck (QN QM (EO.em (Zf (Qb (EO.em (Zf (QX (QX (QX (QX Qg)))))) (Qb (EO.em (Zf (QX (QX (QX (QX Qg)))))) Qg)))) (Qa 4 (pv 4)) (fun _ _=>rfl))) (Zv (Zb (i:=5) nd rfl (Or.inl rfl))) (Qi (Zs (Qw (Yr hr.units) (Qa 5 (pv 5)) Qf (Qs _)) (Qi (Qy (i:=6) nd rfl (Or.inl rfl) (YG (Qa 0 (pv 0)) c_Talk_turn (Yp C) (hr.mono (by decide))))
      (Qk (Zs (WM.tm (Qbq (Yb (Qu (YC (x := "str") QfO (Qa 6 (pv 6)) (by rfl) T.b_isinstance (by rfl) T.b_str (by kernel_rfl)))) (QaM (Qw (QcI hr.units) (Qa 6 (pv 6)) (QN QM (EO.em (Zf (Xa (Xa Qg)))) (ZB QaQ (by rfl) T.b_int (by kernel_rfl) (Qb (YB Qem (Qa 3 (pv 3)) Yl (Qs _)) Qg)) (fun _ _=>rfl)) (Qs _))))) (Qk (Qx Xm)) QR))) QR)
      (Qi (Zs (WM.tm (Qaf (Qw (Yr hr.units) (Qa 5 (pv 5)) Qf (Qs _)) (Xy (WM.tm (Qbq (Yb (Qu (Qz c__law_whole ZC (hr.mono (by decide)) (by rfl) (Qb (YG (Qa 0 (pv 0)) c_Talk_now (QaC C) (hr.mono (by decide))) Qg)))) (QaM (Qw (QcI hr.units) (YG (Qa 0 (pv 0)) c_Talk_now (QaC C) (hr.mono (by decide))) (Qa 2 (pv 2)) (Qs _)))))))) (Qk (Qx Xm)) QR)
      (Qi (Zs (WM.tm (Qaf (Qw (Yr hr.units) (Qa 5 (pv 5)) Qf (Qs _)) (Xy (Yb (Qu (Qz c__law_waits Qcx (hr.mono (by decide)) (by rfl) (Qb (YG (Qa 0 (pv 0)) c_Talk_waiting (Qbx C) (hr.mono (by decide))) (Qb (Qa 3 (pv 3)) Qg)))))))) (Qk (Qx Xm)) QR)
      (Qk (Zs (WM.tm (Qaf (Qw (Yr hr.units) (Qa 5 (pv 5)) Qf (Qs _)) (Xy (Yb (Qu (Qz c__law_wins Qdn (hr.mono (by decide)) (by rfl) (Qb (YG (Qa 0 (pv 0)) c_Talk_winner (QbM C) (hr.mono (by decide))) (Qb (Qa 1 (pv 1)) (Qb (Qa 2 (pv 2)) (Qb (Qa 3 (pv 3)) Qg)))))))))) (Qk (Qx Xm)) QR))))))
      (Qk (Qx Xm)))
noncomputable abbrev YX:Stmt:=top 32
noncomputable def QdY:List Str:=["book","right","doubting","ground","guess","striker"]
theorem Qgt {P:Program} {w:World} {K:PySem.W.Frag} {mg:Str→Option Value} {base:Heap} {f:Addr} {fd:FuncData} (T:Txt mg) (c__law_yields:Cal P w K mg base 1 "_law_yields" 2 QY) (F:Fun K "_law_due" "_law_due" YX f fd):FnOk P w K mg base CX0 2 f fd ["book","right","doubting","ground","guess","striker"] (spM K 6 Zr):=by
  have sc:FnScope QdY ["book","right","doubting","ground","guess","striker"] (Qe YX):=⟨rfl,rfl,rfl,by decide +kernel,rfl,by decide +kernel,by decide +kernel⟩
  have nd:=sc.nd
  refine fnM (N:=QdY) (k:=1) F sc rfl fun cdv A outer s H E hr => ?_
  exact (Qi (Zs (Yb (Qu (Qa 1 (pv 1)))) (Qk (Qx Qf)) QR)
      (Qi (Zs (WM.tm (Qaf (Qw om_le Qf (Qa 4 (pv 4)) (Qs _)) (Qaf (Qw Qjw (Qa 4 (pv 4)) (ZL Qaj (by rfl) T.b_len PySem.boot_len (Qb (QN QM (Qa 0 (pv 0)) Qf (fun _ _=>rfl)) Qg)) (Qs _)) (Xy (Qw (Yr hr.units) (Qj QbD (Qj Qga (Qa 3 (pv 3)) (Qa 4 (pv 4))) Qf) Qf (Qs _)))))) (Qk (Zs (Qw (Qgr hr.units) (QN QM (QN QM (Qa 0 (pv 0)) Qf (fun _ _=>rfl)) (Qa 4 (pv 4)) (fun _ _=>rfl)) (Qz c__law_yields XC (hr.mono (by decide)) (by rfl) (Qb (Qa 0 (pv 0)) (Qb (Qa 5 (pv 5)) Qg))) (by with_unfolding_all rfl)) (Qk (Qx Qf)) QR)) QR)
      (Qk (Qx (QN QM (EO.em (Zf (QX (QX Qg)))) (ZB QaQ (by rfl) T.b_int (by kernel_rfl) (Qb (Qa 2 (pv 2)) Qg)) (fun _ _=>rfl))))))
noncomputable abbrev QbO:Stmt:=top 40
noncomputable def Qjz:List Str:=["script","guesses","words","cut","book","held","total","hit","against","moves","kept","talk","beside","cell","doubting","ground","guess","striker","code","told","good"]
theorem ok_law {P:Program} {w:World} {K:PySem.W.Frag} {mg:Str→Option Value} {base:Heap} {f:Addr} {fd:FuncData} (T:Txt mg) {C:Addr} (W:TFld K C) (cc_said:CalCp P w K mg base 1 C "moves" "said") (c__law_cell_at:Cal P w K mg base 1 "_law_cell_at" 2 Qt) (c__law_book_of:Cal P w K mg base 2 "_law_book_of" 4 QW) (c__law_hit:Cal P w K mg base 2 "_law_hit" 2 ZQ) (c_Talk___init__:QjA P w K mg base 1 C "moves" "Talk" 3 (QH C)) (c__law_ground:Cal P w K mg base 1 "_law_ground" 2 QP) (c__law_named:Cal P w K mg base 1 "_law_named" 3 Zq) (c__law_tried:CalXV P w K mg base 7 C "moves" "_law_tried" 4 (ZP C)) (c_Talk_said:YV P w K mg base 1 C "said" 1 (Zi C)) (c__law_said:Cal P w K mg base 2 "_law_said" 2 Zh) (c__law_seen:Cal P w K mg base 6 "_law_seen" 5 (QQ C)) (c__law_due:Cal P w K mg base 2 "_law_due" 6 Zr) (F:Fun K "law" "law" QbO f fd):FnOk P w K mg base CX0 8 f fd ["script"] (spM K 1 (QaY C)):=by
  have sc:FnScope Qjz ["script"] (Qe QbO):=⟨rfl,rfl,rfl,by decide +kernel,rfl,by decide +kernel,by decide +kernel⟩
  have nd:=sc.nd
  refine fnM (N:=Qjz) (k:=7) F sc rfl fun cdv A outer s H E hr => ?_
  exact (Qi (Qy (i:=1) nd rfl (Or.inl rfl) (Qj QF (Qz c__law_cell_at QS (hr.mono (by decide)) (by rfl) (Qb (Qa 0 (pv 0)) (QX Qg))) Qf))
      (Qi (Qy (i:=2) nd rfl (Or.inl rfl) (Qj Yd (Qa 1 (pv 1)) (Qj QF (Qj Yd (Qj ZR (Qz c__law_cell_at QS (hr.mono (by decide)) (by rfl) (Qb (Qa 0 (pv 0)) (QX Qg))) Qf) Qf) Qf)))
      (Qi (Qy (i:=3) nd rfl (Or.inl rfl) (Qj Yd Qf (Qj QF (Qz c__law_cell_at QS (hr.mono (by decide)) (by rfl) (Qb (Qa 0 (pv 0)) (QX Qg))) Qf)))
      (Qi (Qy (i:=4) nd rfl (Or.inl rfl) (Qz c__law_book_of QaB (hr.mono (by decide)) (by rfl) (Qb (Qa 0 (pv 0)) (Qb (Qa 1 (pv 1)) (Qb (Qa 2 (pv 2)) (Qb (Qa 3 (pv 3)) Qg))))))
      (Qi (Qy (i:=5) nd rfl (Or.inl rfl) (Qj QF (Qj ZR (Qz c__law_cell_at QS (hr.mono (by decide)) (by rfl) (Qb (Qa 0 (pv 0)) (QX Qg))) Qf) (Qj QbB Qf (Qa 1 (pv 1)))))
      (Qi (Qy (i:=6) nd rfl (Or.inl rfl) (Qj Qch (Qj QbB Qf (Qa 1 (pv 1))) Qf))
      (Qi (Qy (i:=7) nd rfl (Or.inl rfl) (Qz c__law_hit QcA (hr.mono (by decide)) (by rfl) (Qb (Qa 4 (pv 4)) (Qb (Qa 6 (pv 6)) Qg))))
      (Qi (sm_par3 (i:=8) (j:=9) (l:=10) (by decide) (by decide) (by decide) (ps_par3 (i:=8) (j:=9) (l:=10) rfl nd rfl rfl rfl (by decide) (by decide) (by decide) rfl rfl rfl (YF (em_pe Yl) (YF (QhV QbA) (YF (QhV QbA) QbA))) (by rfl)))
      (ss_mk (j:=11) nd rfl (Or.inl rfl) c_Talk___init__ (Xe C) (hr.mono (by decide)) (by rfl) (Qb (Qa 4 (pv 4)) (Qb (Qa 5 (pv 5)) Qg)) (Zc (Ya (Qr _ _ _) (Qy (i:=12) nd rfl (Or.inl rfl) (em_newL c_Talk___init__ (Xe C) (hr.mono (by decide)) (by rfl) (Qb (Qa 4 (pv 4)) (Qb (Qa 6 (pv 6)) Qg)))))
      (Zc (xm_for (Qr _ _ _) PassesOwn.never rfl (Qck (EO.em (eo_cut (Qa 0 (pv 0)) (Qef (Qa 3 (pv 3))) (Qef (Qj Yd (Qa 3 (pv 3)) Qf))))) (Zv (Zb (i:=13) nd rfl (Or.inl rfl))) (Zc (Ya (Qr _ _ _) (Qy (i:=14) nd rfl (Or.inl rfl) (YB Qex (Qa 8 (pv 8)) Yl (Qs _))))
      (Zc (Ya (Qr _ _ _) (Qy (i:=15) nd rfl (Or.inl rfl) (Qz c__law_ground XD (hr.mono (by decide)) (by rfl) (Qb (Qa 5 (pv 5)) (Qb (Qa 8 (pv 8)) Qg)))))
      (Zc (Ya (Qr _ _ _) (Zs (Qw (Yr hr.units) (Qj QF (Qa 13 (pv 13)) Qf) Qf (Qs _)) (Qk (Qy (i:=14) nd rfl (Or.inl rfl) (em_not (Qa 14 (pv 14))))) QR))
      (Zc (Ya (Qr _ _ _) (Qy (i:=16) nd rfl (Or.inl rfl) (Qz c__law_named Qcz (hr.mono (by decide)) (by rfl) (Qb (Qj ZR (Qa 13 (pv 13)) Qf) (Qb (Qa 15 (pv 15)) (Qb (Qa 1 (pv 1)) Qg))))))
      (Zc (Ya (Qr _ _ _) (Qy (i:=17) nd rfl (Or.inl rfl) (QN QM (EO.em (Zf (Qb (Qj QF (Qj ZR (Qa 13 (pv 13)) Qf) (Qj QbB Qf (Qa 1 (pv 1)))) (Qb (Qa 6 (pv 6)) Qg)))) (Qj QF (Qj ZR (Qa 13 (pv 13)) Qf) Qf) (fun _ _=>rfl))))
      (Zc (xm_cv (i:=18) nd rfl (Or.inl rfl) (pv 11) c__law_tried (Qcy C) (hr.mono (by decide)) (by rfl) (Qb (Qa 14 (pv 14)) (Qb (Qa 16 (pv 16)) (Qb (Qa 17 (pv 17)) Qg))))
      (Zc (Ya (Qr _ _ _) (Zs (Qw (QcI hr.units) (Qa 18 (pv 18)) (Qz c__law_due QcB (hr.mono (by decide)) (by rfl) (Qb (Qa 4 (pv 4)) (Qb (YB (Yr hr.units) (Qa 14 (pv 14)) (YB Qex (Qa 8 (pv 8)) Yl (Qs _)) (Qs _)) (Qb (Qa 14 (pv 14)) (Qb (Qa 15 (pv 15)) (Qb (Qa 16 (pv 16)) (Qb (Qa 17 (pv 17)) Qg))))))) (Qs _)) (Qk (Qx Xm)) QR))
      (Zc (Ya (Qr _ _ _) (Zs (Qw (Yr hr.units) (Qa 18 (pv 18)) Qf (Qs _)) (Qi (XN (i:=9) (pv 9) (Xu (Qb (QN QM (EO.em (Zf (Xa (Xa Qg)))) (ZB QaQ (by rfl) T.b_int (by kernel_rfl) (Qb (Qa 14 (pv 14)) Qg)) (fun _ _=>rfl)) (Qb (Qa 16 (pv 16)) (Qb (Qa 17 (pv 17)) Qg)))) (Yq (QaR PySem.F.plainAttrs_list PySem.F.slot_list_append PySem.F.type_list_append Ze (pv 9) (ZM (Xu (Qb (QN QM (EO.em (Zf (Xa (Xa Qg)))) (ZB QaQ (by rfl) T.b_int (by kernel_rfl) (Qb (Qa 14 (pv 14)) Qg)) (fun _ _=>rfl)) (Qb (Qa 16 (pv 16)) (Qb (Qa 17 (pv 17)) Qg))))))))
      (Qi (Qy (i:=8) nd rfl (Or.inl rfl) Yl)
      (Qk (Zs (Qu (Qa 14 (pv 14))) (Qk (Qy (i:=8) nd rfl (Or.inl rfl) (Xu (Qb (Qa 16 (pv 16)) (Qb (Qa 17 (pv 17)) Qg))))) (Qk (Qy (i:=5) nd rfl (Or.inl rfl) (Qa 17 (pv 17)))))))) QR))
      (Zc (xm_cpy (i:=19) nd rfl (Or.inl rfl) (pv 11) cc_said (hr.mono (by decide)))
      (Zc (xm_ifA (Xq _ _ _) (WM.tm (Qbq (Yb (Qu (Qz c__law_said Qal (hr.mono (by decide)) (by rfl) (Qb (Qa 19 (pv 19)) (Qb (Qa 9 (pv 9)) Qg))))) (QaM (Yb (Qu (Qz c__law_seen (Xc C) (hr.mono (by decide)) (by rfl) (Qb (Qa 11 (pv 11)) (Qb (Qa 7 (pv 7)) (Qb (Qa 5 (pv 5)) (Qb (Qa 8 (pv 8)) (Qb (Qj QF (Qj ZR (Qa 13 (pv 13)) Qf) Qf) Qg))))))))))) (xs_lift (Qr _ _ _) (Qk (Qx Xm))) QeK)
      (Zc (Ya (Qr _ _ _) (XN (i:=19) (pv 19) (Xu (Xa (QX (QX Qg)))) (Yq (QaR PySem.F.plainAttrs_list PySem.F.slot_list_append PySem.F.type_list_append Ze (pv 19) (ZM (Xu (Xa (QX (QX Qg)))))))))
      (QeJ (Ya (Qr _ _ _) (XN (i:=10) (pv 10) (EO.em (Zf (Qb (Qa 19 (pv 19)) (Qb (EO.em (QcU QfS (by rfl) T.b_list (by kernel_rfl) (Qb (Qa 19 (pv 19)) Qg))) Qg)))) (Yq (QaR PySem.F.plainAttrs_list PySem.F.slot_list_append PySem.F.type_list_append Ze (pv 10) (ZM (EO.em (Zf (Qb (Qa 19 (pv 19)) (Qb (EO.em (QcU QfS (by rfl) T.b_list (by kernel_rfl) (Qb (Qa 19 (pv 19)) Qg))) Qg))))))))))))))))))))))
      (Zc (xm_setA (Xq _ _ _) (Qr _ _ _) (i:=20) nd rfl (Or.inl rfl) (QdE (Qz c__law_said Qal (hr.mono (by decide)) (by rfl) (Qb (YG (Qa 11 (pv 11)) c_Talk_said (Qam C) (hr.mono (by decide))) (Qb (Qa 9 (pv 9)) Qg))) (QeS (Qz c__law_seen (Xc C) (hr.mono (by decide)) (by rfl) (Qb (Qa 11 (pv 11)) (Qb (Qa 7 (pv 7)) (Qb (Qa 5 (pv 5)) (Qb (Qa 8 (pv 8)) (QX Qg)))))))))
      (Zc (Ya (Qr _ _ _) (Qy (i:=20) nd rfl (Or.inl rfl) (QdE (Qa 20 (pv 20)) (QdE (Qz c__law_seen (Xc C) (hr.mono (by decide)) (by rfl) (Qb (Qa 12 (pv 12)) (Qb (Qa 7 (pv 7)) (Qb (Qa 6 (pv 6)) (Qb Yl (QX Qg)))))) (QeS (YB (Yr hr.units) (YG (Qa 12 (pv 12)) c_Talk_said (Qam C) (hr.mono (by decide))) (EO.em (Zf Qg)) (Qs _)))))))
      (QeJ (Ya (Qr _ _ _) (Qx (QdE (Qa 20 (pv 20)) (QeS (ZL (cm_all rfl) (by rfl) T.b_all (by kernel_rfl) (Qb (EO.em (XV (X:=(cxOf CX0 P w K mg base Qjz "law" (Qe QbO) f cdv A outer s H E).nox) (N':=["pair"]) (nt:=1) (caps:=[]) (ts:=[0]) (ns:=[]) (ls:=[0,0]) rfl (QcN (N:=Qjz) (osc:=(Qe QbO)) rfl rfl (by decide +kernel)) (by decide) (Yn _) (Qck (Qa 10 (pv 10))) (fun _ _ _ _ _ _=>(Zv (Zb (i:=0) (show (["pair"]:List Str).Nodup by decide +kernel) rfl (Or.inl rfl)))) (fun _ _ _ _ _ _=>Qgd) (fun _ _ _ _ _ _=>(YB (Yr (by exact hr.units)) (QN QM (Qa 0 (pv 0)) Qf (fun _ _=>rfl)) (QN QM (Qa 0 (pv 0)) Qf (fun _ _=>rfl)) (Qs _))))) Qg))))))))))))))))))))
theorem all_mk {l:PySem.W.OpenLaw} {w:World} {K:PySem.W.Frag} {h:Heap} {mg:Str→Option Value} {fa:Addr} (hlaw:∀ (C:Addr) (ns:List Int),ns.length≤63→QaY C [.lst (ns.map .int)]=some (.bl true)) (X:K.In h) (G:h.Ns mainGlobals mg) (hfa:mg "law"=some (.ref fa))
    {x_HallError x_RowError x_NotTurn x_NoDoubt x_NoReply x_NoAsk x_NoWord x_NotGuess x_NotTold:Addr}
    {C:Addr}
    {f0:Addr} {od0 an0:Option Addr} {sl0:Array (Option Value)} {oc0 kV0 dc0 pm0 cd0 ct0:Value}
    {f1:Addr} {od1 an1:Option Addr} {sl1:Array (Option Value)} {oc1 kV1 dc1 pm1 cd1 ct1:Value}
    {f2:Addr} {od2 an2:Option Addr} {sl2:Array (Option Value)} {oc2 kV2 dc2 pm2 cd2 ct2:Value}
    {f3:Addr} {od3 an3:Option Addr} {sl3:Array (Option Value)} {oc3 kV3 dc3 pm3 cd3 ct3:Value}
    {f4:Addr} {od4 an4:Option Addr} {sl4:Array (Option Value)} {oc4 kV4 dc4 pm4 cd4 ct4:Value}
    {f5:Addr} {od5 an5:Option Addr} {sl5:Array (Option Value)} {oc5 kV5 dc5 pm5 cd5 ct5:Value}
    {f6:Addr} {od6 an6:Option Addr} {sl6:Array (Option Value)} {oc6 kV6 dc6 pm6 cd6 ct6:Value}
    {f7:Addr} {od7 an7:Option Addr} {sl7:Array (Option Value)} {oc7 kV7 dc7 pm7 cd7 ct7:Value}
    {f8:Addr} {od8 an8:Option Addr} {sl8:Array (Option Value)} {oc8 kV8 dc8 pm8 cd8 ct8:Value}
    {f9:Addr} {od9 an9:Option Addr} {sl9:Array (Option Value)} {oc9 kV9 dc9 pm9 cd9 ct9:Value}
    {f10:Addr} {od10 an10:Option Addr} {sl10:Array (Option Value)} {oc10 kV10 dc10 pm10 cd10 ct10:Value}
    {f11:Addr} {od11 an11:Option Addr} {sl11:Array (Option Value)} {oc11 kV11 dc11 pm11 cd11 ct11:Value}
    {f12:Addr} {od12 an12:Option Addr} {sl12:Array (Option Value)} {oc12 kV12 dc12 pm12 cd12 ct12:Value}
    {f13:Addr} {od13 an13:Option Addr} {sl13:Array (Option Value)} {oc13 kV13 dc13 pm13 cd13 ct13:Value}
    {f14:Addr} {od14 an14:Option Addr} {sl14:Array (Option Value)} {oc14 kV14 dc14 pm14 cd14 ct14:Value}
    {f15:Addr} {od15 an15:Option Addr} {sl15:Array (Option Value)} {oc15 kV15 dc15 pm15 cd15 ct15:Value}
    {f16:Addr} {od16 an16:Option Addr} {sl16:Array (Option Value)} {oc16 kV16 dc16 pm16 cd16 ct16:Value}
    {f17:Addr} {od17 an17:Option Addr} {sl17:Array (Option Value)} {oc17 kV17 dc17 pm17 cd17 ct17:Value}
    {f18:Addr} {od18 an18:Option Addr} {sl18:Array (Option Value)} {oc18 kV18 dc18 pm18 cd18 ct18:Value}
    {f19:Addr} {od19 an19:Option Addr} {sl19:Array (Option Value)} {oc19 kV19 dc19 pm19 cd19 ct19:Value}
    {f20:Addr} {od20 an20:Option Addr} {sl20:Array (Option Value)} {oc20 kV20 dc20 pm20 cd20 ct20:Value}
    {f21:Addr} {od21 an21:Option Addr} {sl21:Array (Option Value)} {oc21 kV21 dc21 pm21 cd21 ct21:Value}
    {f22:Addr} {od22 an22:Option Addr} {sl22:Array (Option Value)} {oc22 kV22 dc22 pm22 cd22 ct22:Value}
    {f23:Addr} {od23 an23:Option Addr} {sl23:Array (Option Value)} {oc23 kV23 dc23 pm23 cd23 ct23:Value}
    {f24:Addr} {od24 an24:Option Addr} {sl24:Array (Option Value)} {oc24 kV24 dc24 pm24 cd24 ct24:Value}
    {f25:Addr} {od25 an25:Option Addr} {sl25:Array (Option Value)} {oc25 kV25 dc25 pm25 cd25 ct25:Value}
    {f26:Addr} {od26 an26:Option Addr} {sl26:Array (Option Value)} {oc26 kV26 dc26 pm26 cd26 ct26:Value}
    {f27:Addr} {od27 an27:Option Addr} {sl27:Array (Option Value)} {oc27 kV27 dc27 pm27 cd27 ct27:Value}
    {f28:Addr} {od28 an28:Option Addr} {sl28:Array (Option Value)} {oc28 kV28 dc28 pm28 cd28 ct28:Value}
    {f29:Addr} {od29 an29:Option Addr} {sl29:Array (Option Value)} {oc29 kV29 dc29 pm29 cd29 ct29:Value}
    {f30:Addr} {od30 an30:Option Addr} {sl30:Array (Option Value)} {oc30 kV30 dc30 pm30 cd30 ct30:Value}
    {f31:Addr} {od31 an31:Option Addr} {sl31:Array (Option Value)} {oc31 kV31 dc31 pm31 cd31 ct31:Value}
    {f32:Addr} {od32 an32:Option Addr} {sl32:Array (Option Value)} {oc32 kV32 dc32 pm32 cd32 ct32:Value}
    {f33:Addr} {od33 an33:Option Addr} {sl33:Array (Option Value)} {oc33 kV33 dc33 pm33 cd33 ct33:Value}
    (aC:PySem.W.nsIn K mainGlobals "Talk"=some (some (.ref C)))
    (pC:PySem.W.plainGet K C Str.empty=true)
    (hC:PySem.W.hasDictIn K C=true)
    (oC:PySem.W.plainOver K C=true)
    (sC:PySem.W.findIn K (.ref C) "__setattr__"=some (some (.builtin "object.__setattr__")))
    (mC:PySem.W.makesIn K C=true)
    (kC:PySem.W.keepIn K (.ref C)=true)
    (n_book:PySem.W.findIn K (.ref C) "book"=some none)
    (n_held:PySem.W.findIn K (.ref C) "held"=some none)
    (n_unanswered:PySem.W.findIn K (.ref C) "unanswered"=some none)
    (n_moves:PySem.W.findIn K (.ref C) "moves"=some none)
    (isn:PySem.W.specialIn K (.builtin "object.__class__") "__get__"=some (some (.builtin "getset_descriptor.__get__")))
    (ist:PySem.W.takesIn K (.builtin "object.__class__")=some true)
    (xa_HallError:PySem.W.nsIn K mainGlobals "HallError"=some (some (.ref x_HallError)))
    (xa_RowError:PySem.W.nsIn K mainGlobals "RowError"=some (some (.ref x_RowError)))
    (xa_NotTurn:PySem.W.nsIn K mainGlobals "NotTurn"=some (some (.ref x_NotTurn)))
    (xa_NoDoubt:PySem.W.nsIn K mainGlobals "NoDoubt"=some (some (.ref x_NoDoubt)))
    (xa_NoReply:PySem.W.nsIn K mainGlobals "NoReply"=some (some (.ref x_NoReply)))
    (xa_NoAsk:PySem.W.nsIn K mainGlobals "NoAsk"=some (some (.ref x_NoAsk)))
    (xa_NoWord:PySem.W.nsIn K mainGlobals "NoWord"=some (some (.ref x_NoWord)))
    (xa_NotGuess:PySem.W.nsIn K mainGlobals "NotGuess"=some (some (.ref x_NotGuess)))
    (xa_NotTold:PySem.W.nsIn K mainGlobals "NotTold"=some (some (.ref x_NotTold)))
    (xg_HallError:PySem.W.findIn K (.ref x_HallError) "__getattribute__"=some (some (.builtin "BaseException.__getattribute__")))
    (xh_HallError:PySem.W.findIn K (.ref x_HallError) "__getattr__"=some none)
    (xb_HallError:PySem.W.mroIn K x_HallError (.type "BaseException")=some true)
    (xo_HallError:PySem.W.mroIn K x_HallError (.type "object")=some true)
    (xc_HallError:PySem.W.findIn K (.ref x_HallError) "__class__"=some (some (.builtin "object.__class__")))
    (xy_HallError:PySem.W.typeIn K (.ref x_HallError)=some (.type "type"))
    (xy_RowError:PySem.W.typeIn K (.ref x_RowError)=some (.type "type"))
    (xk_RowError:PySem.W.isClsIn K x_RowError=true)
    (xn_NotTurn:PySem.W.excIn K x_NotTurn valB "ValueError.__new__"=true)
    (xg_NotTurn:PySem.W.findIn K (.ref x_NotTurn) "__getattribute__"=some (some (.builtin "BaseException.__getattribute__")))
    (xh_NotTurn:PySem.W.findIn K (.ref x_NotTurn) "__getattr__"=some none)
    (xb_NotTurn:PySem.W.mroIn K x_NotTurn (.type "BaseException")=some true)
    (xo_NotTurn:PySem.W.mroIn K x_NotTurn (.type "object")=some true)
    (xc_NotTurn:PySem.W.findIn K (.ref x_NotTurn) "__class__"=some (some (.builtin "object.__class__")))
    (xy_NotTurn:PySem.W.typeIn K (.ref x_NotTurn)=some (.type "type"))
    (xk_NotTurn:PySem.W.isClsIn K x_NotTurn=true)
    (xn_NoDoubt:PySem.W.excIn K x_NoDoubt valB "ValueError.__new__"=true)
    (xg_NoDoubt:PySem.W.findIn K (.ref x_NoDoubt) "__getattribute__"=some (some (.builtin "BaseException.__getattribute__")))
    (xh_NoDoubt:PySem.W.findIn K (.ref x_NoDoubt) "__getattr__"=some none)
    (xb_NoDoubt:PySem.W.mroIn K x_NoDoubt (.type "BaseException")=some true)
    (xo_NoDoubt:PySem.W.mroIn K x_NoDoubt (.type "object")=some true)
    (xc_NoDoubt:PySem.W.findIn K (.ref x_NoDoubt) "__class__"=some (some (.builtin "object.__class__")))
    (xy_NoDoubt:PySem.W.typeIn K (.ref x_NoDoubt)=some (.type "type"))
    (xk_NoDoubt:PySem.W.isClsIn K x_NoDoubt=true)
    (xn_NoReply:PySem.W.excIn K x_NoReply valB "ValueError.__new__"=true)
    (xg_NoReply:PySem.W.findIn K (.ref x_NoReply) "__getattribute__"=some (some (.builtin "BaseException.__getattribute__")))
    (xh_NoReply:PySem.W.findIn K (.ref x_NoReply) "__getattr__"=some none)
    (xb_NoReply:PySem.W.mroIn K x_NoReply (.type "BaseException")=some true)
    (xo_NoReply:PySem.W.mroIn K x_NoReply (.type "object")=some true)
    (xc_NoReply:PySem.W.findIn K (.ref x_NoReply) "__class__"=some (some (.builtin "object.__class__")))
    (xy_NoReply:PySem.W.typeIn K (.ref x_NoReply)=some (.type "type"))
    (xk_NoReply:PySem.W.isClsIn K x_NoReply=true)
    (xy_NoAsk:PySem.W.typeIn K (.ref x_NoAsk)=some (.type "type"))
    (xk_NoAsk:PySem.W.isClsIn K x_NoAsk=true)
    (xy_NoWord:PySem.W.typeIn K (.ref x_NoWord)=some (.type "type"))
    (xk_NoWord:PySem.W.isClsIn K x_NoWord=true)
    (xy_NotGuess:PySem.W.typeIn K (.ref x_NotGuess)=some (.type "type"))
    (xk_NotGuess:PySem.W.isClsIn K x_NotGuess=true)
    (xy_NotTold:PySem.W.typeIn K (.ref x_NotTold)=some (.type "type"))
    (xk_NotTold:PySem.W.isClsIn K x_NotTold=true)
    (xv_NotTurn:PySem.W.mroIn K x_NotTurn (.type "ValueError")=some true)
    (xs_NotTurn_HallError:PySem.W.mroIn K x_NotTurn (.ref x_HallError)=some true)
    (xs_NotTurn_RowError:PySem.W.mroIn K x_NotTurn (.ref x_RowError)=some false)
    (ne_NotTurn_RowError:(x_NotTurn==x_RowError)=false)
    (xs_NotTurn_NotTurn:PySem.W.mroIn K x_NotTurn (.ref x_NotTurn)=some true)
    (xs_NotTurn_NoDoubt:PySem.W.mroIn K x_NotTurn (.ref x_NoDoubt)=some false)
    (ne_NotTurn_NoDoubt:(x_NotTurn==x_NoDoubt)=false)
    (xs_NotTurn_NoReply:PySem.W.mroIn K x_NotTurn (.ref x_NoReply)=some false)
    (ne_NotTurn_NoReply:(x_NotTurn==x_NoReply)=false)
    (xs_NotTurn_NoAsk:PySem.W.mroIn K x_NotTurn (.ref x_NoAsk)=some false)
    (ne_NotTurn_NoAsk:(x_NotTurn==x_NoAsk)=false)
    (xs_NotTurn_NoWord:PySem.W.mroIn K x_NotTurn (.ref x_NoWord)=some false)
    (ne_NotTurn_NoWord:(x_NotTurn==x_NoWord)=false)
    (xs_NotTurn_NotGuess:PySem.W.mroIn K x_NotTurn (.ref x_NotGuess)=some false)
    (ne_NotTurn_NotGuess:(x_NotTurn==x_NotGuess)=false)
    (xs_NotTurn_NotTold:PySem.W.mroIn K x_NotTurn (.ref x_NotTold)=some false)
    (ne_NotTurn_NotTold:(x_NotTurn==x_NotTold)=false)
    (xv_NoDoubt:PySem.W.mroIn K x_NoDoubt (.type "ValueError")=some true)
    (xs_NoDoubt_HallError:PySem.W.mroIn K x_NoDoubt (.ref x_HallError)=some true)
    (xs_NoDoubt_RowError:PySem.W.mroIn K x_NoDoubt (.ref x_RowError)=some false)
    (ne_NoDoubt_RowError:(x_NoDoubt==x_RowError)=false)
    (xs_NoDoubt_NotTurn:PySem.W.mroIn K x_NoDoubt (.ref x_NotTurn)=some false)
    (ne_NoDoubt_NotTurn:(x_NoDoubt==x_NotTurn)=false)
    (xs_NoDoubt_NoDoubt:PySem.W.mroIn K x_NoDoubt (.ref x_NoDoubt)=some true)
    (xs_NoDoubt_NoReply:PySem.W.mroIn K x_NoDoubt (.ref x_NoReply)=some false)
    (ne_NoDoubt_NoReply:(x_NoDoubt==x_NoReply)=false)
    (xs_NoDoubt_NoAsk:PySem.W.mroIn K x_NoDoubt (.ref x_NoAsk)=some false)
    (ne_NoDoubt_NoAsk:(x_NoDoubt==x_NoAsk)=false)
    (xs_NoDoubt_NoWord:PySem.W.mroIn K x_NoDoubt (.ref x_NoWord)=some false)
    (ne_NoDoubt_NoWord:(x_NoDoubt==x_NoWord)=false)
    (xs_NoDoubt_NotGuess:PySem.W.mroIn K x_NoDoubt (.ref x_NotGuess)=some false)
    (ne_NoDoubt_NotGuess:(x_NoDoubt==x_NotGuess)=false)
    (xs_NoDoubt_NotTold:PySem.W.mroIn K x_NoDoubt (.ref x_NotTold)=some false)
    (ne_NoDoubt_NotTold:(x_NoDoubt==x_NotTold)=false)
    (xv_NoReply:PySem.W.mroIn K x_NoReply (.type "ValueError")=some true)
    (xs_NoReply_HallError:PySem.W.mroIn K x_NoReply (.ref x_HallError)=some true)
    (xs_NoReply_RowError:PySem.W.mroIn K x_NoReply (.ref x_RowError)=some false)
    (ne_NoReply_RowError:(x_NoReply==x_RowError)=false)
    (xs_NoReply_NotTurn:PySem.W.mroIn K x_NoReply (.ref x_NotTurn)=some false)
    (ne_NoReply_NotTurn:(x_NoReply==x_NotTurn)=false)
    (xs_NoReply_NoDoubt:PySem.W.mroIn K x_NoReply (.ref x_NoDoubt)=some false)
    (ne_NoReply_NoDoubt:(x_NoReply==x_NoDoubt)=false)
    (xs_NoReply_NoReply:PySem.W.mroIn K x_NoReply (.ref x_NoReply)=some true)
    (xs_NoReply_NoAsk:PySem.W.mroIn K x_NoReply (.ref x_NoAsk)=some false)
    (ne_NoReply_NoAsk:(x_NoReply==x_NoAsk)=false)
    (xs_NoReply_NoWord:PySem.W.mroIn K x_NoReply (.ref x_NoWord)=some false)
    (ne_NoReply_NoWord:(x_NoReply==x_NoWord)=false)
    (xs_NoReply_NotGuess:PySem.W.mroIn K x_NoReply (.ref x_NotGuess)=some false)
    (ne_NoReply_NotGuess:(x_NoReply==x_NotGuess)=false)
    (xs_NoReply_NotTold:PySem.W.mroIn K x_NoReply (.ref x_NotTold)=some false)
    (ne_NoReply_NotTold:(x_NoReply==x_NotTold)=false)
    (a0:PySem.W.nsIn K mainGlobals "_law_shaped"=some (some (.ref f0)))
    (l0:K.lookup f0=some ⟨oc0,od0,.func (PySem.W.fnOf "_law_shaped" "_law_shaped" (Qq ZT) (Qm ZT) (Qe ZT) .none kV0 dc0 pm0 an0 cd0 ct0),sl0⟩)
    (c0:PySem.W.codeIn K cd0 "_law_shaped"=true)
    (k0:PySem.W.keepIn K (.ref f0)=true)
    (a1:PySem.W.nsIn K mainGlobals "_law_cell_at"=some (some (.ref f1)))
    (l1:K.lookup f1=some ⟨oc1,od1,.func (PySem.W.fnOf "_law_cell_at" "_law_cell_at" (Qq ZE) (Qm ZE) (Qe ZE) .none kV1 dc1 pm1 an1 cd1 ct1),sl1⟩)
    (c1:PySem.W.codeIn K cd1 "_law_cell_at"=true)
    (k1:PySem.W.keepIn K (.ref f1)=true)
    (a2:PySem.W.nsIn K mainGlobals "_law_rule_of"=some (some (.ref f2)))
    (l2:K.lookup f2=some ⟨oc2,od2,.func (PySem.W.fnOf "_law_rule_of" "_law_rule_of" (Qq QZ) (Qm QZ) (Qe QZ) .none kV2 dc2 pm2 an2 cd2 ct2),sl2⟩)
    (c2:PySem.W.codeIn K cd2 "_law_rule_of"=true)
    (k2:PySem.W.keepIn K (.ref f2)=true)
    (a3:PySem.W.nsIn K mainGlobals "_law_book_of"=some (some (.ref f3)))
    (l3:K.lookup f3=some ⟨oc3,od3,.func (PySem.W.fnOf "_law_book_of" "_law_book_of" (Qq ZF) (Qm ZF) (Qe ZF) .none kV3 dc3 pm3 an3 cd3 ct3),sl3⟩)
    (c3:PySem.W.codeIn K cd3 "_law_book_of"=true)
    (k3:PySem.W.keepIn K (.ref f3)=true)
    (a4:PySem.W.nsIn K mainGlobals "_law_yields"=some (some (.ref f4)))
    (l4:K.lookup f4=some ⟨oc4,od4,.func (PySem.W.fnOf "_law_yields" "_law_yields" (Qq QO) (Qm QO) (Qe QO) .none kV4 dc4 pm4 an4 cd4 ct4),sl4⟩)
    (c4:PySem.W.codeIn K cd4 "_law_yields"=true)
    (k4:PySem.W.keepIn K (.ref f4)=true)
    (a5:PySem.W.nsIn K mainGlobals "_law_hit"=some (some (.ref f5)))
    (l5:K.lookup f5=some ⟨oc5,od5,.func (PySem.W.fnOf "_law_hit" "_law_hit" (Qq Yf) (Qm Yf) (Qe Yf) .none kV5 dc5 pm5 an5 cd5 ct5),sl5⟩)
    (c5:PySem.W.codeIn K cd5 "_law_hit"=true)
    (k5:PySem.W.keepIn K (.ref f5)=true)
    (a6:PySem.W.findIn K (.ref C) "__init__"=some (some (.ref f6)))
    (i6:PySem.W.isFn K (.ref f6)=true)
    (l6:K.lookup f6=some ⟨oc6,od6,.func (PySem.W.fnOf "__init__" "Talk.__init__" (Qq Zo) (Qm Zo) (Qe Zo) .none kV6 dc6 pm6 an6 cd6 ct6),sl6⟩)
    (c6:PySem.W.codeIn K cd6 "Talk.__init__"=true)
    (k6:PySem.W.keepIn K (.ref f6)=true)
    (a7:PySem.W.nsIn K mainGlobals "_law_ground"=some (some (.ref f7)))
    (l7:K.lookup f7=some ⟨oc7,od7,.func (PySem.W.fnOf "_law_ground" "_law_ground" (Qq ZU) (Qm ZU) (Qe ZU) .none kV7 dc7 pm7 an7 cd7 ct7),sl7⟩)
    (c7:PySem.W.codeIn K cd7 "_law_ground"=true)
    (k7:PySem.W.keepIn K (.ref f7)=true)
    (a8:PySem.W.nsIn K mainGlobals "_law_named"=some (some (.ref f8)))
    (l8:K.lookup f8=some ⟨oc8,od8,.func (PySem.W.fnOf "_law_named" "_law_named" (Qq ZN) (Qm ZN) (Qe ZN) .none kV8 dc8 pm8 an8 cd8 ct8),sl8⟩)
    (c8:PySem.W.codeIn K cd8 "_law_named"=true)
    (k8:PySem.W.keepIn K (.ref f8)=true)
    (a9:PySem.W.findIn K (.ref C) "turn"=some (some (.ref f9)))
    (i9:PySem.W.isFn K (.ref f9)=true)
    (l9:K.lookup f9=some ⟨oc9,od9,.func (PySem.W.fnOf "turn" "Talk.turn" (Qq Yy) (Qm Yy) (Qe Yy) .none kV9 dc9 pm9 an9 cd9 ct9),sl9⟩)
    (c9:PySem.W.codeIn K cd9 "Talk.turn"=true)
    (k9:PySem.W.keepIn K (.ref f9)=true)
    (a10:PySem.W.nsIn K mainGlobals "places"=some (some (.ref f10)))
    (l10:K.lookup f10=some ⟨oc10,od10,.func (PySem.W.fnOf "places" "places" (Qq Xh) (Qm Xh) (Qe Xh) .none kV10 dc10 pm10 an10 cd10 ct10),sl10⟩)
    (c10:PySem.W.codeIn K cd10 "places"=true)
    (k10:PySem.W.keepIn K (.ref f10)=true)
    (a11:PySem.W.findIn K (.ref C) "aims"=some (some (.ref f11)))
    (i11:PySem.W.isFn K (.ref f11)=true)
    (l11:K.lookup f11=some ⟨oc11,od11,.func (PySem.W.fnOf "aims" "Talk.aims" (Qq Yz) (Qm Yz) (Qe Yz) .none kV11 dc11 pm11 an11 cd11 ct11),sl11⟩)
    (c11:PySem.W.codeIn K cd11 "Talk.aims"=true)
    (k11:PySem.W.keepIn K (.ref f11)=true)
    (a12:PySem.W.nsIn K mainGlobals "mask_of"=some (some (.ref f12)))
    (l12:K.lookup f12=some ⟨oc12,od12,.func (PySem.W.fnOf "mask_of" "mask_of" (Qq Xp) (Qm Xp) (Qe Xp) .none kV12 dc12 pm12 an12 cd12 ct12),sl12⟩)
    (c12:PySem.W.codeIn K cd12 "mask_of"=true)
    (k12:PySem.W.keepIn K (.ref f12)=true)
    (a13:PySem.W.nsIn K mainGlobals "known_after"=some (some (.ref f13)))
    (l13:K.lookup f13=some ⟨oc13,od13,.func (PySem.W.fnOf "known_after" "known_after" (Qq Zg) (Qm Zg) (Qe Zg) .none kV13 dc13 pm13 an13 cd13 ct13),sl13⟩)
    (c13:PySem.W.codeIn K cd13 "known_after"=true)
    (k13:PySem.W.keepIn K (.ref f13)=true)
    (a14:PySem.W.nsIn K mainGlobals "inside"=some (some (.ref f14)))
    (l14:K.lookup f14=some ⟨oc14,od14,.func (PySem.W.fnOf "inside" "inside" (Qq Qac) (Qm Qac) (Qe Qac) .none kV14 dc14 pm14 an14 cd14 ct14),sl14⟩)
    (c14:PySem.W.codeIn K cd14 "inside"=true)
    (k14:PySem.W.keepIn K (.ref f14)=true)
    (a15:PySem.W.nsIn K mainGlobals "bringing_steps"=some (some (.ref f15)))
    (l15:K.lookup f15=some ⟨oc15,od15,.func (PySem.W.fnOf "bringing_steps" "bringing_steps" (Qq QT) (Qm QT) (Qe QT) .none kV15 dc15 pm15 an15 cd15 ct15),sl15⟩)
    (c15:PySem.W.codeIn K cd15 "bringing_steps"=true)
    (k15:PySem.W.keepIn K (.ref f15)=true)
    (a16:PySem.W.nsIn K mainGlobals "yielded"=some (some (.ref f16)))
    (l16:K.lookup f16=some ⟨oc16,od16,.func (PySem.W.fnOf "yielded" "yielded" (Qq Xo) (Qm Xo) (Qe Xo) .none kV16 dc16 pm16 an16 cd16 ct16),sl16⟩)
    (c16:PySem.W.codeIn K cd16 "yielded"=true)
    (k16:PySem.W.keepIn K (.ref f16)=true)
    (a17:PySem.W.nsIn K mainGlobals "struck"=some (some (.ref f17)))
    (l17:K.lookup f17=some ⟨oc17,od17,.func (PySem.W.fnOf "struck" "struck" (Qq Xg) (Qm Xg) (Qe Xg) .none kV17 dc17 pm17 an17 cd17 ct17),sl17⟩)
    (c17:PySem.W.codeIn K cd17 "struck"=true)
    (k17:PySem.W.keepIn K (.ref f17)=true)
    (a18:PySem.W.findIn K (.ref C) "can_name"=some (some (.ref f18)))
    (i18:PySem.W.isFn K (.ref f18)=true)
    (l18:K.lookup f18=some ⟨oc18,od18,.func (PySem.W.fnOf "can_name" "Talk.can_name" (Qq Zn) (Qm Zn) (Qe Zn) .none kV18 dc18 pm18 an18 cd18 ct18),sl18⟩)
    (c18:PySem.W.codeIn K cd18 "Talk.can_name"=true)
    (k18:PySem.W.keepIn K (.ref f18)=true)
    (a19:PySem.W.findIn K (.ref C) "doubted"=some (some (.ref f19)))
    (i19:PySem.W.isFn K (.ref f19)=true)
    (l19:K.lookup f19=some ⟨oc19,od19,.func (PySem.W.fnOf "doubted" "Talk.doubted" (Qq ZI) (Qm ZI) (Qe ZI) .none kV19 dc19 pm19 an19 cd19 ct19),sl19⟩)
    (c19:PySem.W.codeIn K cd19 "Talk.doubted"=true)
    (k19:PySem.W.keepIn K (.ref f19)=true)
    (a20:PySem.W.findIn K (.ref C) "replied"=some (some (.ref f20)))
    (i20:PySem.W.isFn K (.ref f20)=true)
    (l20:K.lookup f20=some ⟨oc20,od20,.func (PySem.W.fnOf "replied" "Talk.replied" (Qq ZH) (Qm ZH) (Qe ZH) .none kV20 dc20 pm20 an20 cd20 ct20),sl20⟩)
    (c20:PySem.W.codeIn K cd20 "Talk.replied"=true)
    (k20:PySem.W.keepIn K (.ref f20)=true)
    (a21:PySem.W.nsIn K mainGlobals "_law_tried"=some (some (.ref f21)))
    (l21:K.lookup f21=some ⟨oc21,od21,.func (PySem.W.fnOf "_law_tried" "_law_tried" (Qq Yk) (Qm Yk) (Qe Yk) .none kV21 dc21 pm21 an21 cd21 ct21),sl21⟩)
    (c21:PySem.W.codeIn K cd21 "_law_tried"=true)
    (k21:PySem.W.keepIn K (.ref f21)=true)
    (a22:PySem.W.findIn K (.ref C) "said"=some (some (.ref f22)))
    (i22:PySem.W.isFn K (.ref f22)=true)
    (l22:K.lookup f22=some ⟨oc22,od22,.func (PySem.W.fnOf "said" "Talk.said" (Qq ZK) (Qm ZK) (Qe ZK) .none kV22 dc22 pm22 an22 cd22 ct22),sl22⟩)
    (c22:PySem.W.codeIn K cd22 "Talk.said"=true)
    (k22:PySem.W.keepIn K (.ref f22)=true)
    (a23:PySem.W.nsIn K mainGlobals "_law_whole"=some (some (.ref f23)))
    (l23:K.lookup f23=some ⟨oc23,od23,.func (PySem.W.fnOf "_law_whole" "_law_whole" (Qq Yi) (Qm Yi) (Qe Yi) .none kV23 dc23 pm23 an23 cd23 ct23),sl23⟩)
    (c23:PySem.W.codeIn K cd23 "_law_whole"=true)
    (k23:PySem.W.keepIn K (.ref f23)=true)
    (a24:PySem.W.nsIn K mainGlobals "_law_said"=some (some (.ref f24)))
    (l24:K.lookup f24=some ⟨oc24,od24,.func (PySem.W.fnOf "_law_said" "_law_said" (Qq Yx) (Qm Yx) (Qe Yx) .none kV24 dc24 pm24 an24 cd24 ct24),sl24⟩)
    (c24:PySem.W.codeIn K cd24 "_law_said"=true)
    (k24:PySem.W.keepIn K (.ref f24)=true)
    (a25:PySem.W.nsIn K mainGlobals "_law_waits"=some (some (.ref f25)))
    (l25:K.lookup f25=some ⟨oc25,od25,.func (PySem.W.fnOf "_law_waits" "_law_waits" (Qq Yj) (Qm Yj) (Qe Yj) .none kV25 dc25 pm25 an25 cd25 ct25),sl25⟩)
    (c25:PySem.W.codeIn K cd25 "_law_waits"=true)
    (k25:PySem.W.keepIn K (.ref f25)=true)
    (a26:PySem.W.nsIn K mainGlobals "_law_wins"=some (some (.ref f26)))
    (l26:K.lookup f26=some ⟨oc26,od26,.func (PySem.W.fnOf "_law_wins" "_law_wins" (Qq Yv) (Qm Yv) (Qe Yv) .none kV26 dc26 pm26 an26 cd26 ct26),sl26⟩)
    (c26:PySem.W.codeIn K cd26 "_law_wins"=true)
    (k26:PySem.W.keepIn K (.ref f26)=true)
    (a27:PySem.W.findIn K (.ref C) "now"=some (some (.ref f27)))
    (i27:PySem.W.isFn K (.ref f27)=true)
    (l27:K.lookup f27=some ⟨oc27,od27,.func (PySem.W.fnOf "now" "Talk.now" (Qq YY) (Qm YY) (Qe YY) .none kV27 dc27 pm27 an27 cd27 ct27),sl27⟩)
    (c27:PySem.W.codeIn K cd27 "Talk.now"=true)
    (k27:PySem.W.keepIn K (.ref f27)=true)
    (a28:PySem.W.findIn K (.ref C) "waiting"=some (some (.ref f28)))
    (i28:PySem.W.isFn K (.ref f28)=true)
    (l28:K.lookup f28=some ⟨oc28,od28,.func (PySem.W.fnOf "waiting" "Talk.waiting" (Qq ZG) (Qm ZG) (Qe ZG) .none kV28 dc28 pm28 an28 cd28 ct28),sl28⟩)
    (c28:PySem.W.codeIn K cd28 "Talk.waiting"=true)
    (k28:PySem.W.keepIn K (.ref f28)=true)
    (a29:PySem.W.nsIn K mainGlobals "all_guesses"=some (some (.ref f29)))
    (l29:K.lookup f29=some ⟨oc29,od29,.func (PySem.W.fnOf "all_guesses" "all_guesses" (Qq ZS) (Qm ZS) (Qe ZS) .none kV29 dc29 pm29 an29 cd29 ct29),sl29⟩)
    (c29:PySem.W.codeIn K cd29 "all_guesses"=true)
    (k29:PySem.W.keepIn K (.ref f29)=true)
    (a30:PySem.W.findIn K (.ref C) "winner"=some (some (.ref f30)))
    (i30:PySem.W.isFn K (.ref f30)=true)
    (l30:K.lookup f30=some ⟨oc30,od30,.func (PySem.W.fnOf "winner" "Talk.winner" (Qq ZV) (Qm ZV) (Qe ZV) .none kV30 dc30 pm30 an30 cd30 ct30),sl30⟩)
    (c30:PySem.W.codeIn K cd30 "Talk.winner"=true)
    (k30:PySem.W.keepIn K (.ref f30)=true)
    (a31:PySem.W.nsIn K mainGlobals "_law_seen"=some (some (.ref f31)))
    (l31:K.lookup f31=some ⟨oc31,od31,.func (PySem.W.fnOf "_law_seen" "_law_seen" (Qq Yw) (Qm Yw) (Qe Yw) .none kV31 dc31 pm31 an31 cd31 ct31),sl31⟩)
    (c31:PySem.W.codeIn K cd31 "_law_seen"=true)
    (k31:PySem.W.keepIn K (.ref f31)=true)
    (a32:PySem.W.nsIn K mainGlobals "_law_due"=some (some (.ref f32)))
    (l32:K.lookup f32=some ⟨oc32,od32,.func (PySem.W.fnOf "_law_due" "_law_due" (Qq YX) (Qm YX) (Qe YX) .none kV32 dc32 pm32 an32 cd32 ct32),sl32⟩)
    (c32:PySem.W.codeIn K cd32 "_law_due"=true)
    (k32:PySem.W.keepIn K (.ref f32)=true)
    (a33:PySem.W.nsIn K mainGlobals "law"=some (some (.ref f33)))
    (l33:K.lookup f33=some ⟨oc33,od33,.func (PySem.W.fnOf "law" "law" (Qq QbO) (Qm QbO) (Qe QbO) .none kV33 dc33 pm33 an33 cd33 ct33),sl33⟩)
    (c33:PySem.W.codeIn K cd33 "law"=true)
    (k33:PySem.W.keepIn K (.ref f33)=true)
    (z_ValueError:PySem.W.nsIn K mainGlobals "ValueError"=some none)
    (z_all:PySem.W.nsIn K mainGlobals "all"=some none)
    (z_bool:PySem.W.nsIn K mainGlobals "bool"=some none)
    (z_enumerate:PySem.W.nsIn K mainGlobals "enumerate"=some none)
    (z_int:PySem.W.nsIn K mainGlobals "int"=some none)
    (z_isinstance:PySem.W.nsIn K mainGlobals "isinstance"=some none)
    (z_len:PySem.W.nsIn K mainGlobals "len"=some none)
    (z_list:PySem.W.nsIn K mainGlobals "list"=some none)
    (z_range:PySem.W.nsIn K mainGlobals "range"=some none)
    (z_str:PySem.W.nsIn K mainGlobals "str"=some none)
    (z_sum:PySem.W.nsIn K mainGlobals "sum"=some none)
    (z_tuple:PySem.W.nsIn K mainGlobals "tuple"=some none)
    : ∃ fd:FuncData,(∀ (s:Shared) (v:Value),BindsTo s fd ⟨[v],[]⟩ [("script",v)])∧∀ base:Heap,K.In base→base.Ns mainGlobals mg→FnOk l.prog w K mg base CX0 8 fa fd ["script"] (spM K 1 Qcc):=by
  have e:=hfa.symm.trans (PySem.W.mg_of X G a33)
  cases e
  have T:Txt mg:=⟨PySem.W.mg_none_of X G z_ValueError,PySem.W.mg_none_of X G z_all,PySem.W.mg_none_of X G z_bool,PySem.W.mg_none_of X G z_enumerate,PySem.W.mg_none_of X G z_int,PySem.W.mg_none_of X G z_isinstance,PySem.W.mg_none_of X G z_len,PySem.W.mg_none_of X G z_list,PySem.W.mg_none_of X G z_range,PySem.W.mg_none_of X G z_str,PySem.W.mg_none_of X G z_sum,PySem.W.mg_none_of X G z_tuple⟩
  have CL:Cls K C:=⟨pC,hC,oC,sC⟩
  have W:TFld K C:=⟨⟨CL,n_book⟩,⟨CL,n_held⟩,⟨CL,n_unanswered⟩,⟨CL,n_moves⟩⟩
  let CA:=exC [x_HallError,x_RowError,x_NotTurn,x_NoDoubt,x_NoReply,x_NoAsk,x_NoWord,x_NotGuess,x_NotTold]
  have X_HallError:XCl K x_HallError:=⟨xg_HallError,xh_HallError,xb_HallError,xo_HallError,xc_HallError,isn,ist⟩
  have X_NotTurn:XCl K x_NotTurn:=⟨xg_NotTurn,xh_NotTurn,xb_NotTurn,xo_NotTurn,xc_NotTurn,isn,ist⟩
  have X_NoDoubt:XCl K x_NoDoubt:=⟨xg_NoDoubt,xh_NoDoubt,xb_NoDoubt,xo_NoDoubt,xc_NoDoubt,isn,ist⟩
  have X_NoReply:XCl K x_NoReply:=⟨xg_NoReply,xh_NoReply,xb_NoReply,xo_NoReply,xc_NoReply,isn,ist⟩
  have V:WExc K mg CA:=⟨PySem.W.mg_of X G xa_HallError,PySem.W.mg_of X G xa_RowError,PySem.W.mg_of X G xa_NotTurn,PySem.W.mg_of X G xa_NoDoubt,PySem.W.mg_of X G xa_NoReply,PySem.W.mg_of X G xa_NoAsk,PySem.W.mg_of X G xa_NoWord,PySem.W.mg_of X G xa_NotGuess,PySem.W.mg_of X G xa_NotTold,xn_NotTurn,xn_NoDoubt,xn_NoReply,⟨X_HallError,xy_HallError⟩,(QC xs_NotTurn_HallError (QC xs_NoDoubt_HallError (QC xs_NoReply_HallError Qah))),(QC ⟨X_NotTurn,YU xk_NoReply xy_NoReply xs_NotTurn_NoReply ne_NotTurn_NoReply⟩ (QC ⟨X_NoDoubt,YU xk_NoReply xy_NoReply xs_NoDoubt_NoReply ne_NoDoubt_NoReply⟩ (QC ⟨X_NoReply,kit_t xk_NoReply xy_NoReply xs_NoReply_NoReply⟩ Qah))),(QC ⟨X_NotTurn,YU xk_NoDoubt xy_NoDoubt xs_NotTurn_NoDoubt ne_NotTurn_NoDoubt⟩ (QC ⟨X_NoDoubt,kit_t xk_NoDoubt xy_NoDoubt xs_NoDoubt_NoDoubt⟩ (QC ⟨X_NoReply,YU xk_NoDoubt xy_NoDoubt xs_NoReply_NoDoubt ne_NoReply_NoDoubt⟩ Qah))),(QC ⟨X_NotTurn,kit_t xk_NotTurn xy_NotTurn xs_NotTurn_NotTurn⟩ (QC ⟨X_NoDoubt,YU xk_NotTurn xy_NotTurn xs_NoDoubt_NotTurn ne_NoDoubt_NotTurn⟩ (QC ⟨X_NoReply,YU xk_NotTurn xy_NotTurn xs_NoReply_NotTurn ne_NoReply_NotTurn⟩ Qah))),(QC ⟨X_NotTurn,YU xk_NotTold xy_NotTold xs_NotTurn_NotTold ne_NotTurn_NotTold⟩ (QC ⟨X_NoDoubt,YU xk_NotTold xy_NotTold xs_NoDoubt_NotTold ne_NoDoubt_NotTold⟩ (QC ⟨X_NoReply,YU xk_NotTold xy_NotTold xs_NoReply_NotTold ne_NoReply_NotTold⟩ Qah))),(QC ⟨X_NotTurn,YU xk_NotGuess xy_NotGuess xs_NotTurn_NotGuess ne_NotTurn_NotGuess⟩ (QC ⟨X_NoDoubt,YU xk_NotGuess xy_NotGuess xs_NoDoubt_NotGuess ne_NoDoubt_NotGuess⟩ (QC ⟨X_NoReply,YU xk_NotGuess xy_NotGuess xs_NoReply_NotGuess ne_NoReply_NotGuess⟩ Qah))),(QC ⟨X_NotTurn,YU xk_NoWord xy_NoWord xs_NotTurn_NoWord ne_NotTurn_NoWord⟩ (QC ⟨X_NoDoubt,YU xk_NoWord xy_NoWord xs_NoDoubt_NoWord ne_NoDoubt_NoWord⟩ (QC ⟨X_NoReply,YU xk_NoWord xy_NoWord xs_NoReply_NoWord ne_NoReply_NoWord⟩ Qah))),(QC ⟨X_NotTurn,YU xk_NoAsk xy_NoAsk xs_NotTurn_NoAsk ne_NotTurn_NoAsk⟩ (QC ⟨X_NoDoubt,YU xk_NoAsk xy_NoAsk xs_NoDoubt_NoAsk ne_NoDoubt_NoAsk⟩ (QC ⟨X_NoReply,YU xk_NoAsk xy_NoAsk xs_NoReply_NoAsk ne_NoReply_NoAsk⟩ Qah))),(QC ⟨X_NotTurn,YU xk_RowError xy_RowError xs_NotTurn_RowError ne_NotTurn_RowError⟩ (QC ⟨X_NoDoubt,YU xk_RowError xy_RowError xs_NoDoubt_RowError ne_NoDoubt_RowError⟩ (QC ⟨X_NoReply,YU xk_RowError xy_RowError xs_NoReply_RowError ne_NoReply_RowError⟩ Qah))),(QC ⟨X_NotTurn,kit_v (by kernel_rfl) xv_NotTurn⟩ (QC ⟨X_NoDoubt,kit_v (by kernel_rfl) xv_NoDoubt⟩ (QC ⟨X_NoReply,kit_v (by kernel_rfl) xv_NoReply⟩ Qah)))⟩
  have F0:=QI (st:=ZT) l0 c0 k0
  have b0:=F0.binds (ps:=["shape","banes","guesses"]) fun _ _ _ _ _ _ us hl=>match us,hl with | [_,_,_],_=>rfl
  have F1:=QI (st:=ZE) l1 c1 k1
  have b1:=F1.binds (ps:=["script","k"]) fun _ _ _ _ _ _ us hl=>match us,hl with | [_,_],_=>rfl
  have F2:=QI (st:=QZ) l2 c2 k2
  have b2:=F2.binds (ps:=["cell","guesses","words"]) fun _ _ _ _ _ _ us hl=>match us,hl with | [_,_,_],_=>rfl
  have F3:=QI (st:=ZF) l3 c3 k3
  have b3:=F3.binds (ps:=["script","guesses","words","cut"]) fun _ _ _ _ _ _ us hl=>match us,hl with | [_,_,_,_],_=>rfl
  have F4:=QI (st:=QO) l4 c4 k4
  have b4:=F4.binds (ps:=["book","held"]) fun _ _ _ _ _ _ us hl=>match us,hl with | [_,_],_=>rfl
  have F5:=QI (st:=Yf) l5 c5 k5
  have b5:=F5.binds (ps:=["book","held"]) fun _ _ _ _ _ _ us hl=>match us,hl with | [_,_],_=>rfl
  have F6:=QI (st:=Zo) l6 c6 k6
  have b6:=F6.binds (ps:=["self","book","held"]) fun _ _ _ _ _ _ us hl=>match us,hl with | [_,_,_],_=>rfl
  have F7:=QI (st:=ZU) l7 c7 k7
  have b7:=F7.binds (ps:=["held","against"]) fun _ _ _ _ _ _ us hl=>match us,hl with | [_,_],_=>rfl
  have F8:=QI (st:=ZN) l8 c8 k8
  have b8:=F8.binds (ps:=["cell","ground","guesses"]) fun _ _ _ _ _ _ us hl=>match us,hl with | [_,_,_],_=>rfl
  have F9:=QI (st:=Yy) l9 c9 k9
  have b9:=F9.binds (ps:=["self"]) fun _ _ _ _ _ _ us hl=>match us,hl with | [_],_=>rfl
  have F10:=QI (st:=Xh) l10 c10 k10
  have b10:=F10.binds (ps:=["mask"]) fun _ _ _ _ _ _ us hl=>match us,hl with | [_],_=>rfl
  have F11:=QI (st:=Yz) l11 c11 k11
  have b11:=F11.binds (ps:=["self"]) fun _ _ _ _ _ _ us hl=>match us,hl with | [_],_=>rfl
  have F12:=QI (st:=Xp) l12 c12 k12
  have b12:=F12.binds (ps:=["row"]) fun _ _ _ _ _ _ us hl=>match us,hl with | [_],_=>rfl
  have F13:=QI (st:=Zg) l13 c13 k13
  have b13:=F13.binds (ps:=["book","held","steps"]) fun _ _ _ _ _ _ us hl=>match us,hl with | [_,_,_],_=>rfl
  have F14:=QI (st:=Qac) l14 c14 k14
  have b14:=F14.binds (ps:=["mask","other"]) fun _ _ _ _ _ _ us hl=>match us,hl with | [_,_],_=>rfl
  have F15:=QI (st:=QT) l15 c15 k15
  have b15:=F15.binds (ps:=["book","held"]) fun _ _ _ _ _ _ us hl=>match us,hl with | [_,_],_=>rfl
  have F16:=QI (st:=Xo) l16 c16 k16
  have b16:=F16.binds (ps:=["book","held"]) fun _ _ _ _ _ _ us hl=>match us,hl with | [_,_],_=>rfl
  have F17:=QI (st:=Xg) l17 c17 k17
  have b17:=F17.binds (ps:=["book","held"]) fun _ _ _ _ _ _ us hl=>match us,hl with | [_,_],_=>rfl
  have F18:=QI (st:=Zn) l18 c18 k18
  have b18:=F18.binds (ps:=["self","guess","striker"]) fun _ _ _ _ _ _ us hl=>match us,hl with | [_,_,_],_=>rfl
  have F19:=QI (st:=ZI) l19 c19 k19
  have b19:=F19.binds (ps:=["self","guess","striker"]) fun _ _ _ _ _ _ us hl=>match us,hl with | [_,_,_],_=>rfl
  have F20:=QI (st:=ZH) l20 c20 k20
  have b20:=F20.binds (ps:=["self","guess","striker"]) fun _ _ _ _ _ _ us hl=>match us,hl with | [_,_,_],_=>rfl
  have F21:=QI (st:=Yk) l21 c21 k21
  have b21:=F21.binds (ps:=["talk","doubting","guess","striker"]) fun _ _ _ _ _ _ us hl=>match us,hl with | [_,_,_,_],_=>rfl
  have F22:=QI (st:=ZK) l22 c22 k22
  have b22:=F22.binds (ps:=["self"]) fun _ _ _ _ _ _ us hl=>match us,hl with | [_],_=>rfl
  have F23:=QI (st:=Yi) l23 c23 k23
  have b23:=F23.binds (ps:=["found"]) fun _ _ _ _ _ _ us hl=>match us,hl with | [_],_=>rfl
  have F24:=QI (st:=Yx) l24 c24 k24
  have b24:=F24.binds (ps:=["told","moves"]) fun _ _ _ _ _ _ us hl=>match us,hl with | [_,_],_=>rfl
  have F25:=QI (st:=Yj) l25 c25 k25
  have b25:=F25.binds (ps:=["told","against"]) fun _ _ _ _ _ _ us hl=>match us,hl with | [_,_],_=>rfl
  have F26:=QI (st:=Yv) l26 c26 k26
  have b26:=F26.binds (ps:=["found","hit","held","against"]) fun _ _ _ _ _ _ us hl=>match us,hl with | [_,_,_,_],_=>rfl
  have F27:=QI (st:=YY) l27 c27 k27
  have b27:=F27.binds (ps:=["self"]) fun _ _ _ _ _ _ us hl=>match us,hl with | [_],_=>rfl
  have F28:=QI (st:=ZG) l28 c28 k28
  have b28:=F28.binds (ps:=["self"]) fun _ _ _ _ _ _ us hl=>match us,hl with | [_],_=>rfl
  have F29:=QI (st:=ZS) l29 c29 k29
  have b29:=F29.binds (ps:=["book"]) fun _ _ _ _ _ _ us hl=>match us,hl with | [_],_=>rfl
  have F30:=QI (st:=ZV) l30 c30 k30
  have b30:=F30.binds (ps:=["self"]) fun _ _ _ _ _ _ us hl=>match us,hl with | [_],_=>rfl
  have F31:=QI (st:=Yw) l31 c31 k31
  have b31:=F31.binds (ps:=["talk","hit","held","against","order"]) fun _ _ _ _ _ _ us hl=>match us,hl with | [_,_,_,_,_],_=>rfl
  have F32:=QI (st:=YX) l32 c32 k32
  have b32:=F32.binds (ps:=["book","right","doubting","ground","guess","striker"]) fun _ _ _ _ _ _ us hl=>match us,hl with | [_,_,_,_,_,_],_=>rfl
  have F33:=QI (st:=QbO) l33 c33 k33
  refine ⟨PySem.W.fnOf "law" "law" (Qq QbO) (Qm QbO) (Qe QbO) .none kV33 dc33 pm33 an33 cd33 ct33,fun s v => .of_eq rfl,fun base _ _ => ?_⟩
  have q0:CalO l.prog w K mg base 1 "_law_shaped" 3 Zz:=⟨_,_,_,QdL T  F0,PySem.W.mg_of X G a0,k0,b0⟩
  have q1:Cal l.prog w K mg base 1 "_law_cell_at" 2 Qt:=⟨_,_,_,Qdp T  F1,PySem.W.mg_of X G a1,k1,b1⟩
  have q2:Cal l.prog w K mg base 1 "_law_rule_of" 3 QV:=⟨_,_,_,Qdo T  F2,PySem.W.mg_of X G a2,k2,b2⟩
  have q3:Cal l.prog w K mg base 2 "_law_book_of" 4 QW:=⟨_,_,_,Qdq T q0 q1 q2 F3,PySem.W.mg_of X G a3,k3,b3⟩
  have q4:Cal l.prog w K mg base 1 "_law_yields" 2 QY:=⟨_,_,_,QdK T  F4,PySem.W.mg_of X G a4,k4,b4⟩
  have q5:Cal l.prog w K mg base 2 "_law_hit" 2 ZQ:=⟨_,_,_,Qgs T q4 F5,PySem.W.mg_of X G a5,k5,b5⟩
  have q6:QjA l.prog w K mg base 1 C "moves" "Talk" 3 (QH C):=⟨_,_,_,QcD T W  F6,⟨mC,a6,i6,kC⟩,PySem.W.mg_of X G aC,b6⟩
  have q7:Cal l.prog w K mg base 1 "_law_ground" 2 QP:=⟨_,_,_,QdM T  F7,PySem.W.mg_of X G a7,k7,b7⟩
  have q8:Cal l.prog w K mg base 1 "_law_named" 3 Zq:=⟨_,_,_,QeF T  F8,PySem.W.mg_of X G a8,k8,b8⟩
  have q9:YV l.prog w K mg base 1 C "turn" 1 (QJ C):=⟨_,_,_,QfD T W  F9,CL,⟨a9,i9,k9⟩,b9⟩
  have q10:Cal l.prog w K mg base 1 "places" 1 XB:=⟨_,_,_,QiR T  F10,PySem.W.mg_of X G a10,k10,b10⟩
  have q11:YV l.prog w K mg base 1 C "aims" 1 (Zt C):=⟨_,_,_,QfF T W  F11,CL,⟨a11,i11,k11⟩,b11⟩
  have q12:Cal l.prog w K mg base 1 "mask_of" 1 Zk:=⟨_,_,_,Qhv T  F12,PySem.W.mg_of X G a12,k12,b12⟩
  have q13:Cal l.prog w K mg base 2 "known_after" 3 Zx:=⟨_,_,_,QdI T q12 F13,PySem.W.mg_of X G a13,k13,b13⟩
  have q14:Cal l.prog w K mg base 1 "inside" 2 Ys:=⟨_,_,_,QiS T  F14,PySem.W.mg_of X G a14,k14,b14⟩
  have q15:Cal l.prog w K mg base 2 "bringing_steps" 2 QU:=⟨_,_,_,QbN T q12 q14 F15,PySem.W.mg_of X G a15,k15,b15⟩
  have q16:Cal l.prog w K mg base 3 "yielded" 2 YZ:=⟨_,_,_,Qhu T q13 q15 F16,PySem.W.mg_of X G a16,k16,b16⟩
  have q17:Cal l.prog w K mg base 4 "struck" 2 YL:=⟨_,_,_,QiQ T q12 q14 q16 F17,PySem.W.mg_of X G a17,k17,b17⟩
  have q18:YV l.prog w K mg base 5 C "can_name" 3 (QG C):=⟨_,_,_,QcC T W q10 q11 q17 F18,CL,⟨a18,i18,k18⟩,b18⟩
  have q19:QhQ l.prog w K mg base 6 C "moves" "doubted" 3 CA (QB C):=⟨_,_,_,Qdt T W V q9 q18 F19,CL,⟨a19,i19,k19⟩,b19⟩
  have q20:QhQ l.prog w K mg base 6 C "moves" "replied" 3 CA (QA C):=⟨_,_,_,Qds T W V q9 q18 F20,CL,⟨a20,i20,k20⟩,b20⟩
  have q21:CalXV l.prog w K mg base 7 C "moves" "_law_tried" 4 (ZP C):=⟨_,_,_,QeE T W V q19 q20 F21,PySem.W.mg_of X G a21,k21,b21⟩
  have q22:YV l.prog w K mg base 1 C "said" 1 (Zi C):=⟨_,_,_,QfE T W  F22,CL,⟨a22,i22,k22⟩,b22⟩
  have qc22:CalCp l.prog w K mg base 1 C "moves" "said":=⟨_,_,_,QfI T W F22,CL,⟨a22,i22,k22⟩,b22⟩
  have q23:Cal l.prog w K mg base 1 "_law_whole" 1 QE:=⟨_,_,_,QeC T  F23,PySem.W.mg_of X G a23,k23,b23⟩
  have q24:Cal l.prog w K mg base 2 "_law_said" 2 Zh:=⟨_,_,_,QfC T q23 F24,PySem.W.mg_of X G a24,k24,b24⟩
  have q25:Cal l.prog w K mg base 2 "_law_waits" 2 ZO:=⟨_,_,_,QeD T q23 F25,PySem.W.mg_of X G a25,k25,b25⟩
  have q26:Cal l.prog w K mg base 2 "_law_wins" 4 Ye:=⟨_,_,_,QfA T q7 F26,PySem.W.mg_of X G a26,k26,b26⟩
  have q27:YV l.prog w K mg base 1 C "now" 1 (Yg C):=⟨_,_,_,Qgu T W  F27,CL,⟨a27,i27,k27⟩,b27⟩
  have q28:YV l.prog w K mg base 1 C "waiting" 1 (Zj C):=⟨_,_,_,Qdr T W  F28,CL,⟨a28,i28,k28⟩,b28⟩
  have q29:Cal l.prog w K mg base 1 "all_guesses" 1 Zy:=⟨_,_,_,QdJ T  F29,PySem.W.mg_of X G a29,k29,b29⟩
  have q30:YV l.prog w K mg base 5 C "winner" 1 (ZA C):=⟨_,_,_,QdN T W q9 q11 q17 q29 F30,CL,⟨a30,i30,k30⟩,b30⟩
  have q31:Cal l.prog w K mg base 6 "_law_seen" 5 (QQ C):=⟨_,_,_,QfB T W q9 q23 q25 q26 q27 q28 q30 F31,PySem.W.mg_of X G a31,k31,b31⟩
  have q32:Cal l.prog w K mg base 2 "_law_due" 6 Zr:=⟨_,_,_,Qgt T q4 F32,PySem.W.mg_of X G a32,k32,b32⟩
  exact (ok_law T W qc22 q1 q3 q5 q6 q7 q8 q21 q22 q24 q31 q32 F33).sw fun qs r h=>Qhq (hlaw C) h
theorem walk {l:PySem.W.OpenLaw} {q:Program} {loose:List Str} {XP:(Str→Option Value)→Heap→Prop} {YP:World→Heap→Prop} {d:DefRec} {K:Params→PySem.W.Frag} (hn:l.most=some 63) (hdf:d.params.defaults=[])
    (hY:∀ (w:World) (h:Heap),YP w h→(K w.params).In h) (hlaw:∀ ns:List Int,ns.length≤63→Qcc [.lst (ns.map .int)]=some (.bl true))
    (F:∀ (w:World) (mg:Str→Option Value) (fa:Addr) (h:Heap),(K w.params).In h→h.Ns mainGlobals mg→mg d.name=some (.ref fa) →
      ∃ fd:FuncData,(∀ (s:Shared) (u:Value),BindsTo s fd ⟨[u],[]⟩ [("script",u)])∧∀ base:Heap,(K w.params).In base→base.Ns mainGlobals mg→FnOk l.prog w (K w.params) mg base CX0 8 fa fd ["script"] (spM (K w.params) 1 Qcc)) :
    PySem.W.WalkO q loose XP YP l.row.toRowW d [] (fun f vs=>PySem.call f vs) :=
  L2.walk_of (n:=63) (k:=8) (x := "script") (CX:=fun _=>CX0) (sp:=fun w=>spM (K w.params) 1 Qcc) hn (by decide) hdf ⟨rfl,by decide,by decide⟩ hY F (fun w H a ns hl _ hS=>law_sp hlaw hl hS) fun _ _ _ _ _ z=>z
end K32
namespace K32
open PySem PySem.W L2 L2.PM DH HD
noncomputable def kk (P:Params):PySem.W.Frag :=
(nat_lit 2,⟨.none,none,(.dict #[] 0),#[]⟩) ::
(nat_lit 3,⟨(.type "dict"),none,(.dict #[en P "__name__" 165 (.str "law_doubthall_k32_moves" 512),en P "__doc__" 166 .none,en P "__package__" 167 .none,en P "__loader__" 168 (.builtin "__main__.__loader__#opaque"),en P "__spec__" 169 .none,en P "__annotations__" 170 (.ref 6),en P "__builtins__" 171 (.ref 4),en P "__file__" 173 (.str "/claim/cut.py" 172),en P "__cached__" 174 .none,en P "HallError" 206 (.ref 24),en P "RowError" 231 (.ref 44),en P "NotTurn" 247 (.ref 56),en P "NoDoubt" 263 (.ref 68),en P "NoReply" 279 (.ref 80),en P "NoAsk" 295 (.ref 92),en P "NoWord" 311 (.ref 104),en P "NotGuess" 327 (.ref 116),en P "NotTold" 343 (.ref 128),en P "places" 351 (.ref 135),en P "mask_of" 360 (.ref 142),en P "inside" 368 (.ref 149),en P "bringing_steps" 376 (.ref 154),en P "known_after" 382 (.ref 159),en P "yielded" 390 (.ref 166),en P "all_guesses" 399 (.ref 173),en P "struck" 407 (.ref 178),en P "Talk" 511 (.ref 258),en P "_law_cell_at" 521 (.ref 269),en P "_law_rule_of" 527 (.ref 274),en P "_law_shaped" 539 (.ref 281),en P "_law_book_of" 556 (.ref 288),en P "_law_yields" 562 (.ref 293),en P "_law_hit" 568 (.ref 298),en P "_law_tried" 582 (.ref 305),en P "_law_due" 594 (.ref 312),en P "_law_whole" 601 (.ref 319),en P "_law_said" 610 (.ref 326),en P "_law_ground" 618 (.ref 333),en P "_law_waits" 626 (.ref 340),en P "_law_wins" 636 (.ref 347),en P "_law_seen" 649 (.ref 354),en P "_law_named" 655 (.ref 359),en P "law" 661 (.ref 364)] 43),#[]⟩) ::
(nat_lit 23,⟨(.type "dict"),none,(.dict #[en P "__module__" 196 (.str "doubthall.errors" 187),en P "__firstlineno__" 200 (.int 2 199),en P "__static_attributes__" 201 (.ref 22),en P "__weakref__" 203 (.ref 25),en P "__doc__" 204 .none] 3),#[]⟩) ::
(nat_lit 24,⟨(.type "type"),none,(.cls { name := "HallError",bases:=[(.type "ValueError")],mro:=[(.ref 24),(.type "ValueError"),(.type "Exception"),(.type "BaseException"),(.type "object")],ns:=23,qualname := "HallError",hasDict:=true,subclasses:=[(.ref 44),(.ref 56),(.ref 68),(.ref 80),(.ref 92),(.ref 104),(.ref 116),(.ref 128)],abstract:=false,hasDel:=false }),#[some (.ref 15),none,some (.str "HallError" 189),some (.str "HallError" 197),some (.builtin "ValueError.__new__"),some (.bool true)]⟩) ::
(nat_lit 40,co "__init__" "RowError.__init__" 219 6 2 35 36 (.ref 37) (.ref 38) 39 224) ::
(nat_lit 41,fo "__init__" "RowError.__init__" (Zd (top 2) 0) .none .none (.str "doubthall.errors" 187) 40) ::
(nat_lit 43,⟨(.type "dict"),none,(.dict #[en P "__module__" 214 (.str "doubthall.errors" 187),en P "__firstlineno__" 218 (.int 4 217),en P "__init__" 226 (.ref 41),en P "__static_attributes__" 228 (.ref 42),en P "__doc__" 229 .none] 2),#[]⟩) ::
(nat_lit 44,⟨(.type "type"),none,(.cls { name := "RowError",bases:=[(.ref 24)],mro:=[(.ref 44),(.ref 24),(.type "ValueError"),(.type "Exception"),(.type "BaseException"),(.type "object")],ns:=43,qualname := "RowError",hasDict:=true,subclasses:=[],abstract:=false,hasDel:=false }),#[some (.ref 28),none,some (.str "RowError" 207),some (.str "RowError" 215),some (.builtin "ValueError.__new__"),some (.bool true)]⟩) ::
(nat_lit 55,⟨(.type "dict"),none,(.dict #[en P "__module__" 239 (.str "doubthall.errors" 187),en P "__firstlineno__" 243 (.int 8 242),en P "__static_attributes__" 244 (.ref 54),en P "__doc__" 245 .none] 2),#[]⟩) ::
(nat_lit 56,⟨(.type "type"),none,(.cls { name := "NotTurn",bases:=[(.ref 24)],mro:=[(.ref 56),(.ref 24),(.type "ValueError"),(.type "Exception"),(.type "BaseException"),(.type "object")],ns:=55,qualname := "NotTurn",hasDict:=true,subclasses:=[],abstract:=false,hasDel:=false }),#[some (.ref 47),none,some (.str "NotTurn" 232),some (.str "NotTurn" 240),some (.builtin "ValueError.__new__"),some (.bool true)]⟩) ::
(nat_lit 67,⟨(.type "dict"),none,(.dict #[en P "__module__" 255 (.str "doubthall.errors" 187),en P "__firstlineno__" 259 (.int 10 258),en P "__static_attributes__" 260 (.ref 66),en P "__doc__" 261 .none] 2),#[]⟩) ::
(nat_lit 68,⟨(.type "type"),none,(.cls { name := "NoDoubt",bases:=[(.ref 24)],mro:=[(.ref 68),(.ref 24),(.type "ValueError"),(.type "Exception"),(.type "BaseException"),(.type "object")],ns:=67,qualname := "NoDoubt",hasDict:=true,subclasses:=[],abstract:=false,hasDel:=false }),#[some (.ref 59),none,some (.str "NoDoubt" 248),some (.str "NoDoubt" 256),some (.builtin "ValueError.__new__"),some (.bool true)]⟩) ::
(nat_lit 79,⟨(.type "dict"),none,(.dict #[en P "__module__" 271 (.str "doubthall.errors" 187),en P "__firstlineno__" 275 (.int 12 274),en P "__static_attributes__" 276 (.ref 78),en P "__doc__" 277 .none] 2),#[]⟩) ::
(nat_lit 80,⟨(.type "type"),none,(.cls { name := "NoReply",bases:=[(.ref 24)],mro:=[(.ref 80),(.ref 24),(.type "ValueError"),(.type "Exception"),(.type "BaseException"),(.type "object")],ns:=79,qualname := "NoReply",hasDict:=true,subclasses:=[],abstract:=false,hasDel:=false }),#[some (.ref 71),none,some (.str "NoReply" 264),some (.str "NoReply" 272),some (.builtin "ValueError.__new__"),some (.bool true)]⟩) ::
(nat_lit 91,⟨(.type "dict"),none,(.dict #[en P "__module__" 287 (.str "doubthall.errors" 187),en P "__firstlineno__" 291 (.int 14 290),en P "__static_attributes__" 292 (.ref 90),en P "__doc__" 293 .none] 2),#[]⟩) ::
(nat_lit 92,⟨(.type "type"),none,(.cls { name := "NoAsk",bases:=[(.ref 24)],mro:=[(.ref 92),(.ref 24),(.type "ValueError"),(.type "Exception"),(.type "BaseException"),(.type "object")],ns:=91,qualname := "NoAsk",hasDict:=true,subclasses:=[],abstract:=false,hasDel:=false }),#[some (.ref 83),none,some (.str "NoAsk" 280),some (.str "NoAsk" 288),some (.builtin "ValueError.__new__"),some (.bool true)]⟩) ::
(nat_lit 103,⟨(.type "dict"),none,(.dict #[en P "__module__" 303 (.str "doubthall.errors" 187),en P "__firstlineno__" 307 (.int 16 306),en P "__static_attributes__" 308 (.ref 102),en P "__doc__" 309 .none] 2),#[]⟩) ::
(nat_lit 104,⟨(.type "type"),none,(.cls { name := "NoWord",bases:=[(.ref 24)],mro:=[(.ref 104),(.ref 24),(.type "ValueError"),(.type "Exception"),(.type "BaseException"),(.type "object")],ns:=103,qualname := "NoWord",hasDict:=true,subclasses:=[],abstract:=false,hasDel:=false }),#[some (.ref 95),none,some (.str "NoWord" 296),some (.str "NoWord" 304),some (.builtin "ValueError.__new__"),some (.bool true)]⟩) ::
(nat_lit 115,⟨(.type "dict"),none,(.dict #[en P "__module__" 319 (.str "doubthall.errors" 187),en P "__firstlineno__" 323 (.int 18 322),en P "__static_attributes__" 324 (.ref 114),en P "__doc__" 325 .none] 2),#[]⟩) ::
(nat_lit 116,⟨(.type "type"),none,(.cls { name := "NotGuess",bases:=[(.ref 24)],mro:=[(.ref 116),(.ref 24),(.type "ValueError"),(.type "Exception"),(.type "BaseException"),(.type "object")],ns:=115,qualname := "NotGuess",hasDict:=true,subclasses:=[],abstract:=false,hasDel:=false }),#[some (.ref 107),none,some (.str "NotGuess" 312),some (.str "NotGuess" 320),some (.builtin "ValueError.__new__"),some (.bool true)]⟩) ::
(nat_lit 127,⟨(.type "dict"),none,(.dict #[en P "__module__" 335 (.str "doubthall.errors" 187),en P "__firstlineno__" 339 (.int 20 338),en P "__static_attributes__" 340 (.ref 126),en P "__doc__" 341 .none] 2),#[]⟩) ::
(nat_lit 128,⟨(.type "type"),none,(.cls { name := "NotTold",bases:=[(.ref 24)],mro:=[(.ref 128),(.ref 24),(.type "ValueError"),(.type "Exception"),(.type "BaseException"),(.type "object")],ns:=127,qualname := "NotTold",hasDict:=true,subclasses:=[],abstract:=false,hasDel:=false }),#[some (.ref 119),none,some (.str "NotTold" 328),some (.str "NotTold" 336),some (.builtin "ValueError.__new__"),some (.bool true)]⟩) ::
(nat_lit 134,co "places" "places" 346 23 1 131 132 .none .none 133 349) ::
(nat_lit 135,fo "places" "places" (top 11) .none .none (.str "doubthall.masks" 344) 134) ::
(nat_lit 141,co "mask_of" "mask_of" 352 25 1 136 137 (.ref 138) (.ref 139) 140 358) ::
(nat_lit 142,fo "mask_of" "mask_of" (top 12) .none .none (.str "doubthall.masks" 344) 141) ::
(nat_lit 148,co "inside" "inside" 361 30 2 143 144 (.ref 145) (.ref 146) 147 366) ::
(nat_lit 149,fo "inside" "inside" (top 13) .none .none (.str "doubthall.masks" 344) 148) ::
(nat_lit 153,co "bringing_steps" "bringing_steps" 371 33 2 150 151 .none .none 152 374) ::
(nat_lit 154,fo "bringing_steps" "bringing_steps" (top 15) .none .none (.str "doubthall.yields" 369) 153) ::
(nat_lit 158,co "known_after" "known_after" 377 48 3 155 156 .none .none 157 380) ::
(nat_lit 159,fo "known_after" "known_after" (top 16) .none .none (.str "doubthall.yields" 369) 158) ::
(nat_lit 165,co "yielded" "yielded" 383 50 2 160 161 (.ref 162) (.ref 163) 164 388) ::
(nat_lit 166,fo "yielded" "yielded" (top 17) .none .none (.str "doubthall.yields" 369) 165) ::
(nat_lit 172,co "all_guesses" "all_guesses" 393 53 1 167 168 (.ref 169) (.ref 170) 171 397) ::
(nat_lit 173,fo "all_guesses" "all_guesses" (top 19) .none .none (.str "doubthall.reasons" 391) 172) ::
(nat_lit 177,co "struck" "struck" 402 56 2 174 175 .none .none 176 405) ::
(nat_lit 178,fo "struck" "struck" (top 21) .none .none (.str "doubthall.standing" 400) 177) ::
(nat_lit 191,co "__init__" "Talk.__init__" 422 62 3 186 187 (.ref 188) (.ref 189) 190 428) ::
(nat_lit 192,fo "__init__" "Talk.__init__" (Zd (top 23) 0) .none .none (.str "doubthall.talks" 408) 191) ::
(nat_lit 198,co "turn" "Talk.turn" 431 68 1 193 194 (.ref 195) (.ref 196) 197 435) ::
(nat_lit 199,fo "turn" "Talk.turn" (Zd (top 23) 1) .none .none (.str "doubthall.talks" 408) 198) ::
(nat_lit 205,co "now" "Talk.now" 438 71 1 200 201 (.ref 202) (.ref 203) 204 442) ::
(nat_lit 206,fo "now" "Talk.now" (Zd (top 23) 2) .none .none (.str "doubthall.talks" 408) 205) ::
(nat_lit 212,co "waiting" "Talk.waiting" 445 74 1 207 208 (.ref 209) (.ref 210) 211 449) ::
(nat_lit 213,fo "waiting" "Talk.waiting" (Zd (top 23) 3) .none .none (.str "doubthall.talks" 408) 212) ::
(nat_lit 219,co "winner" "Talk.winner" 452 77 1 214 215 (.ref 216) (.ref 217) 218 456) ::
(nat_lit 220,fo "winner" "Talk.winner" (Zd (top 23) 4) .none .none (.str "doubthall.talks" 408) 219) ::
(nat_lit 226,co "said" "Talk.said" 459 82 1 221 222 (.ref 223) (.ref 224) 225 463) ::
(nat_lit 227,fo "said" "Talk.said" (Zd (top 23) 5) .none .none (.str "doubthall.talks" 408) 226) ::
(nat_lit 233,co "aims" "Talk.aims" 466 85 1 228 229 (.ref 230) (.ref 231) 232 470) ::
(nat_lit 234,fo "aims" "Talk.aims" (Zd (top 23) 6) .none .none (.str "doubthall.talks" 408) 233) ::
(nat_lit 240,co "can_name" "Talk.can_name" 473 88 3 235 236 (.ref 237) (.ref 238) 239 479) ::
(nat_lit 241,fo "can_name" "Talk.can_name" (Zd (top 23) 7) .none .none (.str "doubthall.talks" 408) 240) ::
(nat_lit 247,co "doubted" "Talk.doubted" 482 91 3 242 243 (.ref 244) (.ref 245) 246 488) ::
(nat_lit 248,fo "doubted" "Talk.doubted" (Zd (top 23) 8) .none .none (.str "doubthall.talks" 408) 247) ::
(nat_lit 254,co "replied" "Talk.replied" 491 99 3 249 250 (.ref 251) (.ref 252) 253 497) ::
(nat_lit 255,fo "replied" "Talk.replied" (Zd (top 23) 9) .none .none (.str "doubthall.talks" 408) 254) ::
(nat_lit 257,⟨(.type "dict"),none,(.dict #[en P "__module__" 417 (.str "doubthall.talks" 408),en P "__firstlineno__" 421 (.int 60 420),en P "__init__" 430 (.ref 192),en P "turn" 437 (.ref 199),en P "now" 444 (.ref 206),en P "waiting" 451 (.ref 213),en P "winner" 458 (.ref 220),en P "said" 465 (.ref 227),en P "aims" 472 (.ref 234),en P "can_name" 481 (.ref 241),en P "doubted" 490 (.ref 248),en P "replied" 499 (.ref 255),en P "__static_attributes__" 504 (.ref 256),en P "__dict__" 506 (.ref 259),en P "__weakref__" 508 (.ref 260),en P "__doc__" 509 .none] 4),#[]⟩) ::
(nat_lit 258,⟨(.type "type"),none,(.cls { name := "Talk",bases:=[(.type "object")],mro:=[(.ref 258),(.type "object")],ns:=257,qualname := "Talk",hasDict:=true,subclasses:=[],abstract:=false,hasDel:=false }),#[none,none,some (.str "Talk" 410),some (.str "Talk" 418),some (.builtin "object.__new__"),some (.bool true)]⟩) ::
(nat_lit 268,co "_law_cell_at" "_law_cell_at" 514 108 2 263 264 (.ref 265) (.ref 266) 267 519) ::
(nat_lit 269,fo "_law_cell_at" "_law_cell_at" (top 25) .none .none (.str "law_doubthall_k32_moves" 512) 268) ::
(nat_lit 273,co "_law_rule_of" "_law_rule_of" 522 112 3 270 271 .none .none 272 525) ::
(nat_lit 274,fo "_law_rule_of" "_law_rule_of" (top 26) .none .none (.str "law_doubthall_k32_moves" 512) 273) ::
(nat_lit 280,co "_law_shaped" "_law_shaped" 528 122 3 275 276 (.ref 277) (.ref 278) 279 537) ::
(nat_lit 281,fo "_law_shaped" "_law_shaped" (top 27) .none .none (.str "law_doubthall_k32_moves" 512) 280) ::
(nat_lit 287,co "_law_book_of" "_law_book_of" 540 130 4 282 283 (.ref 284) (.ref 285) 286 554) ::
(nat_lit 288,fo "_law_book_of" "_law_book_of" (top 28) .none .none (.str "law_doubthall_k32_moves" 512) 287) ::
(nat_lit 292,co "_law_yields" "_law_yields" 557 151 2 289 290 .none .none 291 560) ::
(nat_lit 293,fo "_law_yields" "_law_yields" (top 29) .none .none (.str "law_doubthall_k32_moves" 512) 292) ::
(nat_lit 297,co "_law_hit" "_law_hit" 563 161 2 294 295 .none .none 296 566) ::
(nat_lit 298,fo "_law_hit" "_law_hit" (top 30) .none .none (.str "law_doubthall_k32_moves" 512) 297) ::
(nat_lit 304,co "_law_tried" "_law_tried" 569 164 4 299 300 (.ref 301) (.ref 302) 303 580) ::
(nat_lit 305,fo "_law_tried" "_law_tried" (top 31) .none .none (.str "law_doubthall_k32_moves" 512) 304) ::
(nat_lit 311,co "_law_due" "_law_due" 583 182 6 306 307 (.ref 308) (.ref 309) 310 592) ::
(nat_lit 312,fo "_law_due" "_law_due" (top 32) .none .none (.str "law_doubthall_k32_moves" 512) 311) ::
(nat_lit 318,co "_law_whole" "_law_whole" 595 189 1 313 314 (.ref 315) (.ref 316) 317 599) ::
(nat_lit 319,fo "_law_whole" "_law_whole" (top 33) .none .none (.str "law_doubthall_k32_moves" 512) 318) ::
(nat_lit 325,co "_law_said" "_law_said" 602 191 2 320 321 (.ref 322) (.ref 323) 324 608) ::
(nat_lit 326,fo "_law_said" "_law_said" (top 34) .none .none (.str "law_doubthall_k32_moves" 512) 325) ::
(nat_lit 332,co "_law_ground" "_law_ground" 611 200 2 327 328 (.ref 329) (.ref 330) 331 616) ::
(nat_lit 333,fo "_law_ground" "_law_ground" (top 35) .none .none (.str "law_doubthall_k32_moves" 512) 332) ::
(nat_lit 339,co "_law_waits" "_law_waits" 619 204 2 334 335 (.ref 336) (.ref 337) 338 624) ::
(nat_lit 340,fo "_law_waits" "_law_waits" (top 36) .none .none (.str "law_doubthall_k32_moves" 512) 339) ::
(nat_lit 346,co "_law_wins" "_law_wins" 627 210 4 341 342 (.ref 343) (.ref 344) 345 634) ::
(nat_lit 347,fo "_law_wins" "_law_wins" (top 37) .none .none (.str "law_doubthall_k32_moves" 512) 346) ::
(nat_lit 353,co "_law_seen" "_law_seen" 637 214 5 348 349 (.ref 350) (.ref 351) 352 647) ::
(nat_lit 354,fo "_law_seen" "_law_seen" (top 38) .none .none (.str "law_doubthall_k32_moves" 512) 353) ::
(nat_lit 358,co "_law_named" "_law_named" 650 227 3 355 356 .none .none 357 653) ::
(nat_lit 359,fo "_law_named" "_law_named" (top 39) .none .none (.str "law_doubthall_k32_moves" 512) 358) ::
(nat_lit 363,co "law" "law" 656 235 1 360 361 .none .none 362 659) ::
(nat_lit 364,fo "law" "law" (top 40) .none .none (.str "law_doubthall_k32_moves" 512) 363) :: []
noncomputable def ka:List Addr:=[2,3,23,24,40,41,43,44,55,56,67,68,79,80,91,92,103,104,115,116,127,128,134,135,141,142,148,149,153,154,158,159,165,166,172,173,177,178,191,192,198,199,205,206,212,213,219,220,226,227,233,234,240,241,247,248,254,255,257,258,268,269,273,274,280,281,287,288,292,293,297,298,304,305,311,312,318,319,325,326,332,333,339,340,346,347,353,354,358,359,363,364]
theorem h_said:PySem.W.Fast.tw9446332074065402090 PySem.Challenge.rw_doubthall_k32_moves=true:=by kernel_rfl
theorem h_one (w:World) (os:OsState):end_ PySem.Challenge.pw_doubthall_k32_moves (only PySem.Challenge.pw_doubthall_k32_moves (top 40)) ka w os 3273=some (true,openGood (only PySem.Challenge.pw_doubthall_k32_moves (top 40)) (QdB PySem.Challenge.pw_doubthall_k32_moves),(kk w.params).map fun x=>some x.2):=by kernel_rfl
end K32
open PySem PySem.W PyProof.Rows
set_option maxRecDepth 100000 in
set_option maxHeartbeats 8000000 in
theorem PySem.Challenge.cw_doubthall_k32_moves_holds : PySem.Challenge.rw_doubthall_k32_moves.Holds := by
  refine HD.opens (K:=K32.kk) (as:=K32.ka) (st:=K32.top 40) (N:=3273) K32.h_said (by kernel_rfl) (fun s=>by kernel_rfl) (by kernel_rfl) K32.h_one (fun P=>by kernel_rfl) (by kernel_rfl) (by kernel_rfl) (by kernel_rfl) (by kernel_rfl) ⟨rfl,rfl,rfl,rfl,rfl,by decide +kernel⟩ ?hw ?hc
  (case hw=>w_witness2)
  k_fill
  refine K32.walk (l:=PySem.Challenge.rw_doubthall_k32_moves) rfl rfl (fun w h Y=>Y) L2.PM.trueOn_ok ?F
  case F =>
    intro w mg fa h KX G hmg
    refine' K32.all_mk K32.law_true KX G hmg ?aC ?pC ?hC ?oC ?sC ?mC ?kC ?n_book ?n_held ?n_unanswered ?n_moves ?isn ?ist ?xa_HallError ?xa_RowError ?xa_NotTurn ?xa_NoDoubt ?xa_NoReply ?xa_NoAsk ?xa_NoWord ?xa_NotGuess ?xa_NotTold ?xg_HallError ?xh_HallError ?xb_HallError ?xo_HallError ?xc_HallError ?xy_HallError ?xy_RowError ?xk_RowError ?xn_NotTurn ?xg_NotTurn ?xh_NotTurn ?xb_NotTurn ?xo_NotTurn ?xc_NotTurn ?xy_NotTurn ?xk_NotTurn ?xn_NoDoubt ?xg_NoDoubt ?xh_NoDoubt ?xb_NoDoubt ?xo_NoDoubt ?xc_NoDoubt ?xy_NoDoubt ?xk_NoDoubt ?xn_NoReply ?xg_NoReply ?xh_NoReply ?xb_NoReply ?xo_NoReply ?xc_NoReply ?xy_NoReply ?xk_NoReply ?xy_NoAsk ?xk_NoAsk ?xy_NoWord ?xk_NoWord ?xy_NotGuess ?xk_NotGuess ?xy_NotTold ?xk_NotTold ?xv_NotTurn ?xs_NotTurn_HallError ?xs_NotTurn_RowError ?ne_NotTurn_RowError ?xs_NotTurn_NotTurn ?xs_NotTurn_NoDoubt ?ne_NotTurn_NoDoubt ?xs_NotTurn_NoReply ?ne_NotTurn_NoReply ?xs_NotTurn_NoAsk ?ne_NotTurn_NoAsk ?xs_NotTurn_NoWord ?ne_NotTurn_NoWord ?xs_NotTurn_NotGuess ?ne_NotTurn_NotGuess ?xs_NotTurn_NotTold ?ne_NotTurn_NotTold ?xv_NoDoubt ?xs_NoDoubt_HallError ?xs_NoDoubt_RowError ?ne_NoDoubt_RowError ?xs_NoDoubt_NotTurn ?ne_NoDoubt_NotTurn ?xs_NoDoubt_NoDoubt ?xs_NoDoubt_NoReply ?ne_NoDoubt_NoReply ?xs_NoDoubt_NoAsk ?ne_NoDoubt_NoAsk ?xs_NoDoubt_NoWord ?ne_NoDoubt_NoWord ?xs_NoDoubt_NotGuess ?ne_NoDoubt_NotGuess ?xs_NoDoubt_NotTold ?ne_NoDoubt_NotTold ?xv_NoReply ?xs_NoReply_HallError ?xs_NoReply_RowError ?ne_NoReply_RowError ?xs_NoReply_NotTurn ?ne_NoReply_NotTurn ?xs_NoReply_NoDoubt ?ne_NoReply_NoDoubt ?xs_NoReply_NoReply ?xs_NoReply_NoAsk ?ne_NoReply_NoAsk ?xs_NoReply_NoWord ?ne_NoReply_NoWord ?xs_NoReply_NotGuess ?ne_NoReply_NotGuess ?xs_NoReply_NotTold ?ne_NoReply_NotTold ?a0 ?l0 ?c0 ?k0 ?a1 ?l1 ?c1 ?k1 ?a2 ?l2 ?c2 ?k2 ?a3 ?l3 ?c3 ?k3 ?a4 ?l4 ?c4 ?k4 ?a5 ?l5 ?c5 ?k5 ?a6 ?i6 ?l6 ?c6 ?k6 ?a7 ?l7 ?c7 ?k7 ?a8 ?l8 ?c8 ?k8 ?a9 ?i9 ?l9 ?c9 ?k9 ?a10 ?l10 ?c10 ?k10 ?a11 ?i11 ?l11 ?c11 ?k11 ?a12 ?l12 ?c12 ?k12 ?a13 ?l13 ?c13 ?k13 ?a14 ?l14 ?c14 ?k14 ?a15 ?l15 ?c15 ?k15 ?a16 ?l16 ?c16 ?k16 ?a17 ?l17 ?c17 ?k17 ?a18 ?i18 ?l18 ?c18 ?k18 ?a19 ?i19 ?l19 ?c19 ?k19 ?a20 ?i20 ?l20 ?c20 ?k20 ?a21 ?l21 ?c21 ?k21 ?a22 ?i22 ?l22 ?c22 ?k22 ?a23 ?l23 ?c23 ?k23 ?a24 ?l24 ?c24 ?k24 ?a25 ?l25 ?c25 ?k25 ?a26 ?l26 ?c26 ?k26 ?a27 ?i27 ?l27 ?c27 ?k27 ?a28 ?i28 ?l28 ?c28 ?k28 ?a29 ?l29 ?c29 ?k29 ?a30 ?i30 ?l30 ?c30 ?k30 ?a31 ?l31 ?c31 ?k31 ?a32 ?l32 ?c32 ?k32 ?a33 ?l33 ?c33 ?k33 ?z_ValueError ?z_all ?z_bool ?z_enumerate ?z_int ?z_isinstance ?z_len ?z_list ?z_range ?z_str ?z_sum ?z_tuple
    (case aC=>k_is)
    (case pC=>k_is)
    (case hC=>k_is)
    (case oC=>k_is)
    (case sC=>k_is)
    (case mC=>k_is)
    (case kC=>k_is)
    (case n_book=>k_is)
    (case n_held=>k_is)
    (case n_unanswered=>k_is)
    (case n_moves=>k_is)
    (case isn=>k_is)
    (case ist=>k_is)
    (case xa_HallError=>k_is)
    (case xa_RowError=>k_is)
    (case xa_NotTurn=>k_is)
    (case xa_NoDoubt=>k_is)
    (case xa_NoReply=>k_is)
    (case xa_NoAsk=>k_is)
    (case xa_NoWord=>k_is)
    (case xa_NotGuess=>k_is)
    (case xa_NotTold=>k_is)
    (case xg_HallError=>k_is)
    (case xh_HallError=>k_is)
    (case xb_HallError=>k_is)
    (case xo_HallError=>k_is)
    (case xc_HallError=>k_is)
    (case xy_HallError=>k_is)
    (case xy_RowError=>k_is)
    (case xk_RowError=>k_is)
    (case xn_NotTurn=>kernel_rfl)
    (case xg_NotTurn=>k_is)
    (case xh_NotTurn=>k_is)
    (case xb_NotTurn=>k_is)
    (case xo_NotTurn=>k_is)
    (case xc_NotTurn=>k_is)
    (case xy_NotTurn=>k_is)
    (case xk_NotTurn=>k_is)
    (case xn_NoDoubt=>kernel_rfl)
    (case xg_NoDoubt=>k_is)
    (case xh_NoDoubt=>k_is)
    (case xb_NoDoubt=>k_is)
    (case xo_NoDoubt=>k_is)
    (case xc_NoDoubt=>k_is)
    (case xy_NoDoubt=>k_is)
    (case xk_NoDoubt=>k_is)
    (case xn_NoReply=>kernel_rfl)
    (case xg_NoReply=>k_is)
    (case xh_NoReply=>k_is)
    (case xb_NoReply=>k_is)
    (case xo_NoReply=>k_is)
    (case xc_NoReply=>k_is)
    (case xy_NoReply=>k_is)
    (case xk_NoReply=>k_is)
    (case xy_NoAsk=>k_is)
    (case xk_NoAsk=>k_is)
    (case xy_NoWord=>k_is)
    (case xk_NoWord=>k_is)
    (case xy_NotGuess=>k_is)
    (case xk_NotGuess=>k_is)
    (case xy_NotTold=>k_is)
    (case xk_NotTold=>k_is)
    (case xv_NotTurn=>k_is)
    (case xs_NotTurn_HallError=>k_is)
    (case xs_NotTurn_RowError=>k_is)
    (case ne_NotTurn_RowError=>rfl)
    (case xs_NotTurn_NotTurn=>k_is)
    (case xs_NotTurn_NoDoubt=>k_is)
    (case ne_NotTurn_NoDoubt=>rfl)
    (case xs_NotTurn_NoReply=>k_is)
    (case ne_NotTurn_NoReply=>rfl)
    (case xs_NotTurn_NoAsk=>k_is)
    (case ne_NotTurn_NoAsk=>rfl)
    (case xs_NotTurn_NoWord=>k_is)
    (case ne_NotTurn_NoWord=>rfl)
    (case xs_NotTurn_NotGuess=>k_is)
    (case ne_NotTurn_NotGuess=>rfl)
    (case xs_NotTurn_NotTold=>k_is)
    (case ne_NotTurn_NotTold=>rfl)
    (case xv_NoDoubt=>k_is)
    (case xs_NoDoubt_HallError=>k_is)
    (case xs_NoDoubt_RowError=>k_is)
    (case ne_NoDoubt_RowError=>rfl)
    (case xs_NoDoubt_NotTurn=>k_is)
    (case ne_NoDoubt_NotTurn=>rfl)
    (case xs_NoDoubt_NoDoubt=>k_is)
    (case xs_NoDoubt_NoReply=>k_is)
    (case ne_NoDoubt_NoReply=>rfl)
    (case xs_NoDoubt_NoAsk=>k_is)
    (case ne_NoDoubt_NoAsk=>rfl)
    (case xs_NoDoubt_NoWord=>k_is)
    (case ne_NoDoubt_NoWord=>rfl)
    (case xs_NoDoubt_NotGuess=>k_is)
    (case ne_NoDoubt_NotGuess=>rfl)
    (case xs_NoDoubt_NotTold=>k_is)
    (case ne_NoDoubt_NotTold=>rfl)
    (case xv_NoReply=>k_is)
    (case xs_NoReply_HallError=>k_is)
    (case xs_NoReply_RowError=>k_is)
    (case ne_NoReply_RowError=>rfl)
    (case xs_NoReply_NotTurn=>k_is)
    (case ne_NoReply_NotTurn=>rfl)
    (case xs_NoReply_NoDoubt=>k_is)
    (case ne_NoReply_NoDoubt=>rfl)
    (case xs_NoReply_NoReply=>k_is)
    (case xs_NoReply_NoAsk=>k_is)
    (case ne_NoReply_NoAsk=>rfl)
    (case xs_NoReply_NoWord=>k_is)
    (case ne_NoReply_NoWord=>rfl)
    (case xs_NoReply_NotGuess=>k_is)
    (case ne_NoReply_NotGuess=>rfl)
    (case xs_NoReply_NotTold=>k_is)
    (case ne_NoReply_NotTold=>rfl)
    (case a0=>k_is)
    (case l0=>k_is)
    (case c0=>k_is)
    (case k0=>k_is)
    (case a1=>k_is)
    (case l1=>k_is)
    (case c1=>k_is)
    (case k1=>k_is)
    (case a2=>k_is)
    (case l2=>k_is)
    (case c2=>k_is)
    (case k2=>k_is)
    (case a3=>k_is)
    (case l3=>k_is)
    (case c3=>k_is)
    (case k3=>k_is)
    (case a4=>k_is)
    (case l4=>k_is)
    (case c4=>k_is)
    (case k4=>k_is)
    (case a5=>k_is)
    (case l5=>k_is)
    (case c5=>k_is)
    (case k5=>k_is)
    (case a6=>k_is)
    (case i6=>k_is)
    (case l6=>k_is)
    (case c6=>k_is)
    (case k6=>k_is)
    (case a7=>k_is)
    (case l7=>k_is)
    (case c7=>k_is)
    (case k7=>k_is)
    (case a8=>k_is)
    (case l8=>k_is)
    (case c8=>k_is)
    (case k8=>k_is)
    (case a9=>k_is)
    (case i9=>k_is)
    (case l9=>k_is)
    (case c9=>k_is)
    (case k9=>k_is)
    (case a10=>k_is)
    (case l10=>k_is)
    (case c10=>k_is)
    (case k10=>k_is)
    (case a11=>k_is)
    (case i11=>k_is)
    (case l11=>k_is)
    (case c11=>k_is)
    (case k11=>k_is)
    (case a12=>k_is)
    (case l12=>k_is)
    (case c12=>k_is)
    (case k12=>k_is)
    (case a13=>k_is)
    (case l13=>k_is)
    (case c13=>k_is)
    (case k13=>k_is)
    (case a14=>k_is)
    (case l14=>k_is)
    (case c14=>k_is)
    (case k14=>k_is)
    (case a15=>k_is)
    (case l15=>k_is)
    (case c15=>k_is)
    (case k15=>k_is)
    (case a16=>k_is)
    (case l16=>k_is)
    (case c16=>k_is)
    (case k16=>k_is)
    (case a17=>k_is)
    (case l17=>k_is)
    (case c17=>k_is)
    (case k17=>k_is)
    (case a18=>k_is)
    (case i18=>k_is)
    (case l18=>k_is)
    (case c18=>k_is)
    (case k18=>k_is)
    (case a19=>k_is)
    (case i19=>k_is)
    (case l19=>k_is)
    (case c19=>k_is)
    (case k19=>k_is)
    (case a20=>k_is)
    (case i20=>k_is)
    (case l20=>k_is)
    (case c20=>k_is)
    (case k20=>k_is)
    (case a21=>k_is)
    (case l21=>k_is)
    (case c21=>k_is)
    (case k21=>k_is)
    (case a22=>k_is)
    (case i22=>k_is)
    (case l22=>k_is)
    (case c22=>k_is)
    (case k22=>k_is)
    (case a23=>k_is)
    (case l23=>k_is)
    (case c23=>k_is)
    (case k23=>k_is)
    (case a24=>k_is)
    (case l24=>k_is)
    (case c24=>k_is)
    (case k24=>k_is)
    (case a25=>k_is)
    (case l25=>k_is)
    (case c25=>k_is)
    (case k25=>k_is)
    (case a26=>k_is)
    (case l26=>k_is)
    (case c26=>k_is)
    (case k26=>k_is)
    (case a27=>k_is)
    (case i27=>k_is)
    (case l27=>k_is)
    (case c27=>k_is)
    (case k27=>k_is)
    (case a28=>k_is)
    (case i28=>k_is)
    (case l28=>k_is)
    (case c28=>k_is)
    (case k28=>k_is)
    (case a29=>k_is)
    (case l29=>k_is)
    (case c29=>k_is)
    (case k29=>k_is)
    (case a30=>k_is)
    (case i30=>k_is)
    (case l30=>k_is)
    (case c30=>k_is)
    (case k30=>k_is)
    (case a31=>k_is)
    (case l31=>k_is)
    (case c31=>k_is)
    (case k31=>k_is)
    (case a32=>k_is)
    (case l32=>k_is)
    (case c32=>k_is)
    (case k32=>k_is)
    (case a33=>k_is)
    (case l33=>k_is)
    (case c33=>k_is)
    (case k33=>k_is)
    (case z_ValueError=>k_is)
    (case z_all=>k_is)
    (case z_bool=>k_is)
    (case z_enumerate=>k_is)
    (case z_int=>k_is)
    (case z_isinstance=>k_is)
    (case z_len=>k_is)
    (case z_list=>k_is)
    (case z_range=>k_is)
    (case z_str=>k_is)
    (case z_sum=>k_is)
    (case z_tuple=>k_is)
