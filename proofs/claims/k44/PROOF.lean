import PyProof.Rows.All
import Wide.All
import OpenK.AllK
import Wide.FinOn
import Lean
import PyProof.EqAt
import PyProof.EqKinds
import PyProof.TupleCall
import KE.BitLaws
import KE.KRevIter
import KE.KUnpack
import PyProof.ZipIter
import PyProof.StrLawsChain
import PyProof.StrBlock
import PyProof.FitsReplace
import PySem.Challenge.RW_doubthall_k44_lots
set_option compiler.extract_closed false

-- CHANGE: your row's module here,as the last of these rows
set_option Elab.async false
set_option linter.all false
set_option maxRecDepth 100000
namespace L2
open PySem PySem.Spec PyProof.Rows

noncomputable abbrev Key:=Sum Int Str
noncomputable def keyIs:Key→Value→Bool
  | .inl k,v=>Value.isInt k v
  | .inr x,v=>Value.isStrOf x v
noncomputable def keyH (w:World):Key→Int
  | .inl k=>hashInt k
  | .inr x=>hashStr w x
theorem Zt:∀ {k:Key} {v:Value},keyIs k v=true→(∃ i t,k=Sum.inl i∧v=Value.int i t)∨(∃ x t,k=Sum.inr x∧v=Value.str x t)
  | .inl i,v,h=>by
    obtain ⟨t,e⟩:=Value.isInt_shape (k:=i) (v:=v) h
    exact .inl ⟨i,t,rfl,e⟩
  | .inr x,v,h=>by
    obtain ⟨t,e⟩:=Value.isStrOf_shape (x:=x) (v:=v) h
    exact .inr ⟨x,t,rfl,e⟩
theorem key_ll (a b:Int):decide ((Sum.inl a:Key)=Sum.inl b)=(a==b):=by
  by_cases e:a=b
  · subst e;simp
  · have h:¬ (Sum.inl a:Key)=Sum.inl b:=fun q=>e (Sum.inl.inj q)
    rw [decide_eq_false h]
    exact (beq_eq_false_iff_ne.mpr e).symm
theorem key_rr (a b:Str):decide ((Sum.inr a:Key)=Sum.inr b)=decide (a=b):=by
  by_cases e:a=b
  · subst e;simp
  · have h:¬ (Sum.inr a:Key)=Sum.inr b:=fun q=>e (Sum.inr.inj q)
    rw [decide_eq_false h,decide_eq_false e]
theorem key_lr (a:Int) (b:Str):decide ((Sum.inl a:Key)=Sum.inr b)=false:=decide_eq_false (fun q=>nomatch q)
theorem key_rl (a:Str) (b:Int):decide ((Sum.inr a:Key)=Sum.inl b)=false:=decide_eq_false (fun q=>nomatch q)

noncomputable def QfN (prog:Program) (w:World):PySem.KeyKind prog w Key where
  is:=keyIs
  hash:=keyH w
  inj:=fun v a b ha hb=>by
    rcases Zt ha with ⟨i,t,rfl,rfl⟩ | ⟨x,t,rfl,rfl⟩
    · rcases Zt hb with ⟨j,u,rfl,e⟩ | ⟨y,u,rfl,e⟩
      · injection e with e1 _;rw [e1]
      · exact nomatch e
    · rcases Zt hb with ⟨j,u,rfl,e⟩ | ⟨y,u,rfl,e⟩
      · exact nomatch e
      · injection e with e1 _;rw [e1]
  byValue:=fun k v h=>by
    rcases Zt h with ⟨i,t,rfl,rfl⟩ | ⟨x,t,rfl,rfl⟩ <;> rfl
  pyHash:=fun hv h=>by
    rcases Zt hv with ⟨i,t,rfl,rfl⟩ | ⟨x,t,rfl,rfl⟩
    · exact wpAny_pyHash_int h
    · exact wpAny_pyHash_str h
  eqBool:=fun hu hv h=>by
    rcases Zt hu with ⟨i,t,rfl,rfl⟩ | ⟨x,t,rfl,rfl⟩
    · rcases Zt hv with ⟨j,u,rfl,rfl⟩ | ⟨y,u,rfl,rfl⟩
      · rw [key_ll] at h;exact wpAny_eqBool_int h
      · rw [key_lr] at h;exact SeqAt.EqAt.int_str i t y u _ _ _ _ h
    · rcases Zt hv with ⟨j,u,rfl,rfl⟩ | ⟨y,u,rfl,rfl⟩
      · rw [key_rl] at h;exact SeqAt.EqAt.str_int x t j u _ _ _ _ h
      · rw [key_rr] at h;exact wpAny_eqBool_str h
  «strs»:=fun k x t v h=>by
    rcases Zt h with ⟨i,u,rfl,e⟩ | ⟨y,u,rfl,e⟩
    · exact nomatch e
    · injection e with e1 _
      subst e1
      cases v <;> rfl

end L2

namespace L2
open PySem PySem.Spec PyProof.Rows

inductive V where
  | non | bl (b:Bool) | int (i:Int) | str (x:Str) | byt (b:Array UInt8) | flt (b:UInt64) | ref (a:Addr) | ty (n:String)
  deriving DecidableEq

noncomputable def RelV:V→Value→Prop
  | .non,u=>u=Value.none
  | .bl b,u=>u=Value.bool b
  | .int i,u=>∃ t,u=Value.int i t
  | .str x,u=>∃ t,u=Value.str x t
  | .byt b,u=>∃ t,u=Value.bytes b t
  | .flt b,u=>∃ t,u=Value.float b t
  | .ref a,u=>u=Value.ref a
  | .ty n,u=>u=Value.type n

noncomputable abbrev Vals:List V→List Value→Prop:=Paired RelV
theorem Vals.length {xs:List V} {us:List Value} (r:Vals xs us):xs.length=us.length:=Paired.length r
theorem Vals.get:∀ {xs:List V} {us:List Value} {i:Nat} {x:V},Vals xs us→xs[i]?=some x→∃ u,us[i]?=some u∧RelV x u
  | _,_,_,_,.nil,e=>by simp at e
  | _,_,0,_,.cons r _,e=>by simp at e;subst e;exact ⟨_,rfl,r⟩
  | _,_,i + 1,x,.cons _ t,e=>by
    obtain ⟨u,h1,h2⟩:=Vals.get (i:=i) (x:=x) t (by simpa using e)
    exact ⟨u,by simpa using h1,h2⟩
theorem Vals.set {x:V} {u:Value} (r:RelV x u):∀ {xs:List V} {us:List Value} (i:Nat),Vals xs us→Vals (xs.set i x) (us.set i u)
  | _,_,_,.nil => .nil
  | _,_,0,.cons _ t => .cons r t
  | _,_,i + 1,.cons q t => .cons q (Vals.set r i t)
theorem Vals.append:∀ {xs ys:List V} {us ws:List Value},Vals xs us→Vals ys ws→Vals (xs++ys) (us++ws)
  | _,_,_,_,.nil,s=>s
  | _,_,_,_,.cons r t,s => .cons r (Vals.append t s)
theorem Vals.take:∀ {xs:List V} {us:List Value} (n:Nat),Vals xs us→Vals (xs.take n) (us.take n)
  | _,_,0,_ => .nil
  | _,_,_ + 1,.nil => .nil
  | _,_,n + 1,.cons r t => .cons r (Vals.take n t)
theorem Vals.drop:∀ {xs:List V} {us:List Value} (n:Nat),Vals xs us→Vals (xs.drop n) (us.drop n)
  | _,_,0,r=>r
  | _,_,_ + 1,.nil => .nil
  | _,_,n + 1,.cons _ t=>Vals.drop n t
theorem Vals.none_of:∀ {xs:List V} {us:List Value} {i:Nat},Vals xs us→xs[i]?=none→us[i]?=none:=fun {xs us i} r e=>by
  have h1:=r.length
  have h2:xs.length≤i:=List.getElem?_eq_none_iff.mp e
  exact List.getElem?_eq_none_iff.mpr (by omega)

noncomputable def RelO:Option V→Option Value→Prop
  | some v,some u=>RelV v u
  | none,none=>True
  | _,_=>False
noncomputable def KV {κ:Type}:List (κ×V)→List (κ×Value)→Prop:=Paired fun (p : κ×V) (q : κ×Value)=>p.1=q.1∧RelV p.2 q.2

noncomputable def kV:Key→V
  | .inl i => .int i
  | .inr x => .str x

inductive HO where
  /-- a list -/
  | lst (xs:List V)
  /-- a tuple (never changes) -/
  | tup (xs:List V)
  /-- a dict whose keys are ints and texts;one whose keys are tuples of ints and texts (the empty one is both) -/
  | dK (kvs:List (Key×V)) | dT (kvs:List (List Key×V))
  /-- a set of ints: its members,its size -/
  | set (S:Int→Bool) (n:Nat)
  /-- an instance of the class at C,its dict at dx,its attributes -/
  | ins (C dx:Addr) (fs:List (Str×V))
  /-- the dict of the instance at x -/
  | own (x:Addr)
  /-- the dict of an exception -/
  | xd (fs:List (Str×V))
  /-- a bound method,f of x -/
  | met (f x:Addr)
  /-- a range object lo,lo + 1,.. below hi -/
  | rng (lo hi:Int)
  /-- a thing that is known to the object (the script;a dict while a loop walks it): read,never written while it is so -/
  | frz (o:Obj) (u:HO)
  /-- a code object's table -/
  | tbl (ps:Array Value)
  /-- any other thing,by what is true of its one object (a def of one's own: SetO a S n:=HO.ext fun h => ..) -/
  | ext (φ:Heap→Prop)

noncomputable abbrev Hp:=Addr→Option HO
noncomputable def upd (H:Hp) (a:Addr) (o:HO):Hp:=fun b=>if b=a then some o else H b
theorem Qv {H:Hp} {a:Addr} {o:HO}:upd H a o a=some o:=by unfold upd;rw [if_pos rfl]
theorem Qt {H:Hp} {a b:Addr} {o:HO} (h:b≠a):upd H a o b=H b:=by unfold upd;rw [if_neg h]
theorem Qu {H:Hp} {a b:Addr} {o:HO} (h:H a=some o) (h':H b=none):a≠b:=by
  intro e;subst e;rw [h] at h';cases h'

section
variable (P:Program) (w:World)
noncomputable def YC (H:Hp) (h:Heap) (a:Addr):HO→Prop
  | .lst xs=>xs.length≤sizeLine∧∃ (its:List Value) (n:Nat),Vals xs its∧h.get? a=some { cls := .type "list",data := .seq its.toArray n }
  | .tup xs=>xs.length≤sizeLine∧∃ its:List Value,Vals xs its∧IsTup h a its.toArray
  | .dK kvs=>kvs.length≤sizeLine∧(a==sysModules)=false∧∃ vs,KV kvs vs∧h.DictOf (QfN P w) a vs
  | .dT kvs=>kvs.length≤sizeLine∧(a==sysModules)=false∧∃ xs:List (List Key×Addr×Value),
      Paired (fun (p:List Key×V) (q:List Key×Addr×Value)=>p.1=q.1∧H q.2.1=some (.tup (p.1.map kV))∧RelV p.2 q.2.2) kvs xs ∧
      ∃ o es ep,h.get? a=some o∧o.ExactDict∧o.data = .dict es ep∧es.toList=xs.map (entryOfKey (tupleKind (QfN P w)))∧(xs.map (·.1)).Nodup
  | .set S n=>h.SetOf (intKind P w) a S n
  | .ins C dx fs=>H dx=some (.own a)∧fs.length≤1000∧dx≠a∧h.get? a=some (PySem.W.instObj C dx) ∧
      ∃ mA,h.Ns1 dx mA∧(∀ f,RelO (fs.lookup f) (mA f))∧PySem.Within mA (fs.map (·.1))
  | .own _=>∃ o,h.get? a=some o
  | .xd fs=>∃ mA,h.Ns1 a mA∧∀ f,RelO (fs.lookup f) (mA f)
  | .rng lo hi=>∃ t u v,h.get? a=some { cls := .type "range",data := .fields #[.int lo t,.int hi u,.int 1 v] }
  | .frz o u=>h.get? a=some o∧YC H h a u
  | .tbl ps=>h.get? a=some { cls := .none,data := .fields ps }
  | .met f x=>h.get? a=some (PySem.W.methodObj (.ref f) (.ref x))
  | .ext φ=>φ h∧(∃ o,h.get? a=some o)∧∀ h1 h2:Heap,φ h1→(∀ o,h1.get? a=some o→h2.get? a=some o)→φ h2
noncomputable def HOk (H:Hp) (h:Heap):Prop:=∀ a o,H a=some o→YC P w H h a o
end

section
variable {P:Program} {w:World} {H H':Hp} {h h':Heap} {a:Addr} {o:HO}
theorem YC.lt (x:YC P w H h a o):a < h.objs.size:=by
  cases o with
  | lst xs=>obtain ⟨_,_,_,_,e⟩:=x;exact Heap.lt_size e
  | tup xs=>obtain ⟨_,_,_,p⟩:=x;exact p.lt
  | dK kvs=>obtain ⟨_,_,_,_,o,_,_,e,_⟩:=x;exact Heap.lt_size e
  | dT kvs=>obtain ⟨_,_,_,_,o,_,_,e,_⟩:=x;exact Heap.lt_size e
  | set S n=>obtain ⟨o,_,_,_,e,_⟩:=x;exact Heap.lt_size e
  | ins C dx fs=>obtain ⟨_,_,_,e,_⟩:=x;exact Heap.lt_size e
  | own y=>obtain ⟨_,e⟩:=x;exact Heap.lt_size e
  | xd fs=>obtain ⟨_,⟨_,_,_,e,_⟩,_⟩:=x;exact Heap.lt_size e
  | rng lo hi=>obtain ⟨_,_,_,e⟩:=x;exact Heap.lt_size e
  | frz ob u=>obtain ⟨e,_⟩:=x;exact Heap.lt_size e
  | tbl ps=>exact Heap.lt_size (show h.get? a=some _ from x)
  | met f y=>exact Heap.lt_size (show h.get? a=some _ from x)
  | ext φ=>obtain ⟨_,⟨_,e⟩,_⟩:=x;exact Heap.lt_size e
theorem Paired.mapP {α β:Type} {F G:α→β→Prop}:∀ {l₁:List α} {l₂:List β},Paired F l₁ l₂→(∀ a b,F a b→G a b)→Paired G l₁ l₂
  | _,_,.nil,_ => .nil
  | _,_,.cons r t,f => .cons (f _ _ r) (Paired.mapP t f)
theorem YC.stay (x:YC P w H h a o) (k:∀ b u,(b=a∨H b=some (.own a))→h.get? b=some u→h'.get? b=some u)
    (ho:∀ b,H b=some (.own a)→H' b=some (.own a)) (ht:∀ b xs,H b=some (.tup xs)→H' b=some (.tup xs)):YC P w H' h' a o:=by
  induction o with
  | lst xs=>obtain ⟨z,its,n,r,e⟩:=x;exact ⟨z,its,n,r,k _ _ (.inl rfl) e⟩
  | tup xs=>obtain ⟨z,its,r,ob,e,c⟩:=x;exact ⟨z,its,r,ob,k _ _ (.inl rfl) e,c⟩
  | dK kvs=>obtain ⟨z,y,vs,r,ob,es,ep,e,c⟩:=x;exact ⟨z,y,vs,r,ob,es,ep,k _ _ (.inl rfl) e,c⟩
  | dT kvs =>
    obtain ⟨z,y,xs,r,ob,es,ep,e,c⟩:=x
    exact ⟨z,y,xs,Paired.mapP r fun p q z=>⟨z.1,ht _ _ z.2.1,z.2.2⟩,ob,es,ep,k _ _ (.inl rfl) e,c⟩
  | set S n=>obtain ⟨ob,es,ep,t,e,c⟩:=x;exact ⟨ob,es,ep,t,k _ _ (.inl rfl) e,c⟩
  | ins C dx fs =>
    obtain ⟨d,z,ne,e,mA,⟨od,es,ep,e2,c⟩,r⟩:=x
    exact ⟨ho _ d,z,ne,k _ _ (.inl rfl) e,mA,⟨od,es,ep,k _ _ (.inr d) e2,c⟩,r⟩
  | own y=>obtain ⟨ob,e⟩:=x;exact ⟨ob,k _ _ (.inl rfl) e⟩
  | xd fs=>obtain ⟨mA,⟨od,es,ep,e,c⟩,r⟩:=x;exact ⟨mA,⟨od,es,ep,k _ _ (.inl rfl) e,c⟩,r⟩
  | rng lo hi=>obtain ⟨t,u,v,e⟩:=x;exact ⟨t,u,v,k _ _ (.inl rfl) e⟩
  | frz ob u ih=>obtain ⟨e,q⟩:=x;exact ⟨k _ _ (.inl rfl) e,ih q⟩
  | tbl ps =>
    have e:h.get? a=some { cls := .none,data := .fields ps }:=x
    show h'.get? a=some { cls := .none,data := .fields ps }
    exact k a _ (.inl rfl) e
  | met f y =>
    have e:h.get? a=some (PySem.W.methodObj (.ref f) (.ref y)):=x
    show h'.get? a=some (PySem.W.methodObj (.ref f) (.ref y))
    exact k a _ (.inl rfl) e
  | ext φ=>obtain ⟨p,⟨o,e⟩,st⟩:=x;exact ⟨st _ _ p fun o q=>k _ _ (.inl rfl) q,⟨o,k _ _ (.inl rfl) e⟩,st⟩
theorem HOk.lt (x:HOk P w H h) (e:H a=some o):a < h.objs.size:=(x a o e).lt
theorem HOk.fresh (x:HOk P w H h) (e:h.objs.size≤a):H a=none:=by
  cases q:H a with
  | none=>rfl
  | some u=>exact absurd (Nat.lt_of_lt_of_le (x.lt q) e) (Nat.lt_irrefl _)
theorem HOk.kept (x:HOk P w H h) (k:∀ b u,h.get? b=some u→h'.get? b=some u):HOk P w H h':=fun a o e =>
  (x a o e).stay (fun b u _ q=>k b u q) (fun _ q=>q) fun _ _ q=>q
theorem HOk.laid (x:HOk P w H h) (k:∀ b u,h.get? b=some u→h'.get? b=some u) (hp:h.objs.size≤a) (new:YC P w (upd H a o) h' a o):HOk P w (upd H a o) h':=fun b u e=>by
  have hn:=x.fresh hp
  by_cases hb:b=a
  · subst hb;rw [Qv] at e;cases e;exact new
  · rw [Qt hb] at e
    exact (x b u e).stay (fun c v _ q=>k c v q) (fun c q=>by rw [Qt (Qu q hn)];exact q) fun c xs q=>by rw [Qt (Qu q hn)];exact q
end

noncomputable def Rd (H:Hp) (a:Addr) (u:HO):Prop:=H a=some u∨∃ o,H a=some (.frz o u)
theorem Rd.of {H:Hp} {a:Addr} {u:HO} (h:H a=some u):Rd H a u := .inl h
theorem Rd.ok {P:Program} {w:World} {H:Hp} {h:Heap} {a:Addr} {u:HO} (r:Rd H a u) (x:HOk P w H h):YC P w H h a u:=by
  rcases r with r | ⟨o,r⟩
  · exact x a u r
  · obtain ⟨_,q⟩:=x a _ r
    exact q
noncomputable def Mut:Option HO→Prop
  | some (.lst _)=>True
  | some (.dK _)=>True
  | some (.dT _)=>True
  | some (.set _ _)=>True
  | some (.ins _ _ _)=>True
  | some (.ext _)=>True
  | _=>False
section
variable {P:Program} {w:World} {H:Hp} {h h':Heap} {x e:Addr} {o':HO}
theorem HOk.write (ok:HOk P w H h) (mu:Mut (H x)) (he:e=x∨H e=some (.own x)) (k:∀ b u,b≠e→h.get? b=some u→h'.get? b=some u) (heo:∃ u,h'.get? e=some u)
    (new:YC P w (upd H x o') h' x o'):HOk P w (upd H x o') h':=fun b u q=>by
  have nown:∀ c y,H c=some (.own y)→c≠x:=fun c y r z=>by subst z;rw [r] at mu;exact mu
  have ntup:∀ c xs,H c=some (.tup xs)→c≠x:=fun c xs r z=>by subst z;rw [r] at mu;exact mu
  by_cases hb:b=x
  · subst hb;rw [Qv] at q;cases q;exact new
  · rw [Qt hb] at q
    by_cases hbe:b=e
    · have q':H b=some (.own x):=by
        rcases he with z | z
        · exact absurd (hbe.trans z) hb
        · rw [hbe];exact z
      rw [q] at q';cases q'
      obtain ⟨v,hv⟩:=heo
      exact ⟨v,by rw [hbe];exact hv⟩
    · refine (ok b u q).stay (fun c v hc r=>k c v ?_ r) (fun c r=>by rw [Qt (nown c b r)];exact r) fun c xs r=>by rw [Qt (ntup c xs r)];exact r
      rcases hc with rfl | hc
      · exact hbe
      · rintro rfl
        rcases he with z | z
        · exact nown c b hc z
        · rw [hc] at z;cases z;exact hb rfl
end

structure Un (fs ex:List Addr) (H H':Hp) (h h':Heap):Prop where
  keep:∀ b o,h.get? b=some o→H b=none→b∉fs→b∉ex→h'.get? b=some o
  slot:∀ b o,h.get? b=some o→H b=none→b∈fs→b∉ex→∃ sl,h'.get? b=some { o with slots:=sl }
  free:∀ b o,h.get? b=some o→H b=none→b∉ex→H' b=none
  there:∀ b o,h.get? b=some o→b∉ex→∃ o',h'.get? b=some o'
  tups:∀ b xs,H b=some (.tup xs)→H' b=some (.tup xs)
  frzs:∀ b o u,H b=some (.frz o u)→H' b=some (.frz o u)
  tbls:∀ b ps,H b=some (.tbl ps)→∃ more,H' b=some (.tbl (ps++more))
section
variable {fs fs' ex ex':List Addr} {H H1 H2:Hp} {h h1 h2 h':Heap} {a x e:Addr} {o:HO}
theorem Un.any (u:Un fs ex H H1 h h1) {b:Addr} {ob:Obj} (q:h.get? b=some ob) (n:H b=none) (hx:b∉ex):∃ sl,h1.get? b=some { ob with slots:=sl }:=by
  by_cases hb:b∈fs
  · exact u.slot b ob q n hb hx
  · exact ⟨ob.slots,u.keep b ob q n hb hx⟩
theorem Un.trans (a:Un fs ex H H1 h h1) (b:Un fs ex H1 H2 h1 h2):Un fs ex H H2 h h2 where
  keep:=fun c ob q n hc hx=>b.keep c ob (a.keep c ob q n hc hx) (a.free c ob q n hx) hc hx
  slot:=fun c ob q n hc hx=>by
    obtain ⟨sl,e1⟩:=a.slot c ob q n hc hx
    obtain ⟨sl',e2⟩:=b.slot c _ e1 (a.free c ob q n hx) hc hx
    exact ⟨sl',e2⟩
  free:=fun c ob q n hx=>by
    obtain ⟨o',e1⟩:=a.there c ob q hx
    exact b.free c o' e1 (a.free c ob q n hx) hx
  there:=fun c ob q hx=>by
    obtain ⟨o',e1⟩:=a.there c ob q hx
    exact b.there c o' e1 hx
  tups:=fun c xs q=>b.tups c xs (a.tups c xs q)
  frzs:=fun c ob xs q=>b.frzs c ob xs (a.frzs c ob xs q)
  tbls:=fun c ps q=>by
    obtain ⟨m1,e1⟩:=a.tbls c ps q
    obtain ⟨m2,e2⟩:=b.tbls c _ e1
    exact ⟨m1++m2,by rw [e2,Array.append_assoc]⟩
theorem Un.kept (k:∀ b u,h.get? b=some u→h'.get? b=some u):Un fs ex H H h h' :=
  ⟨fun b ob q _ _ _=>k b ob q,fun b ob q _ _ _=>⟨ob.slots,k b ob q⟩,fun _ _ _ n _=>n,fun b ob q _=>⟨ob,k b ob q⟩,fun _ _ q=>q,fun _ _ _ q=>q,fun _ ps q=>⟨#[],by rw [q];simp⟩⟩
theorem Un.refl:Un fs ex H H h h:=Un.kept fun _ _ q=>q
theorem Un.laid (k:∀ b u,h.get? b=some u→h'.get? b=some u) (hp:h.objs.size≤a) (hn:H a=none):Un fs ex H (upd H a o) h h' where
  keep:=fun b u q _ _ _=>k b u q
  slot:=fun b u q _ _ _=>⟨u.slots,k b u q⟩
  free:=fun b u q n _=>by rw [Qt (Nat.ne_of_lt (Nat.lt_of_lt_of_le (Heap.lt_size q) hp))];exact n
  there:=fun b u q _=>⟨u,k b u q⟩
  tups:=fun b xs q=>by rw [Qt (Qu q hn)];exact q
  frzs:=fun b u xs q=>by rw [Qt (Qu q hn)];exact q
  tbls:=fun b ps q=>⟨#[],by rw [Qt (Qu q hn),q];simp⟩
theorem Un.write (mu:Mut (H x)) (he:e=x∨H e=some (.own x)) (k:∀ b u,b≠e→h.get? b=some u→h'.get? b=some u) (heo:∃ u,h'.get? e=some u):Un fs ex H (upd H x o) h h':=by
  have hx:∀ b,H b=none→b≠x:=fun b n z=>by subst z;rw [n] at mu;exact mu
  have hb:∀ b,H b=none→b≠e:=fun b n z=>by
    subst z
    rcases he with r | r
    · exact hx b n r
    · rw [n] at r;cases r
  have hm:∀ b u,H b=some u→¬ Mut (some u)→b≠x:=fun b u q nm z=>by subst z;rw [q] at mu;exact nm mu
  refine ⟨fun b u q n _ _=>k b u (hb b n) q,fun b u q n _ _=>⟨u.slots,k b u (hb b n) q⟩,fun b u q n _=>by rw [Qt (hx b n)];exact n,fun b u q _ => ?_,
    fun b xs q=>by rw [Qt (hm b _ q fun z=>z)];exact q,fun b u xs q=>by rw [Qt (hm b _ q fun z=>z)];exact q,fun b ps q=>⟨#[],by rw [Qt (hm b _ q fun z=>z),q];simp⟩⟩
  by_cases hbe:b=e
  · subst hbe;exact heo
  · exact ⟨u,k b u hbe q⟩
theorem Un.mono (u:Un fs ex H H1 h h1) (hs:∀ b∈fs,b∈fs') (hx:∀ b∈ex,b∈ex'):Un fs' ex' H H1 h h1 :=
  ⟨fun b ob q n hb he=>u.keep b ob q n (fun z=>hb (hs b z)) fun z=>he (hx b z),fun _ _ q n _ he=>u.any q n fun z=>he (hx _ z),fun b ob q n he=>u.free b ob q n fun z=>he (hx b z),fun b ob q he=>u.there b ob q fun z=>he (hx b z),u.tups,u.frzs,u.tbls⟩
end

noncomputable def trk (h:Heap) (H:Hp):List Addr:=(List.range h.objs.size).filter fun a=>(H a).isSome
noncomputable def hidT (h:Heap) (H:Hp):Heap:=PySem.W.hideAll h (trk h H)
theorem QjQ (h:Heap) (H:Hp):(hidT h H).objs.size=h.objs.size:=PySem.W.hideAll_size _ _
theorem hidT_get {h:Heap} {H:Hp} {b:Addr} {o:Obj} (e:h.get? b=some o) (n:H b=none):(hidT h H).get? b=some o :=
  PySem.W.hideAll_get _ e fun hm=>by
    have q:(H b).isSome=true:=(List.mem_filter.mp hm).2
    rw [n] at q;simp at q
theorem of_hidT {h:Heap} {H:Hp} {b:Addr} {o:Obj} (e:(hidT h H).get? b=some o):h.get? b=some o∧H b=none:=by
  have e':h.get? b=some o:=PySem.W.of_hideAll (trk h H) e
  refine ⟨e',?_⟩
  cases q:H b with
  | none=>rfl
  | some x =>
    have hm:b∈trk h H:=List.mem_filter.mpr ⟨List.mem_range.mpr (Heap.lt_size e'),by simp [q]⟩
    have z:(hidT h H).get? b=none:=PySem.W.hideAll_none (trk h H) hm
    rw [z] at e;cases e

noncomputable def allNews (g h:Heap) (L:Addr):List (Addr×Obj):=(List.range h.objs.size).filterMap fun a=>if a=L∨(g.get? a).isSome=true then none else (h.get? a).map fun o=>(a,o)
noncomputable def rest (g h:Heap) (L d:Addr):List (Addr×Obj):=(allNews g h L).filter fun p=>decide (p.1≠d)
end L2

namespace L2
open PySem PySem.Spec PyProof.Rows

structure Mod (K:PySem.W.Frag) (mg:Str→Option Value) (base:Heap):Prop where
  kin:K.In base
  glob:base.Ns mainGlobals mg
  blt:∃ mb,base.Ns builtinsNs mb∧∀ x:Str,x ≠ "__name__"→mb x=bootBuiltins x
  nolimit:base.NoLimit

structure Cx where
  prog:Program
  w:World
  K:PySem.W.Frag
  mg:Str→Option Value
  base:Heap
  A:Around
  N:List Str
  s₀:Shared
  H₀:Hp
  env:Env
  outer:List Env
  stack:List Env
  ex:List Addr
  fn:Str→Bool
  calm:Bool
  pn:List (Addr×Obj)
  xe:Value→Shared→Prop
noncomputable def frs (l:List Env):List Addr:=l.filterMap (·.frame)
noncomputable abbrev Cx.fs (X:Cx):List Addr:=frs X.outer

noncomputable def Vis (sc:Scope) (x:Str):Prop:=sc.names.lookup x=some .local∨sc.names.lookup x=some .cell∨sc.names.lookup x=some .free
noncomputable def Loc (sc:Scope) (x:Str):Prop:=sc.names.lookup x=some .local∨sc.names.lookup x=some .cell
noncomputable def Look (env:Env) (h:Heap) (m:Str→Option Value) (x:Str) (u:Value):Prop :=
  (env.kindOf x=some .local∧m x=some u)∨((env.kindOf x=some .cell∨env.kindOf x=some .free)∧∃ c,env.cells.lookup x=some c∧h.IsCell c (some u))

structure Cx.Ok (X:Cx):Prop where
  mod:Mod X.K X.mg X.base
  kind:X.env.scope.kind = .function
  glob:X.env.globals=mainGlobals
  blt:X.env.builtins=builtinsNs
  above:X.s₀.heap.objs.size≤X.env.locals
  inj:∀ x y c,X.env.cells.lookup x=some c→X.env.cells.lookup y=some c→x=y
  has:∀ x,(X.env.kindOf x=some .cell∨X.env.kindOf x=some .free)→∃ c,X.env.cells.lookup x=some c
  cab:∀ x c,X.fn x=true→X.env.cells.lookup x=some c→X.s₀.heap.objs.size≤c
  hd:X.calm=true→X.A.handled=none
  frames:X.A.frames=some X.stack
  stk:X.stack=X.outer∨(X.stack=X.env :: X.outer∧X.env.frame=some X.env.locals)
  exf:∀ b∈X.ex,b≠X.env.locals∧∀ x c,X.env.cells.lookup x=some c→c≠b
  bs:∀ b o,X.base.get? b=some o→X.s₀.heap.get? b=some o∧X.H₀ b=none
  bsz:X.base.objs.size≤X.s₀.heap.objs.size
  noex:∀ b o,X.base.get? b=some o→b∉X.ex
  exfs:∀ b∈X.ex,b∉X.fs
  funs:X.s₀.heap.FunFrames X.base X.outer
  frf:∀ b∈X.fs,X.H₀ b=none

structure Inv (X:Cx) (pins:List (Addr×Obj)) (σ:List (Option V)) (H:Hp) (s:Shared):Prop where
  ok:X.Ok
  os:s.os=X.s₀.os
  bare:AllBare s.gens
  base:Un X.fs X.ex X.H₀ H X.s₀.heap s.heap
  loc:∃ m,s.heap.Ns X.env.locals m∧∀ (i:Nat) (x:Str) (v:V),X.N[i]?=some x→σ[i]?=some (some v)→Vis X.env.scope x→∃ u,RelV v u∧Look X.env s.heap m x u
  cell:∀ x c,X.env.cells.lookup x=some c→∃ v,s.heap.IsCell c v
  free:H X.env.locals=none
  freeC:∀ x c,X.env.cells.lookup x=some c→H c=none
  pin:∀ p∈X.pn++pins,s.heap.get? p.1=some p.2∧H p.1=none∧p.1≠X.env.locals∧p.1∉X.fs∧∀ v,p.2.data ≠ .cell v
  hok:HOk X.prog X.w H s.heap
  len:σ.length=X.N.length

section
variable {X:Cx} {pins:List (Addr×Obj)} {σ:List (Option V)} {H H':Hp} {s:Shared} {h':Heap}

theorem Cx.Ok.nofr (ok:X.Ok) {b:Addr} {o:Obj} (e:X.base.get? b=some o):b∉X.fs:=fun hb=>by
  have:=(ok.funs.mem hb).1
  rw [e] at this;cases this
theorem Inv.bs (I:Inv X pins σ H s):∀ b o,X.base.get? b=some o→s.heap.get? b=some o∧H b=none:=fun b o e =>
  ⟨I.base.keep b o (I.ok.bs b o e).1 (I.ok.bs b o e).2 (I.ok.nofr e) (I.ok.noex b o e),I.base.free b o (I.ok.bs b o e).1 (I.ok.bs b o e).2 (I.ok.noex b o e)⟩
theorem Inv.bk (I:Inv X pins σ H s):∀ b o,X.base.get? b=some o→s.heap.get? b=some o:=fun b o e=>(I.bs b o e).1
theorem Inv.mod (I:Inv X pins σ H s):Mod X.K X.mg X.base:=I.ok.mod
theorem Inv.kIn (I:Inv X pins σ H s):X.K.In s.heap:=I.ok.mod.kin.keeps I.bk
theorem Inv.nolimit (I:Inv X pins σ H s):s.heap.NoLimit:=I.ok.mod.nolimit.keeps I.bk
theorem Inv.lt (I:Inv X pins σ H s):X.env.locals < s.heap.objs.size:=let ⟨_,hn,_⟩:=I.loc;hn.lt
theorem Inv.sz (I:Inv X pins σ H s):X.s₀.heap.objs.size≤s.heap.objs.size:=Nat.le_trans I.ok.above (Nat.le_of_lt I.lt)
theorem Inv.nofs (I:Inv X pins σ H s) {a:Addr} (h:s.heap.objs.size≤a):a∉X.fs:=fun hb=>by
  obtain ⟨_,o,ho,_⟩:=I.ok.funs.mem hb
  exact absurd (Nat.lt_of_lt_of_le (Heap.lt_size ho) (Nat.le_trans I.sz h)) (Nat.lt_irrefl _)
theorem Inv.cne (I:Inv X pins σ H s):∀ x c,X.env.cells.lookup x=some c→c≠X.env.locals:=fun x c e z=>by
  obtain ⟨v,o,ho,hd⟩:=I.cell x c e
  obtain ⟨m,⟨o',es,ep,ho',hd',_⟩,_⟩:=I.loc
  rw [z,ho'] at ho;cases ho;rw [hd'] at hd;cases hd
theorem Inv.funs (I:Inv X pins σ H s):s.heap.FunFrames X.base X.outer:=by
  have all:∀ (l:List Env),(∀ b∈frs l,b∈X.fs)→X.s₀.heap.FunFrames X.base l→s.heap.FunFrames X.base l:=by
    intro l
    induction l with
    | nil=>intro _ _;trivial
    | cons env r ih =>
      intro hs hl
      obtain ⟨hk,⟨L,o,hf,hn,ho,hd⟩,hr⟩:=hl
      have hL:L∈X.fs:=hs L (by unfold frs;rw [List.filterMap_cons,hf];exact List.mem_cons_self)
      obtain ⟨sl,e⟩:=I.base.slot L o ho (I.ok.frf L hL) hL fun z=>I.ok.exfs L z hL
      exact ⟨hk,⟨L,_,hf,hn,e,hd⟩,ih (fun b hb=>hs b (by unfold frs;rw [List.filterMap_cons,hf];exact List.mem_cons_of_mem _ hb)) hr⟩
  exact all X.outer (fun _ hb=>hb) I.ok.funs

theorem Inv.stack (I:Inv X pins σ H s):s.heap.FunFrames X.base X.stack:=by
  rcases I.ok.stk with e | ⟨e,hf⟩
  · rw [e];exact I.funs
  · rw [e]
    obtain ⟨m,hn,_⟩:=I.loc
    refine .cons (by rw [I.ok.kind];decide) hf hn ?_ I.funs
    exact Heap.get?_none_of_le (Nat.le_trans I.ok.bsz I.ok.above)
theorem Inv.stkSub (I:Inv X pins σ H s):∀ b∈frs X.stack,b∈X.env.locals :: X.fs:=fun b hb=>by
  rcases I.ok.stk with e | ⟨e,hf⟩
  · rw [e] at hb;exact List.mem_cons_of_mem _ hb
  · rw [e] at hb
    unfold frs at hb
    rw [List.filterMap_cons,hf] at hb
    exact hb
theorem Inv.stkFree (I:Inv X pins σ H s):∀ b∈frs X.stack,H b=none:=fun b hb=>by
  rcases List.mem_cons.mp (I.stkSub b hb) with e | hb
  · rw [e];exact I.free
  · obtain ⟨_,o,ho,_⟩:=I.ok.funs.mem hb
    exact I.base.free b o ho (I.ok.frf b hb) fun z=>I.ok.exfs b z hb

theorem Inv.step {g':Array GenState} {t':Nat} {d':Drawn} {ch:List Addr} (I:Inv X pins σ H s)
    (hch:∀ b∈ch,(b∈X.ex∨X.s₀.heap.objs.size≤b)∧b≠X.env.locals∧(∀ x c,X.env.cells.lookup x=some c→c≠b)∧∀ p∈X.pn++pins,p.1≠b)
    (keep:∀ b o,b≠X.env.locals→b∉X.fs→b∉ch→s.heap.get? b=some o→H b=none→h'.get? b=some o)
    (slot:∀ b o,b≠X.env.locals→b∈X.fs→b∉ch→s.heap.get? b=some o→H b=none→∃ sl,h'.get? b=some { o with slots:=sl }) (free:∀ b o,b∉ch→s.heap.get? b=some o→H b=none→H' b=none)
    (there:∀ b o,b∉ch→s.heap.get? b=some o→∃ o',h'.get? b=some o')
    (tups:∀ b xs,H b=some (.tup xs)→H' b=some (.tup xs)) (frzs:∀ b o u,H b=some (.frz o u)→H' b=some (.frz o u)) (tbls:∀ b ps,H b=some (.tbl ps)→∃ more,H' b=some (.tbl (ps++more)))
    (ns:∀ m,s.heap.Ns X.env.locals m→h'.Ns X.env.locals m) (hok:HOk X.prog X.w H' h') (hg:AllBare g') :
    Inv X pins σ H' { s with heap:=h',gens:=g',drawn:=d',toks:=t' }:=by
  have neL:∀ b o,X.s₀.heap.get? b=some o→b≠X.env.locals:=fun b o e=>Nat.ne_of_lt (Nat.lt_of_lt_of_le (Heap.lt_size e) I.ok.above)
  have neC:∀ b o,X.s₀.heap.get? b=some o→b∉X.ex→b∉ch:=fun b o e hx hb=>by
    rcases (hch b hb).1 with z | z
    · exact hx z
    · exact absurd (Nat.lt_of_lt_of_le (Heap.lt_size e) z) (Nat.lt_irrefl _)
  have cellK:∀ x c,X.env.cells.lookup x=some c→∀ v,s.heap.IsCell c v→h'.IsCell c v:=fun x c e v ⟨o,ho,hd⟩=>by
    have nch:c∉ch:=fun z=>(hch c z).2.2.1 x c e rfl
    by_cases hc:c∈X.fs
    · obtain ⟨sl,q⟩:=slot c o (I.cne x c e) hc nch ho (I.freeC x c e)
      exact ⟨_,q,hd⟩
    · exact ⟨o,keep c o (I.cne x c e) hc nch ho (I.freeC x c e),hd⟩
  refine ⟨I.ok,I.os,hg,⟨fun b o e n hb hx => ?_,fun b o e n hb hx => ?_,fun b o e n hx => ?_,fun b o e hx => ?_,fun b xs e=>tups b xs (I.base.tups b xs e),fun b o xs e=>frzs b o xs (I.base.frzs b o xs e),fun b ps e => ?_⟩,?_,fun x c e => ?_,?_,fun x c e => ?_,fun p hp => ?_,hok,I.len⟩
  · exact keep b o (neL b o e) hb (neC b o e hx) (I.base.keep b o e n hb hx) (I.base.free b o e n hx)
  · obtain ⟨sl,e1⟩:=I.base.slot b o e n hb hx
    obtain ⟨sl',e2⟩:=slot b _ (neL b o e) hb (neC b o e hx) e1 (I.base.free b o e n hx)
    exact ⟨sl',e2⟩
  · obtain ⟨o',e1⟩:=I.base.there b o e hx
    exact free b o' (neC b o e hx) e1 (I.base.free b o e n hx)
  · obtain ⟨o',e1⟩:=I.base.there b o e hx
    exact there b o' (neC b o e hx) e1
  · obtain ⟨m1,e1⟩:=I.base.tbls b ps e
    obtain ⟨m2,e2⟩:=tbls b _ e1
    exact ⟨m1++m2,by rw [e2,Array.append_assoc]⟩
  · obtain ⟨m,hn,hl⟩:=I.loc
    refine ⟨m,ns m hn,fun i x v e1 e2 e3 => ?_⟩
    obtain ⟨u,r,l⟩:=hl i x v e1 e2 e3
    refine ⟨u,r,?_⟩
    rcases l with l | ⟨k,c,e,z⟩
    · exact .inl l
    · exact .inr ⟨k,c,e,cellK x c e _ z⟩
  · obtain ⟨v,z⟩:=I.cell x c e
    exact ⟨v,cellK x c e v z⟩
  · obtain ⟨m,⟨o,_,_,ho,_⟩,_⟩:=I.loc
    exact free _ o (fun z=>(hch _ z).2.1 rfl) ho I.free
  · obtain ⟨v,o,ho,hd⟩:=I.cell x c e
    exact free c o (fun z=>(hch c z).2.2.1 x c e rfl) ho (I.freeC x c e)
  · obtain ⟨e,n,ne,nf,d⟩:=I.pin p hp
    have nch:p.1∉ch:=fun z=>(hch p.1 z).2.2.2 p hp rfl
    exact ⟨keep p.1 p.2 ne nf nch e n,free p.1 p.2 nch e n,ne,nf,d⟩
theorem Inv.un {t':Nat} (I:Inv X pins σ H s) (u:Un X.fs [] H H' s.heap h') (hok:HOk X.prog X.w H' h'):Inv X pins σ H' { s with heap:=h',toks:=t' }:=by
  obtain ⟨m,⟨o,es,ep,ho,r⟩,_⟩:=id I.loc
  obtain ⟨sl,hL⟩:=u.any ho I.free (by simp)
  exact I.step (g':=s.gens) (d':=s.drawn) (ch:=[]) (fun _ z=>nomatch z) (fun b o _ hb _ e n=>u.keep b o e n hb (by simp)) (fun b o _ hb _ e n=>u.slot b o e n hb (by simp)) (fun b o _ e n=>u.free b o e n (by simp)) (fun b o _ e=>u.there b o e (by simp)) u.tups u.frzs u.tbls (fun m' hm=>by
    obtain ⟨o',es',ep',ho',r'⟩:=hm
    rw [ho] at ho';cases ho'
    exact ⟨_,es',ep',hL,r'⟩) hok I.bare
theorem Inv.call {g':Array GenState} {t':Nat} {d':Drawn} {ch:List Addr} (I:Inv X pins σ H s) (u:Un (frs X.stack) ch H H' s.heap h') (hok:HOk X.prog X.w H' h') (hg:AllBare g')
    (hch:∀ b∈ch,(b∈X.ex∨X.s₀.heap.objs.size≤b)∧b≠X.env.locals∧(∀ x c,X.env.cells.lookup x=some c→c≠b)∧∀ p∈X.pn++pins,p.1≠b) :
    Inv X pins σ H' { s with heap:=h',gens:=g',drawn:=d',toks:=t' }:=by
  obtain ⟨m,⟨o,es,ep,ho,r⟩,_⟩:=id I.loc
  obtain ⟨sl,hL⟩:=u.any ho I.free fun z=>(hch _ z).2.1 rfl
  exact I.step (ch:=ch) hch (fun b o hL hb hc e n=>u.keep b o e n (fun z=>(List.mem_cons.mp (I.stkSub b z)).elim hL hb) hc) (fun b o _ _ hc e n=>u.any e n hc) (fun b o hc e n=>u.free b o e n hc) (fun b o hc e=>u.there b o e hc) u.tups u.frzs u.tbls (fun m' hm=>by
    obtain ⟨o',es',ep',ho',r'⟩:=hm
    rw [ho] at ho';cases ho'
    exact ⟨_,es',ep',hL,r'⟩) hok hg
theorem Inv.turned {t':Nat} {it:Addr} (I:Inv X pins σ H s) (k:∀ b o,b≠it→s.heap.get? b=some o→h'.get? b=some o) (hn:H it=none) (hL:it≠X.env.locals)
    (h1:it∈X.ex∨X.s₀.heap.objs.size≤it) (h2:∀ x c,X.env.cells.lookup x=some c→c≠it) (h3:∀ p∈X.pn++pins,p.1≠it):Inv X pins σ H { s with heap:=h',toks:=t' }:=by
  have nit:∀ b u,H b=some u→b≠it:=fun b u e z=>by rw [z,hn] at e;cases e
  refine I.step (g':=s.gens) (d':=s.drawn) (ch:=[it]) (fun b hb => ?_) (fun b o _ _ hc e _=>k b o (fun z=>hc (by simp [z])) e) (fun b o _ _ hc e _=>⟨o.slots,k b o (fun z=>hc (by simp [z])) e⟩) (fun _ _ _ _ n=>n)
    (fun b o hc e=>⟨o,k b o (fun z=>hc (by simp [z])) e⟩) (fun _ _ e=>e) (fun _ _ _ e=>e) (fun b ps e=>⟨#[],by rw [e];simp⟩) (fun m hm => ?_) (fun b u e => ?_) I.bare
  · have e:b=it:=by simpa using hb
    subst e
    exact ⟨h1,hL,h2,h3⟩
  · obtain ⟨o,es,ep,ho,r⟩:=hm
    exact ⟨o,es,ep,k _ o (Ne.symm hL) ho,r⟩
  · refine (I.hok b u e).stay (fun c v hc q=>k c v ?_ q) (fun _ q=>q) fun _ _ q=>q
    rcases hc with z | z
    · rw [z];exact nit b u e
    · exact nit c _ z
theorem Inv.tok (I:Inv X pins σ H s) (t:Nat):Inv X pins σ H { s with toks:=t }:=I.un (h':=s.heap) (t':=t) Un.refl I.hok
theorem Inv.kept {t':Nat} (I:Inv X pins σ H s) (k:∀ b u,s.heap.get? b=some u→h'.get? b=some u):Inv X pins σ H { s with heap:=h',toks:=t' }:=I.un (Un.kept k) (I.hok.kept k)
theorem Inv.laid {a:Addr} {o:HO} {t':Nat} (I:Inv X pins σ H s) (k:∀ b u,s.heap.get? b=some u→h'.get? b=some u) (hp:s.heap.objs.size≤a) (new:YC X.prog X.w (upd H a o) h' a o) :
    Inv X pins σ (upd H a o) { s with heap:=h',toks:=t' }:=I.un (Un.laid k hp (I.hok.fresh hp)) (I.hok.laid k hp new)
theorem Inv.write {x e:Addr} {o:HO} {t':Nat} (I:Inv X pins σ H s) (mu:Mut (H x)) (he:e=x∨H e=some (.own x)) (k:∀ b u,b≠e→s.heap.get? b=some u→h'.get? b=some u) (heo:∃ u,h'.get? e=some u)
    (new:YC X.prog X.w (upd H x o) h' x o):Inv X pins σ (upd H x o) { s with heap:=h',toks:=t' }:=I.un (Un.write mu he k heo) (I.hok.write mu he k heo new)
theorem Inv.weak {σ':List (Option V)} (I:Inv X pins σ H s) (hl:σ'.length=σ.length) (w:∀ (i:Nat) v,σ'[i]?=some (some v)→σ[i]?=some (some v)):Inv X pins σ' H s :=
  ⟨I.ok,I.os,I.bare,I.base,let ⟨m,hn,hl'⟩:=I.loc;⟨m,hn,fun i x v e1 e2 e3=>hl' i x v e1 (w i v e2) e3⟩,I.cell,I.free,I.freeC,I.pin,I.hok,hl.trans I.len⟩
theorem Inv.pins_of {pins':List (Addr×Obj)} (I:Inv X pins σ H s) (h:∀ p∈pins',s.heap.get? p.1=some p.2∧H p.1=none∧p.1≠X.env.locals∧p.1∉X.fs∧∀ v,p.2.data ≠ .cell v):Inv X pins' σ H s :=
  ⟨I.ok,I.os,I.bare,I.base,I.loc,I.cell,I.free,I.freeC,fun p hp=>(List.mem_append.mp hp).elim (fun z=>I.pin p (List.mem_append_left _ z)) (h p),I.hok,I.len⟩

theorem Qhd {N:List Str} (hN:N.Nodup) {i j:Nat} {x:Str} (a:N[i]?=some x) (b:N[j]?=some x):i=j:=by
  obtain ⟨h1,e1⟩:=List.getElem?_eq_some_iff.mp a
  obtain ⟨h2,e2⟩:=List.getElem?_eq_some_iff.mp b
  exact (List.getElem_inj hN).mp (e1.trans e2.symm)

theorem QeN {M:Model} {A:Around} {E:Value→Shared→Prop} {i:Nat} {x:Str} {v:V} {u:Value} {Q:Unit→Shared→Prop} (I:Inv X pins σ H s) (hN:X.N.Nodup) (hi:X.N[i]?=some x) (hx:Loc X.env.scope x) (r:RelV v u)
    (h:∀ s',Inv X pins (σ.set i (some v)) H s'→(∃ a,Heap.SameBut a s.heap s'.heap∧(a=X.env.locals∨X.env.cells.lookup x=some a))→Q () s') (hf:X.fn x=true∨X.env.scope.names.lookup x=some .local:=by first | exact .inl rfl | exact .inr rfl | assumption):wpAny M A (storeName X.env x u) Q E s:=by
  obtain ⟨m,hn,hl⟩:=id I.loc
  have hcls:(X.env.scope.kind == .class||(X.env.scope.kind == .module&&X.env.locals != X.env.globals))=false:=by rw [I.ok.kind];rfl
  have hiσ:i < σ.length:=by rw [I.len];exact (List.getElem?_eq_some_iff.mp hi).1
  have cne:=I.cne
  have tracked:∀ {a:Addr} {h':Heap},(∃ o,s.heap.get? a=some o∧H a=none)→Heap.SameBut a s.heap h'→HOk X.prog X.w H h':=fun {a h'} ha hs b ob e=>by
    obtain ⟨_,_,hfree⟩:=ha
    refine (I.hok b ob e).stay (fun c w' hc q=>(hs.2 c ?_).trans q) (fun _ q=>q) fun _ _ q=>q
    rintro rfl
    rcases hc with rfl | hc
    · rw [hfree] at e;cases e
    · rw [hfree] at hc;cases hc
  rcases hx with hk | hk
  · refine wpAny_storeName_local hk hn (fun h' hn' hs => ?_) hcls
    obtain ⟨oL,_,_,hoL,_⟩:=id hn
    refine h _ ⟨I.ok,I.os,I.bare,⟨fun b o e n hb hx => ?_,fun b o e n hb hx => ?_,I.base.free,fun b o e hx => ?_,I.base.tups,I.base.frzs,I.base.tbls⟩,⟨_,hn',fun j y v' e1 e2 e3 => ?_⟩,fun y c e => ?_,I.free,I.freeC,fun p hp => ?_,tracked ⟨oL,hoL,I.free⟩ hs,by simpa using I.len⟩ ⟨_,hs,.inl rfl⟩
    · exact (hs.2 b (Nat.ne_of_lt (Nat.lt_of_lt_of_le (Heap.lt_size e) I.ok.above))).trans (I.base.keep b o e n hb hx)
    · obtain ⟨sl,e1⟩:=I.base.slot b o e n hb hx
      exact ⟨sl,(hs.2 b (Nat.ne_of_lt (Nat.lt_of_lt_of_le (Heap.lt_size e) I.ok.above))).trans e1⟩
    · obtain ⟨o',e1⟩:=I.base.there b o e hx
      exact ⟨o',(hs.2 b (Nat.ne_of_lt (Nat.lt_of_lt_of_le (Heap.lt_size e) I.ok.above))).trans e1⟩
    · by_cases hj:j=i
      · subst hj
        rw [hi] at e1;cases e1
        rw [List.getElem?_set_self hiσ] at e2
        cases e2
        exact ⟨u,r,.inl ⟨hk,by simp⟩⟩
      · rw [List.getElem?_set_ne (Ne.symm hj)] at e2
        obtain ⟨u',r',q⟩:=hl j y v' e1 e2 e3
        refine ⟨u',r',?_⟩
        rcases q with ⟨k,e⟩ | ⟨k,c,e,z⟩
        · refine .inl ⟨k,?_⟩
          have:y≠x:=fun e=>hj (Qhd hN e1 (e ▸ hi))
          simp [this,e]
        · exact .inr ⟨k,c,e,z.sameBut hs (cne y c e)⟩
    · obtain ⟨w',z⟩:=I.cell y c e
      exact ⟨w',z.sameBut hs (cne y c e)⟩
    · obtain ⟨e,n,ne,nf,d⟩:=I.pin p hp
      exact ⟨(hs.2 p.1 ne).trans e,n,ne,nf,d⟩
  · have hfn:X.fn x=true:=by
      rcases hf with z | z
      · exact z
      · rw [z] at hk;cases hk
    obtain ⟨c,hc⟩:=I.ok.has x (.inl hk)
    obtain ⟨w',z⟩:=I.cell x c hc
    refine wpAny_storeName_cell I.ok.kind hk hc z (fun h' hc' hs => ?_)
    obtain ⟨oc,hoc,hocd⟩:=id z
    refine h { s with heap:=h' } ⟨I.ok,I.os,I.bare,⟨fun b o e n hb hx => ?_,fun b o e n hb hx => ?_,I.base.free,fun b o e hx => ?_,I.base.tups,I.base.frzs,I.base.tbls⟩,⟨m,hn.sameBut hs (Ne.symm (cne x c hc)),fun j y v' e1 e2 e3 => ?_⟩,fun y c' e => ?_,I.free,I.freeC,fun p hp => ?_,tracked ⟨oc,hoc,I.freeC x c hc⟩ hs,by simpa using I.len⟩ ⟨c,hs,.inr hc⟩
    · exact (hs.2 b (Nat.ne_of_lt (Nat.lt_of_lt_of_le (Heap.lt_size e) (I.ok.cab x c hfn hc)))).trans (I.base.keep b o e n hb hx)
    · obtain ⟨sl,e1⟩:=I.base.slot b o e n hb hx
      exact ⟨sl,(hs.2 b (Nat.ne_of_lt (Nat.lt_of_lt_of_le (Heap.lt_size e) (I.ok.cab x c hfn hc)))).trans e1⟩
    · obtain ⟨o',e1⟩:=I.base.there b o e hx
      exact ⟨o',(hs.2 b (Nat.ne_of_lt (Nat.lt_of_lt_of_le (Heap.lt_size e) (I.ok.cab x c hfn hc)))).trans e1⟩
    · by_cases hj:j=i
      · subst hj
        rw [hi] at e1;cases e1
        rw [List.getElem?_set_self hiσ] at e2
        cases e2
        exact ⟨u,r,.inr ⟨.inl hk,c,hc,hc'⟩⟩
      · rw [List.getElem?_set_ne (Ne.symm hj)] at e2
        obtain ⟨u',r',q⟩:=hl j y v' e1 e2 e3
        refine ⟨u',r',?_⟩
        rcases q with q | ⟨k,c',e,z'⟩
        · exact .inl q
        · refine .inr ⟨k,c',e,z'.sameBut hs ?_⟩
          rintro rfl
          exact hj (Qhd hN e1 (I.ok.inj _ _ _ e hc ▸ hi))
    · by_cases hcc:c'=c
      · subst hcc;exact ⟨_,hc'⟩
      · obtain ⟨w2,z2⟩:=I.cell y c' e
        exact ⟨w2,z2.sameBut hs hcc⟩
    · obtain ⟨e,n,ne,nf,d⟩:=I.pin p hp
      refine ⟨(hs.2 p.1 ?_).trans e,n,ne,nf,d⟩
      intro q
      rw [q,hoc] at e
      have q':oc=p.2:=Option.some.inj e
      exact d w' (by rw [← q'];exact hocd)
theorem QdZ {M:Model} {A:Around} {E:Value→Shared→Prop} {i:Nat} {x:Str} {v:V} {u:Value} {Q:Unit→Shared→Prop} (I:Inv X pins σ H s) (hN:X.N.Nodup) (hi:X.N[i]?=some x) (hx:Loc X.env.scope x) (r:RelV v u)
    (h:∀ s',Inv X pins (σ.set i (some v)) H s'→Q () s') (hf:X.fn x=true∨X.env.scope.names.lookup x=some .local:=by first | exact .inl rfl | exact .inr rfl | assumption):wpAny M A (storeName X.env x u) Q E s :=
  QeN I hN hi hx r (fun s' I' _=>h s' I') hf
theorem Inv.call' {s':Shared} {ch:List Addr} (I:Inv X pins σ H s) (ho:s'.os=s.os) (u:Un (frs X.stack) ch H H' s.heap s'.heap) (hok:HOk X.prog X.w H' s'.heap) (hg:AllBare s'.gens)
    (hch:∀ b∈ch,(b∈X.ex∨X.s₀.heap.objs.size≤b)∧b≠X.env.locals∧(∀ x c,X.env.cells.lookup x=some c→c≠b)∧∀ p∈X.pn++pins,p.1≠b):Inv X pins σ H' s':=by
  obtain ⟨h',g',d',t',o'⟩:=s'
  have e:o'=s.os:=ho
  subst e
  exact I.call (g':=g') (t':=t') (d':=d') u hok hg hch
end

noncomputable abbrev XK:=Value→Option Addr→Hp→Prop
noncomputable abbrev St:=List (Option V)
noncomputable abbrev VK:=V→Hp→Prop
noncomputable abbrev TE:=St→Hp→VK→Prop
noncomputable abbrev TT:=St→Hp→(Bool→Hp→Prop)→Prop
noncomputable abbrev TA:=St→Hp→(List V→Hp→Prop)→Prop
structure Ends where
  nx:St→Hp→Prop
  rt:VK
  bk:St→Hp→Prop:=fun _ _=>False
  ct:St→Hp→Prop:=fun _ _=>False
noncomputable abbrev TS:=Ends→St→Hp→Prop

noncomputable def EP (X:Cx) (pins:List (Addr×Obj)) (σ:St) (Q:VK) (u:Value) (s':Shared):Prop:=∃ v H',Inv X pins σ H' s'∧RelV v u∧Q v H'
noncomputable def TP (X:Cx) (pins:List (Addr×Obj)) (σ:St) (Q:Bool→Hp→Prop) (b:Bool) (s':Shared):Prop:=∃ H',Inv X pins σ H' s'∧Q b H'
noncomputable def AP (X:Cx) (pins:List (Addr×Obj)) (σ:St) (Q:List V→Hp→Prop) (us:List Value) (s':Shared):Prop:=∃ vs H',Inv X pins σ H' s'∧Vals vs us∧Q vs H'
noncomputable def SP (X:Cx) (pins:List (Addr×Obj)) (D:Ends) (f:Flow) (s':Shared):Prop :=
  match f with
  | .next=>∃ σ' H',Inv X pins σ' H' s'∧D.nx σ' H'
  | .brk=>∃ σ' H',Inv X pins σ' H' s'∧D.bk σ' H'
  | .cont=>∃ σ' H',Inv X pins σ' H' s'∧D.ct σ' H'
  | .ret u=>∃ v σ' H',Inv X pins σ' H' s'∧RelV v u∧D.rt v H'

noncomputable def PE (X:Cx) (e:Expr) (t:TE):Prop :=
  ∀ (pins:List (Addr×Obj)) (s:Shared) (σ:St) (H:Hp) (Q:VK),Inv X pins σ H s→t σ H Q→wpAny (model X.prog X.w) X.A (eval e X.env) (EP X pins σ Q) X.xe s
noncomputable def PT (X:Cx) (e:Expr) (t:TT):Prop :=
  ∀ (pins:List (Addr×Obj)) (s:Shared) (σ:St) (H:Hp) (Q:Bool→Hp→Prop),Inv X pins σ H s→t σ H Q→wpAny (model X.prog X.w) X.A (isTrue e X.env (eval e X.env)) (TP X pins σ Q) X.xe s
noncomputable def PW (X:Cx) (e:Expr) (t:TT):Prop :=
  ∀ (whole:Sem Value) (pins:List (Addr×Obj)) (s:Shared) (σ:St) (H:Hp) (Q:Bool→Hp→Prop),Inv X pins σ H s→t σ H Q→wpAny (model X.prog X.w) X.A (isTrue e X.env whole) (TP X pins σ Q) X.xe s
theorem PW.pt {X:Cx} {e:Expr} {t:TT} (h:PW X e t):PT X e t:=h _
noncomputable def PA (X:Cx) (es:List Expr) (t:TA):Prop :=
  ∀ (pos:Pos) (pins:List (Addr×Obj)) (s:Shared) (σ:St) (H:Hp) (Q:List V→Hp→Prop),Inv X pins σ H s→t σ H Q→wpAny (model X.prog X.w) X.A (spliced (backTo pos (starEach es X.env))) (AP X pins σ Q) X.xe s
noncomputable def PS (X:Cx) (st:Stmt) (t:TS):Prop :=
  ∀ (pins:List (Addr×Obj)) (s:Shared) (σ:St) (H:Hp) (D:Ends),Inv X pins σ H s→t D σ H→wpAny (model X.prog X.w) X.A (exec st X.env) (SP X pins D) X.xe s
noncomputable def PSs (X:Cx) (st:List Stmt) (t:TS):Prop :=
  ∀ (pins:List (Addr×Obj)) (s:Shared) (σ:St) (H:Hp) (D:Ends),Inv X pins σ H s→t D σ H→wpAny (model X.prog X.w) X.A (execs st X.env) (SP X pins D) X.xe s
theorem thn {α:Type} {t:Sem α} {Q Q':α→Shared→Prop} {M:Model} {A:Around} {E:Value→Shared→Prop} {s:Shared} (h:wpAny M A t Q E s) (hQ:∀ a s,Q a s→Q' a s):wpAny M A t Q' E s:=wpAny_mono h hQ fun _ _ x=>x
end L2

namespace L2
open PySem PySem.Spec PyProof.Rows
section
variable {X:Cx}

noncomputable def tVar (i:Nat):TE:=fun σ H Q=>∃ v,σ[i]?=some (some v)∧Q v H
noncomputable def tC (v:V):TE:=fun _ H Q=>Q v H
theorem pe_var {i:Nat} {x:Str} {pos:Pos} (hN:X.N[i]?=some x) (hv:Vis X.env.scope x) (hd:(x==("__debug__":Str))=false:=by decide) (hcd:(x==("__classdict__":Str))=false:=by decide):PE X (.Name x pos) (tVar i):=by
  intro pins s σ H Q I h
  obtain ⟨v,e,h⟩:=h
  obtain ⟨m,hn,hl⟩:=I.loc
  obtain ⟨u,r,l⟩:=hl i x v hN e hv
  have fin:EP X pins σ Q u s:=⟨v,H,I,r,h⟩
  rcases l with ⟨hk,hm⟩ | ⟨hk,c,hc,hcell⟩
  · exact wpAny_Name (wpAny_loadName_local I.ok.kind hk hn hm fin) hd
  · rcases hk with hk | hk
    · exact wpAny_Name (wpAny_loadName_cell I.ok.kind hk hc hcell fin) hd
    · exact wpAny_Name (wpAny_loadName_free I.ok.kind hk hc hcell fin hcd) hd
theorem pe_int {i j pos}:PE X (.Constant (.int i) j pos) (tC (.int i)):=fun _ _ _ H _ I h=>wpAny_Constant_int ⟨.int i,H,I.tok _,⟨_,rfl⟩,h⟩
theorem pe_bl {b j pos}:PE X (.Constant (.bool b) j pos) (tC (.bl b)):=fun _ _ _ H _ I h=>Constant_bool ⟨.bl b,H,I,rfl,h⟩
theorem pe_non {j pos}:PE X (.Constant .none j pos) (tC .non):=fun _ _ _ H _ I h=>Constant_none ⟨.non,H,I,rfl,h⟩
theorem pe_str {x j pos}:PE X (.Constant (.str x) j pos) (tC (.str x)):=fun _ _ _ H _ I h=>Calls.Constant_str ⟨.str x,H,I.tok _,⟨_,rfl⟩,h⟩

noncomputable def Gl (X:Cx) (x:Str):Prop:=X.env.kindOf x=some .globalImplicit
theorem QfO {E:Value→Shared→Prop} {pins:List (Addr×Obj)} {s:Shared} {σ:St} {H:Hp} {x:Str} {u:Value} {pos:Pos} {Q:Value→Shared→Prop} (I:Inv X pins σ H s) (hg:Gl X x) (hm:X.mg x=some u) (h:Q u s)
    (hd:(x==("__debug__":Str))=false:=by decide):wpAny (model X.prog X.w) X.A (eval (.Name x pos) X.env) Q E s :=
  Calls.Name_function_global I.ok.kind hg (Calls.loadGlobal_global (by rw [I.ok.glob];exact I.mod.glob.keeps I.bk) hm h) hd
theorem QaL {E:Value→Shared→Prop} {pins:List (Addr×Obj)} {s:Shared} {σ:St} {H:Hp} {x:Str} {u:Value} {pos:Pos} {Q:Value→Shared→Prop} (I:Inv X pins σ H s) (hg:Gl X x) (hm:X.mg x=none) (hv:bootBuiltins x=some u) (h:Q u s)
    (hn:x ≠ "__name__":=by decide) (hd:(x==("__debug__":Str))=false:=by decide):wpAny (model X.prog X.w) X.A (eval (.Name x pos) X.env) Q E s:=by
  obtain ⟨mb,h1,h2⟩:=I.mod.blt
  exact Calls.Name_function_global I.ok.kind hg (Calls.loadGlobal_builtin (by rw [I.ok.glob];exact I.mod.glob.keeps I.bk) hm (by rw [I.ok.blt];exact h1.keeps I.bk) ((h2 x hn).trans hv) h) hd
theorem QiW {x:Str} {v:V} {u:Value} {pos:Pos} (hg:Gl X x) (hm:X.mg x=some u) (r:RelV v u) (hd:(x==("__debug__":Str))=false:=by decide):PE X (.Name x pos) (tC v) :=
  fun _ _ _ H _ I h=>QfO I hg hm ⟨v,H,I,r,h⟩ hd
theorem pe_bltn {x:Str} {v:V} {u:Value} {pos:Pos} (hg:Gl X x) (hm:X.mg x=none) (hv:bootBuiltins x=some u) (r:RelV v u) (hn:x ≠ "__name__":=by decide) (hd:(x==("__debug__":Str))=false:=by decide):PE X (.Name x pos) (tC v) :=
  fun _ _ _ H _ I h=>QaL I hg hm hv ⟨v,H,I,r,h⟩ hn hd

variable {a b:Expr} {ta tb:TE} {pos:Pos}
noncomputable def tB (t:TE):TT:=fun σ H Q=>t σ H fun x H1=>∃ c,x = .bl c∧Q c H1
variable {tA tB':TT} {rest:List Expr}
noncomputable def tAnd (t u:TT):TT:=fun σ H Q=>t σ H fun c H1=>if c=true then u σ H1 Q else Q false H1
noncomputable def tOr (t u:TT):TT:=fun σ H Q=>t σ H fun c H1=>if c=true then Q true H1 else u σ H1 Q
noncomputable def tNot (t:TT):TT:=fun σ H Q=>t σ H fun c H1=>Q (!c) H1
theorem pw_and1 (ha:PT X a tA):PW X (.BoolOp .And [a] pos) tA:=by
  intro wh pins s σ H Q I h
  refine isTrue_and (thn (ha pins s σ H Q I h) fun c s1 e => ?_)
  cases c with
  | true=>exact isTrue_and_nil e
  | false=>exact e
theorem pw_or1 (ha:PT X a tA):PW X (.BoolOp .Or [a] pos) tA:=by
  intro wh pins s σ H Q I h
  refine isTrue_or (thn (ha pins s σ H Q I h) fun c s1 e => ?_)
  cases c with
  | false=>exact isTrue_or_nil e
  | true=>exact e
theorem pw_and (ha:PT X a tA) (hb:PW X (.BoolOp .And (b :: rest) pos) tB'):PW X (.BoolOp .And (a :: b :: rest) pos) (tAnd tA tB'):=by
  intro wh pins s σ H Q I h
  refine isTrue_and (thn (ha pins s σ H _ I h) fun c s1 ⟨H1,I1,q1⟩ => ?_)
  cases c with
  | true=>exact hb wh pins s1 σ H1 Q I1 q1
  | false=>exact ⟨H1,I1,q1⟩
theorem pw_or (ha:PT X a tA) (hb:PW X (.BoolOp .Or (b :: rest) pos) tB'):PW X (.BoolOp .Or (a :: b :: rest) pos) (tOr tA tB'):=by
  intro wh pins s σ H Q I h
  refine isTrue_or (thn (ha pins s σ H _ I h) fun c s1 ⟨H1,I1,q1⟩ => ?_)
  cases c with
  | true=>exact ⟨H1,I1,q1⟩
  | false=>exact hb wh pins s1 σ H1 Q I1 q1
theorem pt_not (ha:PT X a tA):PT X (.UnaryOp .Not a pos) (tNot tA):=by
  intro pins s σ H Q I h
  exact isTrue_not (ha pins s σ H (fun c H1=>Q (!c) H1) I h)
noncomputable def tAndV (ta tb:TE):TE:=fun σ H Q=>ta σ H fun x H1=>∃ c,x = .bl c∧if c=true then tb σ H1 Q else Q (.bl false) H1
noncomputable def tNotV (ta:TE):TE:=fun σ H Q=>ta σ H fun x H1=>∃ c,x = .bl c∧Q (.bl (!c)) H1
theorem pe_one {op} {t:TE} (h:PE X a t):PE X (.BoolOp op [a] pos) t:=fun pins s σ H Q I hw=>BoolOp_one (h pins s σ H Q I hw)
theorem pe_and (ha:PE X a ta) (hb:PE X (.BoolOp .And (b :: rest) pos) tb):PE X (.BoolOp .And (a :: b :: rest) pos) (tAndV ta tb):=by
  intro pins s σ H Q I h
  refine BoolOp_and (thn (ha pins s σ H _ I h) fun v s1 ⟨x,H1,I1,r1,q1⟩ => ?_)
  obtain ⟨c,rfl,q1⟩:=q1
  cases r1
  refine wpAny_truthy_bool ?_
  cases c with
  | true=>exact hb pins s1 σ H1 Q I1 q1
  | false=>exact ⟨.bl false,H1,I1,rfl,q1⟩
theorem pe_not (ha:PE X a ta):PE X (.UnaryOp .Not a pos) (tNotV ta):=by
  intro pins s σ H Q I h
  refine UnaryOp_ (thn (ha pins s σ H _ I h) fun v s1 ⟨x,H1,I1,r1,q1⟩ => ?_)
  obtain ⟨c,rfl,q1⟩:=q1
  cases r1
  exact not_of (wpAny_truthy_bool ⟨.bl (!c),H1,I1,rfl,q1⟩)
end
end L2

namespace L2
open PySem PySem.Spec PyProof.Rows

noncomputable def SqL (K:PySem.W.Frag) (H:Hp) (a:Addr) (xs:List V):Prop :=
  Rd H a (.lst xs) ∨
    ∃ (o:Obj) (its:Array Value) (n:Nat),K.lookup a=some o∧o.cls = .type "list"∧o.dict=none∧o.data = .seq its n∧its.size≤sizeLine∧Vals xs its.toList
noncomputable def SqT (K:PySem.W.Frag) (H:Hp) (a:Addr) (xs:List V):Prop :=
  Rd H a (.tup xs) ∨
    ∃ (o:Obj) (its:Array Value) (n:Nat),K.lookup a=some o∧o.cls = .type "tuple"∧o.data = .seq its n∧its.size≤sizeLine∧Vals xs its.toList
noncomputable def absV:Value→Option V
  | .none=>some .non
  | .bool b=>some (.bl b)
  | .int i _=>some (.int i)
  | .str x _=>some (.str x)
  | .bytes b _=>some (.byt b)
  | .float b _=>some (.flt b)
  | .ref a=>some (.ref a)
  | .type n=>some (.ty n)
  | _=>none
theorem RelV.abs {x:V} {u:Value} (r:RelV x u):absV u=some x:=by
  cases x with
  | non=>cases r;rfl
  | bl _=>cases r;rfl
  | int _=>obtain ⟨t,rfl⟩:=r;rfl
  | str _=>obtain ⟨t,rfl⟩:=r;rfl
  | byt _=>obtain ⟨t,rfl⟩:=r;rfl
  | flt _=>obtain ⟨t,rfl⟩:=r;rfl
  | ref _=>cases r;rfl
  | ty _=>cases r;rfl
theorem RelV.inj {x y:V} {u:Value} (r:RelV x u) (q:RelV y u):x=y:=Option.some.inj (r.abs.symm.trans q.abs)
theorem Vals.inj:∀ {xs ys:List V} {us:List Value},Vals xs us→Vals ys us→xs=ys
  | _,_,_,.nil,.nil=>rfl
  | _,_,_,.cons r t,.cons r' t'=>by rw [r.inj r',Vals.inj t t']
section
variable {X:Cx} {pins:List (Addr×Obj)} {σ:St} {H:Hp} {s:Shared} {a:Addr} {xs ys:List V}
theorem SqL.of {K:PySem.W.Frag} (h:H a=some (.lst xs)):SqL K H a xs := .inl (.inl h)
theorem SqT.of {K:PySem.W.Frag} (h:H a=some (.tup xs)):SqT K H a xs := .inl (.inl h)
theorem Inv.list (I:Inv X pins σ H s) (h:SqL X.K H a xs):∃ its:List Value,Vals xs its∧PlainL s.heap a its.toArray∧xs.length≤sizeLine:=by
  rcases h with h | ⟨o,its,n,hk,hc,hd,hs,hz,r⟩
  · obtain ⟨z,its,n,r,e⟩:=h.ok I.hok
    exact ⟨its,r,⟨_,n,e,rfl,rfl,rfl⟩,z⟩
  · refine ⟨its.toList,r,⟨o,n,I.kIn a o hk,hc,hd,by simpa using hs⟩,?_⟩
    have e:=r.length
    simp only [Array.length_toList] at e
    omega
theorem Inv.tuple (I:Inv X pins σ H s) (h:SqT X.K H a xs):∃ its:List Value,Vals xs its∧IsTup s.heap a its.toArray∧xs.length≤sizeLine:=by
  rcases h with h | ⟨o,its,n,hk,hc,hs,hz,r⟩
  · obtain ⟨z,its,r,p⟩:=h.ok I.hok
    exact ⟨its,r,p,z⟩
  · refine ⟨its.toList,r,⟨o,I.kIn a o hk,hc,n,by simpa using hs⟩,?_⟩
    have e:=r.length
    simp only [Array.length_toList] at e
    omega
theorem Inv.list_inj (I:Inv X pins σ H s) (h:SqL X.K H a xs) (h':SqL X.K H a ys):xs=ys:=by
  obtain ⟨its,r,⟨o,n,e,_,_,d⟩,_⟩:=I.list h
  obtain ⟨its',r',⟨o',n',e',_,_,d'⟩,_⟩:=I.list h'
  rw [e] at e';cases e'
  rw [d] at d'
  injection d' with d1 _
  have:its=its':=by simpa using congrArg Array.toList d1
  subst this
  exact r.inj r'
theorem Inv.tuple_inj (I:Inv X pins σ H s) (h:SqT X.K H a xs) (h':SqT X.K H a ys):xs=ys:=by
  obtain ⟨its,r,⟨o,e,_,n,d⟩,_⟩:=I.tuple h
  obtain ⟨its',r',⟨o',e',_,n',d'⟩,_⟩:=I.tuple h'
  rw [e] at e';cases e'
  rw [d] at d'
  injection d' with d1 _
  have:its=its':=by simpa using congrArg Array.toList d1
  subst this
  exact r.inj r'
end

noncomputable abbrev Cx.wish (X:Cx) (E:Value→Shared→Prop):Cx:={ X with xe:=E }
noncomputable abbrev Cx.nox (X:Cx):Cx:=X.wish fun _ _=>False
theorem Cx.Ok.wish {X:Cx} (ok:X.Ok) (E:Value→Shared→Prop):(X.wish E).Ok :=
  ⟨ok.mod,ok.kind,ok.glob,ok.blt,ok.above,ok.inj,ok.has,ok.cab,ok.hd,ok.frames,ok.stk,ok.exf,ok.bs,ok.bsz,ok.noex,ok.exfs,ok.funs,ok.frf⟩
theorem Cx.Ok.unwish {X:Cx} {E:Value→Shared→Prop} (ok:(X.wish E).Ok):X.Ok :=
  ⟨ok.mod,ok.kind,ok.glob,ok.blt,ok.above,ok.inj,ok.has,ok.cab,ok.hd,ok.frames,ok.stk,ok.exf,ok.bs,ok.bsz,ok.noex,ok.exfs,ok.funs,ok.frf⟩
section
variable {X:Cx} {pins:List (Addr×Obj)} {σ:St} {H:Hp} {s:Shared} {E:Value→Shared→Prop}
theorem Inv.wish (I:Inv X pins σ H s) (E:Value→Shared→Prop):Inv (X.wish E) pins σ H s:=⟨I.ok.wish E,I.os,I.bare,I.base,I.loc,I.cell,I.free,I.freeC,I.pin,I.hok,I.len⟩
theorem Inv.unwish (I:Inv (X.wish E) pins σ H s):Inv X pins σ H s:=⟨I.ok.unwish,I.os,I.bare,I.base,I.loc,I.cell,I.free,I.freeC,I.pin,I.hok,I.len⟩
theorem SP.unwish {D:Ends} {f:Flow} {s':Shared} (h:SP (X.wish E) pins D f s'):SP X pins D f s':=by
  cases f with
  | next=>obtain ⟨σ',H',I,q⟩:=h;exact ⟨σ',H',I.unwish,q⟩
  | brk=>obtain ⟨σ',H',I,q⟩:=h;exact ⟨σ',H',I.unwish,q⟩
  | cont=>obtain ⟨σ',H',I,q⟩:=h;exact ⟨σ',H',I.unwish,q⟩
  | ret u=>obtain ⟨v,σ',H',I,r,q⟩:=h;exact ⟨v,σ',H',I.unwish,r,q⟩
theorem PE.nox {e:Expr} {t:TE} (h:PE X.nox e t):PE X e t:=fun pins s σ H Q I hw =>
  wpAny_mono (h pins s σ H Q (I.wish _) hw) (fun _ _ ⟨v,H',I',r,q⟩=>⟨v,H',I'.unwish,r,q⟩) fun _ _ z=>False.elim z
theorem PT.nox {e:Expr} {t:TT} (h:PT X.nox e t):PT X e t:=fun pins s σ H Q I hw =>
  wpAny_mono (h pins s σ H Q (I.wish _) hw) (fun _ _ ⟨H',I',q⟩=>⟨H',I'.unwish,q⟩) fun _ _ z=>False.elim z
theorem PSs.nox {st:List Stmt} {t:TS} (h:PSs X.nox st t):PSs X st t:=fun pins s σ H D I hw =>
  wpAny_mono (h pins s σ H D (I.wish _) hw) (fun _ _ q=>q.unwish) fun _ _ z=>False.elim z
end

section
variable {X:Cx} {st:Stmt} {rest:List Stmt} {t u:TS} {e:Expr} {te:TE} {pos:Pos}
noncomputable def tNext:TS:=fun D σ H=>D.nx σ H
noncomputable def tSeq (t u:TS):TS:=fun D σ H=>t { D with nx:=u D } σ H
theorem pss_nil:PSs X [] tNext:=fun _ _ σ H _ I h=>wpAny_execs_nil ⟨σ,H,I,h⟩
theorem QgV (h1:PS X st t) (h2:PSs X rest u):PSs X (st :: rest) (tSeq t u):=by
  intro pins s σ H D I h
  refine wpAny_execs_cons (thn (h1 pins s σ H { D with nx:=u D } I h) fun f s1 q => ?_)
  cases f with
  | next =>
    obtain ⟨σ',H',I',q⟩:=q
    exact h2 pins s1 σ' H' D I' q
  | ret v=>exact q
  | brk=>exact q
  | cont=>exact q
theorem QiU (h1:PS X st t):PSs X [st] t:=by
  intro pins s σ H D I h
  refine wpAny_execs_cons (thn (h1 pins s σ H D I h) fun f s1 q => ?_)
  cases f with
  | next=>exact wpAny_execs_nil q
  | ret v=>exact q
  | brk=>exact q
  | cont=>exact q
theorem Inv.quiet {pins:List (Addr×Obj)} {σ:St} {H:Hp} {s:Shared} (I:Inv X pins σ H s):interactive X.env=false:=by simp [interactive,I.ok.kind]
noncomputable def tDrop (te:TE):TS:=fun D σ H=>te σ H fun _ H1=>D.nx σ H1
theorem XN (he:PE X e te) (hs:swapsWith e none pos.line X.env=pure false:=by rfl):PS X (.Expr e pos) (tDrop te):=by
  intro pins s σ H D I h
  exact wpAny_Expr_any (thn (he pins s σ H _ I h) fun v s1 ⟨x,H1,I1,r1,q1⟩=>⟨σ,H1,I1,q1⟩) I.quiet hs
noncomputable def tRet (te:TE):TS:=fun D σ H=>te σ H D.rt
theorem QiA (he:PE X e te):PS X (.Return (some e) pos) (tRet te):=by
  intro pins s σ H D I h
  exact wpAny_Return_some (thn (he pins s σ H _ I h) fun v s1 ⟨x,H1,I1,r1,q1⟩=>⟨x,σ,H1,I1,r1,q1⟩)
noncomputable def tIfS (c:TT) (t u:TS):TS:=fun D σ H=>c σ H fun b H1=>if b=true then t D σ H1 else u D σ H1
theorem ps_if {c:Expr} {a b:List Stmt} {tc:TT} (hc:PT X c tc) (ha:PSs X a t) (hb:PSs X b u):PS X (.If c a b pos) (tIfS tc t u):=by
  intro pins s σ H D I h
  refine wpAny_If (thn (hc pins s σ H _ I h) fun d s1 ⟨H1,I1,q1⟩ => ?_)
  cases d with
  | true=>exact ha pins s1 σ H1 D I1 q1
  | false=>exact hb pins s1 σ H1 D I1 q1
end

noncomputable abbrev TG:=V→St→Hp→(St→Hp→Prop)→Prop
noncomputable abbrev TGs:=List V→St→Hp→(St→Hp→Prop)→Prop
noncomputable def PG (X:Cx) (target:Expr) (t:TG):Prop :=
  ∀ (pins:List (Addr×Obj)) (s:Shared) (σ:St) (H:Hp) (v:V) (u:Value) (Q:St→Hp→Prop),Inv X pins σ H s→RelV v u→t v σ H Q →
    wpAny (model X.prog X.w) X.A (assign target X.env u) (fun _ s'=>∃ σ' H',Inv X pins σ' H' s'∧Q σ' H') X.xe s
noncomputable def PGs (X:Cx) (ts:List Expr) (t:TGs):Prop :=
  ∀ (pins:List (Addr×Obj)) (s:Shared) (σ:St) (H:Hp) (vs:List V) (us:List Value) (Q:St→Hp→Prop),Inv X pins σ H s→Vals vs us→t vs σ H Q →
    wpAny (model X.prog X.w) X.A (assignInOrder ((assignEach ts X.env).map (·.2)) us) (fun _ s'=>∃ σ' H',Inv X pins σ' H' s'∧Q σ' H') X.xe s
noncomputable abbrev TSet:=V→V→V→Hp→(Hp→Prop)→Prop
noncomputable def PSet (X:Cx) (t:TSet):Prop :=
  ∀ (pins:List (Addr×Obj)) (s:Shared) (σ:St) (H:Hp) (o i v:V) (ov iv u:Value) (Q:Hp→Prop),Inv X pins σ H s→RelV o ov→RelV i iv→RelV v u→t o i v H Q →
    wpAny (model X.prog X.w) X.A (setItem ov iv u) (fun _ s'=>∃ H',Inv X pins σ H' s'∧Q H') X.xe s
noncomputable abbrev TIp:=V→V→Hp→VK→Prop
noncomputable def PIp (X:Cx) (op:Operator) (t:TIp):Prop :=
  ∀ (pins:List (Addr×Obj)) (s:Shared) (σ:St) (H:Hp) (x y:V) (v u:Value) (Q:VK),Inv X pins σ H s→RelV x v→RelV y u→t x y H Q →
    wpAny (model X.prog X.w) X.A (inplaceOp op v u) (EP X pins σ Q) X.xe s
section
variable {X:Cx} {pos:Pos}
noncomputable def Qiv (i:Nat):TG:=fun v σ H Q=>Q (σ.set i (some v)) H
theorem Qz {i:Nat} {x:Str} (hN:X.N.Nodup) (hi:X.N[i]?=some x) (hx:Loc X.env.scope x) (hf:X.fn x=true∨X.env.scope.names.lookup x=some .local:=by first | exact .inl rfl | exact .inr rfl | assumption):PG X (.Name x pos) (Qiv i):=by
  intro pins s σ H v u Q I r h
  exact wpAny_assign_Name (QdZ I hN hi hx r (fun s' I'=>⟨_,H,I',h⟩) hf)
noncomputable def gNil:TGs:=fun vs σ H Q=>vs=[]∧Q σ H
noncomputable def gCons (t:TG) (u:TGs):TGs:=fun vs σ H Q=>∃ v r,vs=v :: r∧t v σ H fun σ' H'=>u r σ' H' Q
theorem Qbx:PGs X [] gNil:=by
  intro pins s σ H vs us Q I r h
  obtain ⟨e,h⟩:=h
  subst e
  cases r
  exact assignInOrder_nil ⟨σ,H,I,h⟩
theorem ZO {e:Expr} {es:List Expr} {t:TG} {u:TGs} (h1:PG X e t) (h2:PGs X es u)
    (hs:(assignEach (e :: es) X.env).map (·.2)=assign e X.env :: (assignEach es X.env).map (·.2):=by rfl):PGs X (e :: es) (gCons t u):=by
  intro pins s σ H vs us Q I r h
  obtain ⟨v,vr,e1,h⟩:=h
  subst e1
  cases r with
  | cons r rr =>
    rw [hs]
    refine assignInOrder_cons (thn (h1 pins s σ H _ _ _ I r h) fun _ s1 ⟨σ1,H1,I1,q1⟩ => ?_)
    exact h2 pins s1 σ1 H1 _ _ Q I1 rr q1
noncomputable def gTup (K:PySem.W.Frag) (n:Nat) (t:TGs):TG:=fun v σ H Q=>∃ a xs,v = .ref a∧SqT K H a xs∧xs.length=n∧t xs σ H Q
theorem Qdu {es:List Expr} {k:Nat} {t:TGs} {n:Nat} (hc:X.calm=true) (h:PGs X es t)
    (hn:(assignEach es X.env).length=n:=by rfl) (hst:(assignEach es X.env).findIdx? (·.1)=none:=by rfl):PG X (.Tuple es k pos) (gTup X.K n t):=by
  intro pins s σ H v u Q I r hw
  obtain ⟨a,xs,e1,hq,hl,hw⟩:=hw
  subst e1
  cases r
  obtain ⟨its,rv,ht,hz⟩:=I.tuple hq
  refine assign_Tuple_tuple (I.ok.hd hc) ht (by simp [hn,← hl,rv.length]) hst fun h' hx => ?_
  have I1:Inv X pins σ H { s with heap:=h' }:=I.kept (t':=s.toks) fun b o e=>hx b o (Nat.ne_of_lt (Heap.lt_size e)) e
  exact h pins _ σ H xs _ Q I1 (by simpa using rv) hw
noncomputable def gSub (to ti:TE) (t:TSet):TG:=fun v σ H Q=>to σ H fun o H1=>ti σ H1 fun i H2=>t o i v H2 fun H3=>Q σ H3
theorem pg_sub {o i:Expr} {to ti:TE} {t:TSet} (ho:PE X o to) (hi:PE X i ti) (hs:PSet X t)
    (ha:∀ v,assign (.Subscript o i pos) X.env v=(do
      let ov ← holding [v] (eval o X.env)
      let iv ← holding [v,ov] (eval i X.env)
      standAt pos
      holding [v,ov,iv] (setItem ov iv v)
      release [v,ov,iv] []):=by intro _;rfl):PG X (.Subscript o i pos) (gSub to ti t):=by
  intro pins s σ H v u Q I r h
  rw [ha]
  refine wpAny_bind (wpAny_holding (thn (ho pins s σ H _ I h) fun ov s1 ⟨x,H1,I1,r1,q1⟩ => ?_))
  refine wpAny_bind (wpAny_holding (thn (hi pins s1 σ H1 _ I1 q1) fun iv s2 ⟨y,H2,I2,r2,q2⟩ => ?_))
  refine wpAny_bind (wpAny_standAt (wpAny_bind (wpAny_holding (thn (hs pins s2 σ H2 x y v ov iv u _ I2 r1 r2 r q2) fun _ s3 ⟨H3,I3,q3⟩ => ?_))))
  exact wpAny_release ⟨σ,H3,I3,q3⟩
noncomputable def tAsg (te:TE) (g:TG):TS:=fun D σ H=>te σ H fun x H1=>g x σ H1 D.nx
theorem ps_asg {tg e:Expr} {te:TE} {g:TG} (he:PE X e te) (hg:PG X tg g) (hs:swapsWithSole [tg] e pos.line X.env=pure false:=by rfl) (hw:swappedStores [tg] e X.env=pure none:=by rfl)
    (h1:(assignEach [tg] X.env).map (·.2)=[assign tg X.env]:=by rfl):PS X (.Assign [tg] e pos) (tAsg te g):=by
  intro pins s σ H D I h
  refine wpAny_Assign_stores (thn (he pins s σ H _ I h) fun v s1 ⟨x,H1,I1,r1,q1⟩ => ?_) hs hw
  rw [h1]
  exact thn (hg pins s1 σ H1 x v _ I1 r1 q1) fun _ s2 q=>q
theorem ps_set {i:Nat} {x:Str} {e:Expr} {te:TE} {pos':Pos} (hN:X.N.Nodup) (hi:X.N[i]?=some x) (hx:Loc X.env.scope x) (he:PE X e te) (hs:swapsWith e (some (.Name x pos')) pos.line X.env=pure false:=by rfl) (hf:X.fn x=true∨X.env.scope.names.lookup x=some .local:=by first | exact .inl rfl | exact .inr rfl | assumption) :
    PS X (.Assign [.Name x pos'] e pos) (tAsg te (Qiv i)):=by
  intro pins s σ H D I h
  refine wpAny_Assign_Name (thn (he pins s σ H _ I h) fun v s1 ⟨y,H1,I1,r1,q1⟩ => ?_) hs
  exact QdZ I1 hN hi hx r1 (fun s2 I2=>⟨_,H1,I2,q1⟩) hf
noncomputable def tAug (i:Nat) (te:TE) (ti:TIp):TS:=fun D σ H=>∃ x,σ[i]?=some (some x)∧te σ H fun y H1=>ti x y H1 fun z H2=>D.nx (σ.set i (some z)) H2
theorem ps_aug {i:Nat} {x:Str} {e:Expr} {te:TE} {op:Operator} {ti:TIp} {pos':Pos} (hN:X.N.Nodup) (hi:X.N[i]?=some x) (hx:Loc X.env.scope x) (he:PE X e te) (ho:PIp X op ti) (hf:X.fn x=true∨X.env.scope.names.lookup x=some .local:=by first | exact .inl rfl | exact .inr rfl | assumption) :
    PS X (.AugAssign (.Name x pos') op e pos) (tAug i te ti):=by
  intro pins s σ H D I h
  obtain ⟨v,e1,h⟩:=h
  obtain ⟨m,hn,hl⟩:=I.loc
  have vis:Vis X.env.scope x:=by rcases hx with k | k;exact .inl k;exact .inr (.inl k)
  obtain ⟨u,r,l⟩:=hl i x v hi e1 vis
  refine wpAny_AugAssign_Name ?_
  have go:wpAny (model X.prog X.w) X.A (eval e X.env) (fun w s₂=>wpAny (model X.prog X.w) X.A (inplaceOp op u w) (fun r s₃=>wpAny (model X.prog X.w) X.A (storeName X.env x r) (fun _=>SP X pins D .next) X.xe s₃) X.xe s₂) X.xe s:=by
    refine thn (he pins s σ H _ I h) fun w s1 ⟨y,H1,I1,r1,q1⟩ => ?_
    refine thn (ho pins s1 σ H1 v y u w _ I1 r r1 q1) fun z s2 ⟨zv,H2,I2,r2,q2⟩ => ?_
    exact QdZ I2 hN hi hx r2 (fun s3 I3=>⟨_,H2,I3,q2⟩) hf
  rcases l with ⟨hk,hm⟩ | ⟨hk,c,hc,hcell⟩
  · exact wpAny_loadName_local I.ok.kind hk hn hm go
  · rcases hk with hk | hk
    · exact wpAny_loadName_cell I.ok.kind hk hc hcell go
    · rcases hx with k | k
      · have:X.env.scope.names.lookup x=some .free:=hk
        rw [k] at this;cases this
      · have:X.env.scope.names.lookup x=some .free:=hk
        rw [k] at this;cases this
end

section
variable {X:Cx} {pos:Pos}
noncomputable def tWhile (c:TT) (tb:TS):TS:=fun D σ H=>∃ W:Nat→St→Hp→Prop,(∃ m,W m σ H)∧∀ m σ H,W m σ H →
  c σ H fun b H1=>if b=true then ∃ N:St→Hp→Prop,(∀ σ' H',N σ' H'→∃ m',m' < m∧W m' σ' H')∧tb { D with nx:=N,ct:=N,bk:=D.nx } σ H1 else D.nx σ H1
theorem ps_while {c:Expr} {body:List Stmt} {tc:TT} {tb:TS} (hp:PassesOwn (model X.prog X.w) X.A X.env X.xe) (hc:PT X c tc) (hb:PSs X body tb):PS X (.While c body [] pos) (tWhile tc tb):=by
  intro pins s σ H D I h
  obtain ⟨W,⟨m0,w0⟩,turn⟩:=h
  refine wpAny_While (codeAny_whileLoop (fun n s'=>∃ σ' H',Inv X pins σ' H' s'∧W n σ' H') ?_ m0 ⟨σ,H,I,w0⟩)
  rintro n s1 ⟨σ1,H1,I1,w1⟩
  refine wpAny_passesOwn hp (thn (hc pins s1 σ1 H1 _ I1 (turn n σ1 H1 w1)) fun b s2 ⟨H2,I2,q2⟩ => ?_)
  cases b with
  | true =>
    obtain ⟨N,hN,q2⟩:=q2
    rw [if_pos rfl]
    refine wpAny_passesOwn hp (thn (hb pins s2 σ1 H2 _ I2 q2) fun f s3 q3 => ?_)
    cases f with
    | next =>
      obtain ⟨σ3,H3,I3,n3⟩:=q3
      obtain ⟨m',hm,w3⟩:=hN σ3 H3 n3
      exact ⟨m',hm,σ3,H3,I3,w3⟩
    | cont =>
      obtain ⟨σ3,H3,I3,n3⟩:=q3
      obtain ⟨m',hm,w3⟩:=hN σ3 H3 n3
      exact ⟨m',hm,σ3,H3,I3,w3⟩
    | brk=>exact q3
    | ret v=>exact q3
  | false =>
    rw [if_neg Bool.false_ne_true]
    exact wpAny_execs_nil ⟨σ1,H2,I2,q2⟩
end

structure It where
  go:Nat→Hp→Prop
  yld:Nat→Hp→V→Hp→Prop
  stop:Nat→Hp→Prop
noncomputable def FpOk (X:Cx) (pins:List (Addr×Obj)) (H:Hp) (b:Addr):Prop :=
  H b=none∧b≠X.env.locals∧b∉X.fs∧(b∈X.ex∨X.s₀.heap.objs.size≤b)∧(∀ x c,X.env.cells.lookup x=some c→c≠b)∧∀ p∈X.pn++pins,p.1≠b
theorem Inv.fpOk {X:Cx} {pins:List (Addr×Obj)} {σ:St} {H H':Hp} {s:Shared} {b:Addr} (I:Inv X pins σ H s) (hb:s.heap.objs.size≤b) (hn:H' b=none):FpOk X pins H' b:=by
  refine ⟨hn,Nat.ne_of_gt (Nat.lt_of_lt_of_le I.lt hb),I.nofs hb,.inr (Nat.le_trans I.sz hb),fun x c e z => ?_,fun p hp z => ?_⟩
  · obtain ⟨v,q⟩:=I.cell x c e
    exact absurd (Nat.lt_of_lt_of_le q.lt (by rw [z];exact hb)) (Nat.lt_irrefl _)
  · exact absurd (Nat.lt_of_lt_of_le (Heap.lt_size (I.pin p hp).1) (by rw [z];exact hb)) (Nat.lt_irrefl _)
structure Turn (P:Program) (w:World) (K:PySem.W.Frag) (tg:Expr) (J:It) (fp:List Addr) (it:Addr) (tn:Nat→Heap→Prop):Prop where
  mem:it∈fp
  obj:∀ i h,tn i h→∀ b∈fp,∃ o,h.get? b=some o∧∀ v,o.data ≠ .cell v
  keep:∀ i h h',tn i h→(∀ b∈fp,∀ o,h.get? b=some o→h'.get? b=some o)→tn i h'
  item:∀ (X:Cx),X.prog=P→X.w=w→X.K=K→X.calm=true→∀ (i:Nat) (pins:List (Addr×Obj)) (s:Shared) (σ:St) (H:Hp) (E:Value→Shared→Prop),Inv X pins σ H s→(∀ b∈fp,FpOk X pins H b)→tn i s.heap→J.go i H →
    wpAny (model P w) X.A (pyNext (.ref it)) (fun r s1=>∃ u,r=some u ∧
      wpAny (model P w) X.A (letOwnedTupleGo tg (.ref it) u) (fun _ s2=>∃ x H',Inv X pins σ H' s2∧RelV x u∧J.yld i H x H'∧tn (i + 1) s2.heap∧∀ b∈fp,H' b=none) E s1) E s
  done:∀ (X:Cx),X.prog=P→X.w=w→X.K=K→X.calm=true→∀ (i:Nat) (pins:List (Addr×Obj)) (s:Shared) (σ:St) (H:Hp) (E:Value→Shared→Prop),Inv X pins σ H s→(∀ b∈fp,FpOk X pins H b)→tn i s.heap→J.stop i H →
    wpAny (model P w) X.A (pyNext (.ref it)) (fun r s1=>r=none∧Inv X pins σ H s1) E s
  self:∀ (A:Around) (i:Nat) (s:Shared) (Q:Value→Shared→Prop) (E:Value→Shared→Prop),tn i s.heap→Q (.ref it) s→wpAny (model P w) A (pyIter (.ref it)) Q E s
noncomputable abbrev TI:=St→Hp→(It→Hp→Prop)→Prop
noncomputable def PIE (X:Cx) (pins:List (Addr×Obj)) (σ:St) (tg:Expr) (R:It→Hp→Prop) (itv:Value) (s2:Shared):Prop :=
  ∃ (it:Addr) (fp:List Addr) (tn:Nat→Heap→Prop) (J:It) (H':Hp),itv = .ref it∧Inv X pins σ H' s2∧Turn X.prog X.w X.K tg J fp it tn∧tn 0 s2.heap∧(∀ b∈fp,FpOk X pins H' b)∧R J H'
noncomputable def PI (X:Cx) (tg iter:Expr) (wi:TI):Prop :=
  ∀ (pins:List (Addr×Obj)) (s:Shared) (σ:St) (H:Hp) (R:It→Hp→Prop),Inv X pins σ H s→wi σ H R →
    wpAny (model X.prog X.w) X.A (eval iter X.env) (fun v s1=>wpAny (model X.prog X.w) X.A (pyIter v) (PIE X pins σ tg R) X.xe s1) X.xe s

theorem Qiu {M:Model} {A:Around} {E:Value→Shared→Prop} {s:Shared} {tg:Expr} {it:Addr} {u:Value} {o:Obj} {n:String} {vs:Array Value} {Q:Unit→Shared→Prop} (ho:s.heap.get? it=some o) (hc:o.cls = .type n) (hd:o.data = .fields vs)
    (hn:["enumerate","zip","dict_itemiterator","dict_reverseitemiterator","odict_iterator","itertools.zip_longest","itertools.pairwise"].contains n=false) (hQ:Q () s):wpAny M A (letOwnedTupleGo tg (.ref it) u) Q E s:=by
  unfold letOwnedTupleGo
  cases tg <;> first
    | exact wpAny_pure hQ
    | (cases u <;> first
        | exact wpAny_pure hQ
        | (refine wpAny_bind (wpAny_load ho ?_)
           rw [hc,hd]
           show wpAny M A (if (["enumerate","zip","dict_itemiterator","dict_reverseitemiterator","odict_iterator","itertools.zip_longest","itertools.pairwise"].contains n&&vs[0]?==some (rawInt _))=true then _ else _) Q E s
           rw [if_neg (by intro h;rw [hn,Bool.false_and] at h;cases h)]
           exact wpAny_pure hQ))

noncomputable def Itl (K:PySem.W.Frag) (a:Addr):It :=
  ⟨fun i H=>∃ xs x,SqL K H a xs∧xs[i]?=some x,fun i H x H'=>H'=H∧∀ xs,SqL K H a xs→xs[i]?=some x,fun i H=>∃ xs,SqL K H a xs∧xs.length≤i⟩
noncomputable def Itt (K:PySem.W.Frag) (a:Addr):It :=
  ⟨fun i H=>∃ xs x,SqT K H a xs∧xs[i]?=some x,fun i H x H'=>H'=H∧∀ xs,SqT K H a xs→xs[i]?=some x,fun i H=>∃ xs,SqT K H a xs∧xs.length≤i⟩
noncomputable def Itr (lo:Int) (n:Nat):It:=⟨fun i _=>i < n,fun i H x H'=>H'=H∧x = .int (lo + i),fun i _=>n≤i⟩
theorem Qjq {P:Program} {w:World} {K:PySem.W.Frag} {tg:Expr} (a it:Addr):Turn P w K tg (Itl K a) [it] it (fun i h=>h.IsListIter it a i) where
  mem:=by simp
  obj:=fun i h st b hb=>by
    have e:b=it:=by simpa using hb
    subst e
    obtain ⟨o,e,c,d⟩:=st
    exact ⟨o,e,fun v z=>by rw [d] at z;cases z⟩
  keep:=fun i h h' st k=>st.at fun o e=>k it (by simp) o e
  item:=by
    intro X hP hw hK hc i pins s σ H E I hf st hg
    subst hP hw hK
    obtain ⟨xs,x,hq,hx⟩:=hg
    obtain ⟨its,rv,p,hz⟩:=I.list hq
    obtain ⟨u,hu,ru⟩:=rv.get hx
    obtain ⟨f0,f1,f2,f3,f4,f5⟩:=hf it (by simp)
    refine wpAny_pyNext_list_item st p.isList (x:=u) (by simpa using hu) fun h' st' sb => ?_
    have I1:Inv X pins σ H { s with heap:=h' }:=I.turned (t':=s.toks) (fun b o hb e=>(sb.2 b hb).trans e) f0 f1 f3 f4 f5
    obtain ⟨o,e,c,d⟩:=id st'
    exact ⟨u,rfl,Qiu (s:={ s with heap:=h' }) e c d (by decide) ⟨x,H,I1,ru,⟨rfl,fun ys hy=>by rw [I.list_inj hy hq];exact hx⟩,st',fun b hb=>(hf b hb).1⟩⟩
  done:=by
    intro X hP hw hK hc i pins s σ H E I hf st hg
    subst hP hw hK
    obtain ⟨xs,hq,hx⟩:=hg
    obtain ⟨its,rv,p,hz⟩:=I.list hq
    obtain ⟨f0,f1,f2,f3,f4,f5⟩:=hf it (by simp)
    have hl:=rv.length
    exact wpAny_pyNext_list_end (I.ok.hd hc) st p.isList (by simp;omega) fun h' eb=>⟨rfl,I.turned (t':=s.toks) (fun b o hb e=>eb b o hb e) f0 f1 f3 f4 f5⟩
  self:=fun _ _ _ _ _ st h=>wpAny_pyIter_listiter st h
theorem QhF {P:Program} {w:World} {K:PySem.W.Frag} {tg:Expr} (a it:Addr):Turn P w K tg (Itt K a) [it] it (fun i h=>h.IsTupleIter it a i) where
  mem:=by simp
  obj:=fun i h st b hb=>by
    have e:b=it:=by simpa using hb
    subst e
    obtain ⟨o,e,c,d⟩:=st
    exact ⟨o,e,fun v z=>by rw [d] at z;cases z⟩
  keep:=fun i h h' st k=>st.at fun o e=>k it (by simp) o e
  item:=by
    intro X hP hw hK hc i pins s σ H E I hf st hg
    subst hP hw hK
    obtain ⟨xs,x,hq,hx⟩:=hg
    obtain ⟨its,rv,p,hz⟩:=I.tuple hq
    obtain ⟨u,hu,ru⟩:=rv.get hx
    obtain ⟨f0,f1,f2,f3,f4,f5⟩:=hf it (by simp)
    refine wpAny_pyNext_tuple_item st (show s.heap.IsTuple a its.toArray from p) (x:=u) (by simpa using hu) fun h' st' sb => ?_
    have I1:Inv X pins σ H { s with heap:=h' }:=I.turned (t':=s.toks) (fun b o hb e=>(sb.2 b hb).trans e) f0 f1 f3 f4 f5
    obtain ⟨o,e,c,d⟩:=id st'
    exact ⟨u,rfl,Qiu (s:={ s with heap:=h' }) e c d (by decide) ⟨x,H,I1,ru,⟨rfl,fun ys hy=>by rw [I.tuple_inj hy hq];exact hx⟩,st',fun b hb=>(hf b hb).1⟩⟩
  done:=by
    intro X hP hw hK hc i pins s σ H E I hf st hg
    subst hP hw hK
    obtain ⟨xs,hq,hx⟩:=hg
    obtain ⟨its,rv,p,hz⟩:=I.tuple hq
    obtain ⟨f0,f1,f2,f3,f4,f5⟩:=hf it (by simp)
    have hl:=rv.length
    exact wpAny_pyNext_tuple_end (I.ok.hd hc) st (show s.heap.IsTuple a its.toArray from p) (by simp;omega) fun h' eb=>⟨rfl,I.turned (t':=s.toks) (fun b o hb e=>eb b o hb e) f0 f1 f3 f4 f5⟩
  self:=fun _ _ _ _ _ st h=>wpAny_pyIter_tupleiter st h
theorem QhG {P:Program} {w:World} {K:PySem.W.Frag} {tg:Expr} (it:Addr) (lo:Int) (n:Nat):Turn P w K tg (Itr lo n) [it] it (fun i h=>IsRangeIter h it (lo + (i:Nat) * 1) ((n:Int) - (i:Nat)) 1) where
  mem:=by simp
  obj:=fun i h st b hb=>by
    have e:b=it:=by simpa using hb
    subst e
    exact ⟨_,st,fun v z=>by
      have z':Data.fields _=Data.cell v:=z
      cases z'⟩
  keep:=fun i h h' st k=>k it (by simp) _ st
  item:=by
    intro X hP hw hK hc i pins s σ H E I hf st hg
    subst hP hw hK
    obtain ⟨f0,f1,f2,f3,f4,f5⟩:=hf it (by simp)
    have W:=Walks.range (prog:=X.prog) (w:=X.w) (I.ok.hd hc) it lo 1 n
    refine W.item i s _ _ hg st fun v h' tk hv st' kk => ?_
    obtain ⟨t,rfl⟩:=hv
    have I1:Inv X pins σ H { s with heap:=h',toks:=tk }:=I.turned (fun b o hb e=>kk b o (by simpa using hb) e) f0 f1 f3 f4 f5
    refine ⟨_,rfl,Qiu (s:={ s with heap:=h',toks:=tk }) (n := "range_iterator") st' rfl rfl (by decide) ⟨.int (lo + i),H,I1,⟨t,?_⟩,⟨rfl,rfl⟩,st',fun b hb=>(hf b hb).1⟩⟩
    rw [Int.mul_one]
  done:=by
    intro X hP hw hK hc i pins s σ H E I hf st hg
    subst hP hw hK
    obtain ⟨f0,f1,f2,f3,f4,f5⟩:=hf it (by simp)
    exact wpAny_pyNext_range_end (I.ok.hd hc) st (by have:n≤i:=hg;omega) fun h' eb=>⟨rfl,I.turned (t':=s.toks) (fun b o hb e=>eb b o hb e) f0 f1 f3 f4 f5⟩
  self:=fun _ _ _ _ _ st h=>wpAny_pyIter_rangeiter st h
end L2

namespace L2
open PySem PySem.Spec PyProof.Rows
section
variable {X:Cx} {tg:Expr}
noncomputable def iList (K:PySem.W.Frag) (tl:TE):TI:=fun σ H R=>tl σ H fun x H1=>∃ a,x = .ref a∧(∃ xs,SqL K H1 a xs)∧R (Itl K a) H1
noncomputable def iTup (K:PySem.W.Frag) (tl:TE):TI:=fun σ H R=>tl σ H fun x H1=>∃ a,x = .ref a∧(∃ xs,SqT K H1 a xs)∧R (Itt K a) H1
theorem pi_list {l:Expr} {tl:TE} (hl:PE X l tl):PI X tg l (iList X.K tl):=by
  intro pins s σ H R I h
  refine thn (hl pins s σ H _ I h) fun v s1 ⟨x,H1,I1,r1,q1⟩ => ?_
  obtain ⟨a,e,⟨xs,hq⟩,q⟩:=q1
  subst e
  cases r1
  obtain ⟨its,rv,p,hz⟩:=I1.list hq
  refine wpAny_pyIter_list p.isList ?_
  refine ⟨s1.heap.objs.size,[s1.heap.objs.size],_,_,H1,rfl,I1.kept (t':=s1.toks) fun b o e=>Heap.get?_push_of_some _ e,Qjq a _,⟨_,Heap.get?_push_size _ rfl,rfl,rfl⟩,fun b hb => ?_,q⟩
  have e:b=s1.heap.objs.size:=by simpa using hb
  subst e
  exact I1.fpOk (Nat.le_refl _) (I1.hok.fresh (Nat.le_refl _))
theorem pi_tup {l:Expr} {tl:TE} (hl:PE X l tl):PI X tg l (iTup X.K tl):=by
  intro pins s σ H R I h
  refine thn (hl pins s σ H _ I h) fun v s1 ⟨x,H1,I1,r1,q1⟩ => ?_
  obtain ⟨a,e,⟨xs,hq⟩,q⟩:=q1
  subst e
  cases r1
  obtain ⟨its,rv,p,hz⟩:=I1.tuple hq
  refine wpAny_pyIter_tuple (show s1.heap.IsTuple a its.toArray from p) ?_
  refine ⟨s1.heap.objs.size,[s1.heap.objs.size],_,_,H1,rfl,I1.kept (t':=s1.toks) fun b o e=>Heap.get?_push_of_some _ e,QhF a _,⟨_,Heap.get?_push_size _ rfl,rfl,rfl⟩,fun b hb => ?_,q⟩
  have e:b=s1.heap.objs.size:=by simpa using hb
  subst e
  exact I1.fpOk (Nat.le_refl _) (I1.hok.fresh (Nat.le_refl _))
theorem range_it {pins:List (Addr×Obj)} {σ:St} {H:Hp} {s:Shared} {R:It→Hp→Prop} {E:Value→Shared→Prop} {lo hi:Int} {t u v:Tok} {tk:Nat} (I:Inv X pins σ H s) (h1 : -(2 ^ 62)≤lo) (h2:lo < 2 ^ 62) (h3 : -(2 ^ 62)≤hi) (h4:hi < 2 ^ 62)
    (q:R (Itr lo (hi - lo).toNat) H):wpAny (model X.prog X.w) X.A (pyIter (.ref s.heap.objs.size)) (PIE X pins σ tg R) E { s with heap:=s.heap.push { cls := .type "range",data := .fields #[.int lo t,.int hi u,.int 1 v] },toks:=tk }:=by
  refine wpAny_pyIter_range (IsRange.new ..) (small_one h1 h2 h3 h4) ?_
  have I1:Inv X pins σ H { s with heap:=s.heap.push { cls := .type "range",data := .fields #[.int lo t,.int hi u,.int 1 v] },toks:=tk }:=I.kept fun b o e=>Heap.get?_push_of_some _ e
  refine ⟨(s.heap.push { cls := .type "range",data := .fields #[.int lo t,.int hi u,.int 1 v] }).objs.size,[(s.heap.push { cls := .type "range",data := .fields #[.int lo t,.int hi u,.int 1 v] }).objs.size],_,_,H,rfl,
    I1.kept (t':=tk) fun b o e=>Heap.get?_push_of_some _ e,QhG _ lo (hi - lo).toNat,?_,fun b hb => ?_,q⟩
  · have e1:lo + ((0:Nat):Int) * 1=lo:=by simp
    have e2:(((hi - lo).toNat:Nat):Int) - ((0:Nat):Int)=Builtin.Range.rangeSize lo hi 1:=by rw [rangeSize_one];split <;> omega
    show IsRangeIter _ _ (lo + ((0:Nat):Int) * 1) ((((hi - lo).toNat:Nat):Int) - ((0:Nat):Int)) 1
    rw [e1,e2]
    exact Heap.get?_push_size _ rfl
  · have e:b=(s.heap.push { cls := .type "range",data := .fields #[.int lo t,.int hi u,.int 1 v] }).objs.size:=by simpa using hb
    subst e
    exact I1.fpOk (Nat.le_refl _) (I1.hok.fresh (Nat.le_refl _))
noncomputable def iRng1 (ta:TA):TI:=fun σ H R=>ta σ H fun vs H1=>∃ j:Int,vs=[.int j] ∧ -(2 ^ 62)≤j∧j < 2 ^ 62∧R (Itr 0 j.toNat) H1
theorem QeQ {a:Expr} {ta:TA} {p pos:Pos} (hg:Gl X "range") (hm:X.mg "range"=none) (ha:PA X [a] ta) (hs:starEach [a] X.env=[(false,eval a X.env)]:=by rfl):PI X tg (.Call (.Name "range" p) [a] [] pos) (iRng1 ta):=by
  intro pins s σ H R I h
  refine Call_ (QaL I hg hm boot_range (PyProof.Rows.callWith_type1 (thn (ha pos pins s σ H _ I h) fun us s1 ⟨vs,H1,I1,r1,q1⟩ => ?_) hs rfl))
  obtain ⟨j,e,q1,q2,q⟩:=q1
  subst e
  cases r1 with
  | cons r rr =>
    cases rr
    obtain ⟨t,rfl⟩:=r
    exact call_range_1 (range_it I1 (by omega) (by omega) q1 q2 (by simpa using q))
noncomputable def tFor (wi:TI) (g:TG) (tb:TS):TS:=fun D σ H=>wi σ H fun J H1=>∃ W:Nat→Nat→St→Hp→Prop,(∃ m,W 0 m σ H1)∧∀ i m σ H,W i m σ H →
  (J.stop i H∧D.nx σ H)∨(J.go i H∧∃ N:St→Hp→Prop,(∀ σ' H',N σ' H'→∃ m',m' < m∧W (i + 1) m' σ' H')∧∀ x H',J.yld i H x H'→g x σ H' fun σ2 H2=>tb { D with nx:=N,ct:=N,bk:=D.nx } σ2 H2)
noncomputable def QeD (fp:List Addr) (h:Heap):List (Addr×Obj):=fp.filterMap fun b=>(h.get? b).map fun o=>(b,o)
theorem Qal {fp:List Addr} {h:Heap} {b:Addr} {o:Obj} (hb:b∈fp) (e:h.get? b=some o):(b,o)∈QeD fp h:=List.mem_filterMap.mpr ⟨b,hb,by rw [e];rfl⟩
theorem QjH {fp:List Addr} {h:Heap} {p:Addr×Obj} (hp:p∈QeD fp h):p.1∈fp∧h.get? p.1=some p.2:=by
  obtain ⟨b,hb,e⟩:=List.mem_filterMap.mp hp
  cases q:h.get? b with
  | none=>rw [q] at e;cases e
  | some o =>
    rw [q] at e
    have e':(b,o)=p:=Option.some.inj e
    subst e'
    exact ⟨hb,q⟩
theorem Inv.pinned {pins:List (Addr×Obj)} {σ:St} {H:Hp} {s:Shared} {fp:List Addr} (I:Inv X pins σ H s) (hf:∀ b∈fp,FpOk X pins H b) (ho:∀ b∈fp,∃ o,s.heap.get? b=some o∧∀ v,o.data ≠ .cell v):Inv X (pins++QeD fp s.heap) σ H s :=
  I.pins_of fun p hp=>(List.mem_append.mp hp).elim (fun z=>I.pin p (List.mem_append_right _ z)) fun z=>by
    obtain ⟨hb,e⟩:=QjH z
    obtain ⟨f0,f1,f2,_⟩:=hf p.1 hb
    obtain ⟨o,e',d⟩:=ho p.1 hb
    rw [e] at e';cases e'
    exact ⟨e,f0,f1,f2,d⟩
theorem Inv.unpinned {pins pl:List (Addr×Obj)} {σ:St} {H:Hp} {s:Shared} (I:Inv X (pins++pl) σ H s):Inv X pins σ H s:=I.pins_of fun p hp=>I.pin p (List.mem_append_right _ (List.mem_append_left _ hp))
theorem ps_for {iter:Expr} {body:List Stmt} {wi:TI} {g:TG} {tb:TS} {pos:Pos} (hp:PassesOwn (model X.prog X.w) X.A X.env X.xe) (hc:X.calm=true) (hi:PI X tg iter wi) (hg:PG X tg g) (hb:PSs X body tb)
    (hs:∀ x,foldedSetIterable iter X.env x=pure x:=by intro _;rfl):PS X (.For tg iter body [] pos) (tFor wi g tb):=by
  intro pins s σ H D I h
  refine wpAny_For (thn (hi pins s σ H _ I h) fun v s1 h1=>thn h1 fun itv s2 h2 => ?_) hs
  obtain ⟨it,fp,tn,J,H2,e,I2,T,st2,f2,W,⟨m0,w0⟩,turn⟩:=h2
  subst e
  -- what stays true of the iterator's objects through the loop
  have stat:∀ {H':Hp},(∀ b∈fp,H' b=none)→∀ b∈fp,FpOk X pins H' b:=fun hn b hb=>⟨hn b hb,(f2 b hb).2⟩
  refine codeAny_forLoop_any (fun n s'=>∃ i σ' H',Inv X pins σ' H' s'∧tn i s'.heap∧(∀ b∈fp,H' b=none)∧W i n σ' H') ?_ m0 ⟨0,σ,H2,I2,st2,fun b hb=>(f2 b hb).1,w0⟩
  rintro n s3 ⟨i,σ3,H3,I3,st3,fr3,w3⟩
  rcases turn i n σ3 H3 w3 with ⟨stop,qn⟩ | ⟨go,N,hN,step⟩
  · refine wpAny_passesOwn hp (thn (T.done X rfl rfl rfl hc i pins s3 σ3 H3 X.xe I3 (stat fr3) st3 stop) fun r s4 ⟨hr,I4⟩ => ?_)
    subst hr
    exact wpAny_execs_nil ⟨σ3,H3,I4,qn⟩
  · refine wpAny_passesOwn hp (thn (T.item X rfl rfl rfl hc i pins s3 σ3 H3 X.xe I3 (stat fr3) st3 go) fun r s4 ⟨u,hr,h4⟩ => ?_)
    subst hr
    refine wpAny_passesOwn hp (thn h4 fun _ s5 ⟨x,H5,I5,r5,y5,st5,fr5⟩ => ?_)
    have I5':=I5.pinned (stat fr5) (T.obj _ _ st5)
    refine wpAny_passesOwn hp (thn (hg _ s5 σ3 H5 x u _ I5' r5 (step x H5 y5)) fun _ s6 ⟨σ6,H6,I6,q6⟩ => ?_)
    refine wpAny_passesOwn hp (thn (hb _ s6 σ6 H6 _ I6 q6) fun f s7 q7 => ?_)
    have again:∀ {σ7:St} {H7:Hp},Inv X (pins++QeD fp s5.heap) σ7 H7 s7→N σ7 H7→∃ m,m < n∧∃ i σ' H',Inv X pins σ' H' s7∧tn i s7.heap∧(∀ b∈fp,H' b=none)∧W i m σ' H':=fun {σ7 H7} I7 n7=>by
      obtain ⟨m',hm,w7⟩:=hN σ7 H7 n7
      refine ⟨m',hm,i + 1,σ7,H7,I7.unpinned,T.keep _ _ _ st5 fun b hb o e=>(I7.pin (b,o) (List.mem_append_right _ (List.mem_append_right _ (Qal hb e)))).1,fun b hb => ?_,w7⟩
      obtain ⟨o,e,d⟩:=T.obj _ _ st5 b hb
      exact (I7.pin (b,o) (List.mem_append_right _ (List.mem_append_right _ (Qal hb e)))).2.1
    cases f with
    | next=>obtain ⟨σ7,H7,I7,n7⟩:=q7;exact again I7 n7
    | cont=>obtain ⟨σ7,H7,I7,n7⟩:=q7;exact again I7 n7
    | brk=>obtain ⟨σ7,H7,I7,q7⟩:=q7;exact ⟨σ7,H7,I7.unpinned,q7⟩
    | ret v=>obtain ⟨x7,σ7,H7,I7,r7,q7⟩:=q7;exact ⟨x7,σ7,H7,I7.unpinned,r7,q7⟩
end

end L2

namespace L2
open PySem PySem.Spec PyProof.Rows

noncomputable abbrev R2:=V→V→Hp→VK→Prop
noncomputable def OpR (X:Cx) (f:Value→Value→Sem Value) (r:R2):Prop :=
  ∀ (pins:List (Addr×Obj)) (s:Shared) (σ:St) (H:Hp) (x y:V) (v u:Value) (Q:VK),Inv X pins σ H s→RelV x v→RelV y u→r x y H Q →
    wpAny (model X.prog X.w) X.A (f v u) (EP X pins σ Q) X.xe s
noncomputable def UnR (X:Cx) (f:Value→Sem Value) (r:V→Hp→VK→Prop):Prop :=
  ∀ (pins:List (Addr×Obj)) (s:Shared) (σ:St) (H:Hp) (x:V) (v:Value) (Q:VK),Inv X pins σ H s→RelV x v→r x H Q →
    wpAny (model X.prog X.w) X.A (f v) (EP X pins σ Q) X.xe s
noncomputable def Xv (X:Cx) (f:Value) (r:List V→Hp→VK→Prop):Prop :=
  ∀ (pins:List (Addr×Obj)) (s:Shared) (σ:St) (H:Hp) (xs:List V) (us:List Value) (Q:VK),Inv X pins σ H s→Vals xs us→r xs H Q →
    wpAny (model X.prog X.w) X.A (call f us) (EP X pins σ Q) X.xe s
noncomputable def TruR (X:Cx) (r:V→Hp→(Bool→Hp→Prop)→Prop):Prop :=
  ∀ (pins:List (Addr×Obj)) (s:Shared) (σ:St) (H:Hp) (x:V) (v:Value) (Q:Bool→Hp→Prop),Inv X pins σ H s→RelV x v→r x H Q →
    wpAny (model X.prog X.w) X.A (truthy v) (TP X pins σ Q) X.xe s

noncomputable def tOp (r:R2) (ta tb:TE):TE:=fun σ H Q=>ta σ H fun x H1=>tb σ H1 fun y H2=>r x y H2 Q
noncomputable def tUn (r:V→Hp→VK→Prop) (ta:TE):TE:=fun σ H Q=>ta σ H fun x H1=>r x H1 Q
noncomputable def rI (C:Int→Int→Prop) (g:Int→Int→V):R2:=fun x y H Q=>∃ i j,x = .int i∧y = .int j∧C i j∧Q (g i j) H
noncomputable def rI0 (g:Int→Int→V):R2:=fun x y H Q=>∃ i j,x = .int i∧y = .int j∧Q (g i j) H
noncomputable def rU (g:Int→V):V→Hp→VK→Prop:=fun x H Q=>∃ i,x = .int i∧Q (g i) H

section
variable {X:Cx} {a b c:Expr} {ta tb tc:TE} {pos:Pos}

theorem binT (ha:PE X a ta) (hb:PE X b tb) {pins:List (Addr×Obj)} {s:Shared} {σ:St} {H:Hp} {R:V→V→Hp→Prop} (I:Inv X pins σ H s)
    (h:ta σ H fun x H1=>tb σ H1 fun y H2=>R x y H2) {Q:Value→Shared→Prop} {f:Value→Value→Sem Value}
    (hf:∀ v u s2 x y H2,Inv X pins σ H2 s2→RelV x v→RelV y u→R x y H2→wpAny (model X.prog X.w) X.A (f v u) Q X.xe s2) :
    wpAny (model X.prog X.w) X.A (eval a X.env) (fun v s₁=>wpAny (model X.prog X.w) X.A (eval b X.env) (fun u s₂=>wpAny (model X.prog X.w) X.A (f v u) Q X.xe s₂) X.xe s₁) X.xe s:=by
  refine thn (ha pins s σ H _ I h) fun v s1 ⟨x,H1,I1,r1,q1⟩ => ?_
  refine thn (hb pins s1 σ H1 _ I1 q1) fun u s2 ⟨y,H2,I2,r2,q2⟩ => ?_
  exact hf v u s2 x y H2 I2 r1 r2 q2

theorem pe_op {op:Operator} {r:R2} (ho:OpR X (binaryOp op) r) (ha:PE X a ta) (hb:PE X b tb):PE X (.BinOp a op b pos) (tOp r ta tb):=by
  intro pins s σ H Q I h
  exact wpAny_BinOp (binT ha hb I h fun v u s2 x y H2 I2 rx ry q=>ho pins s2 σ H2 x y v u Q I2 rx ry q)
theorem pe_un {op:UnaryOp} {r:V→Hp→VK→Prop} (ho:UnR X (unaryOp op) r) (ha:PE X a ta):PE X (.UnaryOp op a pos) (tUn r ta):=by
  intro pins s σ H Q I h
  exact UnaryOp_ (thn (ha pins s σ H _ I h) fun v s1 ⟨x,H1,I1,r1,q1⟩=>ho pins s1 σ H1 x v Q I1 r1 q1)
theorem opI {f:Value→Value→Sem Value} {C:Int→Int→Prop} {g:Int→Int→Int}
    (rule:∀ (i j:Int) (t u:Tok) (s:Shared) (Q:Value→Shared→Prop) (E:Value→Shared→Prop),C i j→Q (.int (g i j) s.toks) { s with toks:=s.toks + 1 }→wpAny (model X.prog X.w) X.A (f (.int i t) (.int j u)) Q E s) :
    OpR X f (rI C fun i j => .int (g i j)):=by
  intro pins s σ H x y v u Q I rx ry h
  obtain ⟨i,j,rfl,rfl,hc,q⟩:=h
  obtain ⟨t,rfl⟩:=rx
  obtain ⟨t',rfl⟩:=ry
  exact rule i j t t' s _ _ hc ⟨.int (g i j),H,I.tok _,⟨_,rfl⟩,q⟩
theorem opI0 {f:Value→Value→Sem Value} {g:Int→Int→Int}
    (rule:∀ (i j:Int) (t u:Tok) (s:Shared) (Q:Value→Shared→Prop) (E:Value→Shared→Prop),Q (.int (g i j) s.toks) { s with toks:=s.toks + 1 }→wpAny (model X.prog X.w) X.A (f (.int i t) (.int j u)) Q E s) :
    OpR X f (rI0 fun i j => .int (g i j)):=by
  intro pins s σ H x y v u Q I rx ry h
  obtain ⟨i,j,rfl,rfl,q⟩:=h
  obtain ⟨t,rfl⟩:=rx
  obtain ⟨t',rfl⟩:=ry
  exact rule i j t t' s _ _ ⟨.int (g i j),H,I.tok _,⟨_,rfl⟩,q⟩
theorem opB0 {f:Value→Value→Sem Value} {g:Int→Int→Bool}
    (rule:∀ (i j:Int) (t u:Tok) (s:Shared) (Q:Value→Shared→Prop) (E:Value→Shared→Prop),Q (.bool (g i j)) s→wpAny (model X.prog X.w) X.A (f (.int i t) (.int j u)) Q E s) :
    OpR X f (rI0 fun i j => .bl (g i j)):=by
  intro pins s σ H x y v u Q I rx ry h
  obtain ⟨i,j,rfl,rfl,q⟩:=h
  obtain ⟨t,rfl⟩:=rx
  obtain ⟨t',rfl⟩:=ry
  exact rule i j t t' s _ _ ⟨.bl (g i j),H,I,rfl,q⟩

noncomputable def CPow (i j:Int):Prop:=0≤j∧j≤1000000∧i.natAbs < 2 ^ 64
noncomputable def CMul (i j:Int):Prop:=(-(2 ^ 64) < i∧i < 2 ^ 64)∨(-(2 ^ 64) < j∧j < 2 ^ 64)
theorem CMul.ok {i j:Int} (h:CMul i j):IntMulOk i j:=by
  rcases h with ⟨h1,h2⟩ | ⟨h1,h2⟩
  · exact .of_left (intBits_le_64 h1 h2)
  · exact .of_right (intBits_le_64 h1 h2)
theorem QhE (k:Nat):(0:Int)≤2 ^ k:=by
  rw [two_pow_cast]
  exact Int.natCast_nonneg _

theorem op_add:OpR X (binaryOp .Add) (rI0 fun i j => .int (i + j)):=opI0 fun _ _ _ _ _ _ _ q=>add_int q
theorem op_sub:OpR X (binaryOp .Sub) (rI0 fun i j => .int (i - j)):=opI0 fun _ _ _ _ _ _ _ q=>sub_int q
theorem op_mul:OpR X (binaryOp .Mult) (rI CMul fun i j => .int (i * j)):=opI fun _ _ _ _ _ _ _ hc q=>mul_int q hc.ok
theorem op_mod:OpR X (binaryOp .Mod) (rI (fun _ j=>0 < j) fun i j => .int (i % j)):=opI fun i j _ _ _ _ _ hc q=>by
  have h1:(0:Int) < j:=hc
  exact mod_int' (by omega) (by rw [Int.fmod_eq_emod_of_nonneg i (by omega)];exact q)
theorem op_shl:OpR X (binaryOp .LShift) (rI CPow fun i j => .int (i * 2 ^ j.toNat)):=opI fun _ _ _ _ _ _ _ hc q=>lshift_int_small hc.1 hc.2.1 hc.2.2 q
theorem op_shr:OpR X (binaryOp .RShift) (rI (fun _ j=>0≤j) fun i j => .int (i / 2 ^ j.toNat)):=opI fun i j _ _ _ _ _ hc q =>
  rshift_int hc (by rw [Int.fdiv_eq_ediv_of_nonneg i (QhE _)];exact q)
theorem op_and:OpR X (binaryOp .BitAnd) (rI0 fun i j => .int (Builtin.bitAnd i j)):=opI0 fun _ _ _ _ _ _ _ q=>and_int q
theorem op_or:OpR X (binaryOp .BitOr) (rI0 fun i j => .int (Builtin.bitOr i j)):=opI0 fun _ _ _ _ _ _ _ q=>or_int q
theorem iop_or:OpR X (inplaceOp .BitOr) (rI0 fun i j => .int (Builtin.bitOr i j)):=opI0 fun _ _ _ _ _ _ _ q=>ior_int q
theorem unI {f:Value→Sem Value} {g:Int→Int}
    (rule:∀ (i:Int) (t:Tok) (s:Shared) (Q:Value→Shared→Prop) (E:Value→Shared→Prop),Q (.int (g i) s.toks) { s with toks:=s.toks + 1 }→wpAny (model X.prog X.w) X.A (f (.int i t)) Q E s) :
    UnR X f (rU fun i => .int (g i)):=by
  intro pins s σ H x v Q I rx h
  obtain ⟨i,rfl,q⟩:=h
  obtain ⟨t,rfl⟩:=rx
  exact rule i t s _ _ ⟨.int (g i),H,I.tok _,⟨_,rfl⟩,q⟩
theorem un_neg:UnR X (unaryOp .USub) (rU fun i => .int (-i)):=unI fun _ _ _ _ _ q=>neg_int q
theorem un_inv:UnR X (unaryOp .Invert) (rU fun i => .int (Builtin.bitNot i)):=unI fun _ _ _ _ _ q=>invert_int q

end

section
variable {X:Cx} {a b c:Expr} {ta tb tc:TE} {pos:Pos}
theorem Qgg {pins:List (Addr×Obj)} {σ:St} {H:Hp} {s:Shared} {Q:VK} {k k':Bool} (I:Inv X pins σ H s) (q:Q (.bl k) H) (e:k=k'):EP X pins σ Q (.bool k') s:=by
  subst e
  exact ⟨.bl k,H,I,rfl,q⟩
theorem op_lt:OpR X (compareOp .Lt) (rI0 fun i j => .bl (decide (i < j))):=opB0 fun _ _ _ _ _ _ _ q=>lt_int q
theorem op_le:OpR X (compareOp .LtE) (rI0 fun i j => .bl (decide (i≤j))):=opB0 fun _ _ _ _ _ _ _ q=>le_int q
theorem op_gt:OpR X (compareOp .Gt) (rI0 fun i j => .bl (decide (j < i))):=opB0 fun _ _ _ _ _ _ _ q=>gt_int q
theorem op_isN:OpR X (compareOp .Is) (fun x y H Q=>y = .non∧Q (.bl (decide (x = .non))) H):=by
  intro pins s σ H x y v u Q I rx ry h
  obtain ⟨rfl,q⟩:=h
  cases ry
  refine is_none_gen (Qgg I q ?_)
  cases x <;> first
    | (cases rx;rfl)
    | (obtain ⟨t,rfl⟩:=rx;rfl)
theorem op_notN:OpR X (compareOp .IsNot) (fun x y H Q=>y = .non∧Q (.bl (!decide (x = .non))) H):=by
  intro pins s σ H x y v u Q I rx ry h
  obtain ⟨rfl,q⟩:=h
  cases ry
  refine isnot_none_gen (Qgg I q ?_)
  cases x <;> first
    | (cases rx;rfl)
    | (obtain ⟨t,rfl⟩:=rx;rfl)

theorem OpR.or {f:Value→Value→Sem Value} {r r':R2} (h:OpR X f r) (h':OpR X f r'):OpR X f (fun x y H Q=>r x y H Q∨r' x y H Q):=by
  intro pins s σ H x y v u Q I rx ry q
  rcases q with q | q
  · exact h pins s σ H x y v u Q I rx ry q
  · exact h' pins s σ H x y v u Q I rx ry q

theorem QH (b:Expr) {op:CmpOp} (h:op ≠ .In:=by decide) (h2:op ≠ .NotIn:=by decide):behindInMarks op b=false:=by
  have e1:(op==CmpOp.In)=false:=by cases op <;> first | rfl | exact absurd rfl h
  have e2:(op==CmpOp.NotIn)=false:=by cases op <;> first | rfl | exact absurd rfl h2
  cases b <;> simp [behindInMarks,e1,e2]
theorem pe_cmpR {op:CmpOp} {r:R2} (ho:OpR X (compareOp op) r) (ha:PE X a ta) (hb:PE X b tb) (hm:behindInMarks op b=false):PE X (.Compare a [op] [b] pos) (tOp r ta tb):=by
  intro pins s σ H Q I h
  exact wpAny_Compare1 (binT ha hb I h fun v u s2 x y H2 I2 rx ry q=>ho pins s2 σ H2 x y v u Q I2 rx ry q) hm
noncomputable def tTest (t:TE):TT:=fun σ H Q=>t σ H fun x H'=>∃ k,x = .bl k∧Q k H'
theorem pt_cmpR {op:CmpOp} {r:R2} (ho:OpR X (compareOp op) r) (ha:PE X a ta) (hb:PE X b tb) (hm:behindInMarks op b=false):PT X (.Compare a [op] [b] pos) (tTest (tOp r ta tb)):=by
  intro pins s σ H Q I h
  refine wpAny_isTrue_Compare1 (thn (ha pins s σ H _ I h) fun v s1 ⟨x,H1,I1,r1,q1⟩=>thn (hb pins s1 σ H1 _ I1 q1) fun u s2 ⟨y,H2,I2,r2,q2⟩ =>
    thn (ho pins s2 σ H2 x y v u _ I2 r1 r2 q2) fun c s3 ⟨z,H3,I3,r3,k,e,q3⟩ => ?_) hm
  subst e
  cases r3
  exact wpAny_truthy_bool ⟨H3,I3,q3⟩
noncomputable def tChain (r r':R2) (ta tb tc:TE):TE:=fun σ H Q=>ta σ H fun x H1=>tb σ H1 fun y H2=>r x y H2 fun z H3=>∃ k,z = .bl k ∧
  (if k=true then tc σ H3 fun w' H4=>r' y w' H4 Q else Q (.bl false) H3)
theorem pt_chain {op op':CmpOp} {r r':R2} (ho:OpR X (compareOp op) r) (ho':OpR X (compareOp op') r') (ha:PE X a ta) (hb:PE X b tb) (hc:PE X c tc)
    (hm:lastMarks [op,op'] [b,c]=false:=by with_unfolding_all rfl):PT X (.Compare a [op,op'] [b,c] pos) (tTest (tChain r r' ta tb tc)):=by
  intro pins s σ H Q I h
  refine isTrue_chain (thn (ha pins s σ H _ I h) fun v s1 ⟨x,H1,I1,r1,q1⟩=>test_link (thn (hb pins s1 σ H1 _ I1 q1) fun u s2 ⟨y,H2,I2,r2,q2⟩ =>
    thn (ho pins s2 σ H2 x y v u _ I2 r1 r2 q2) fun d s3 ⟨z,H3,I3,r3,k,e,q3⟩ => ?_)) hm
  subst e
  cases r3
  refine wpAny_truthy_bool ?_
  cases k with
  | false =>
    obtain ⟨k',e',q'⟩:=q3
    cases e'
    exact ite_ff ⟨H3,I3,q'⟩
  | true =>
    refine ite_tt (test_last (thn (hc pins s3 σ H3 _ I3 q3) fun w' s4 ⟨z',H4,I4,r4,q4⟩=>thn (ho' pins s4 σ H4 y z' u w' _ I4 r2 r4 q4) fun d' s5 ⟨z2,H5,I5,r5,k2,e2,q5⟩ => ?_))
    subst e2
    cases r5
    exact wpAny_truthy_bool ⟨H5,I5,q5⟩

noncomputable def TruV (K:PySem.W.Frag) (x:V) (H:Hp) (k:Bool):Prop :=
  match x with
  | .non=>k=false
  | .bl b=>k=b
  | .int i=>k=(i != 0)
  | .str y=>y.length≤sizeLine∧k=((y.length:Int) != 0)
  | .byt y=>y.size≤sizeLine∧k=((y.size:Int) != 0)
  | .ref p=>(∃ xs,SqL K H p xs∧k = !xs.isEmpty)∨(∃ xs,SqT K H p xs∧k = !xs.isEmpty)∨∃ kvs,H p=some (.dK kvs)∧k = !kvs.isEmpty
  | _=>False
theorem Qib {κ:Type} {kvs:List (κ×V)} {vs:List (κ×Value)} (r:KV kvs vs):(!vs.isEmpty) = !kvs.isEmpty:=by
  cases r <;> rfl
theorem QdJ {xs:List V} {its:List Value} (r:Vals xs its):(!its.toArray.isEmpty) = !xs.isEmpty:=by
  cases r <;> simp
theorem Qcq:(sizeLine:Nat) < 2 ^ 63:=by rw [sizeLine_eq];decide
theorem tru_ok:TruR X (fun x H Q=>∃ k,TruV X.K x H k∧Q k H):=by
  intro pins s σ H x v Q I rx h
  obtain ⟨k,e,q⟩:=h
  have hl:=Qcq
  have hs:sizeLine=16777216:=sizeLine_eq
  cases x with
  | non =>
    cases rx
    have e':k=false:=e
    subst e'
    exact truthy_none ⟨H,I,q⟩
  | bl b =>
    cases rx
    have e':k=b:=e
    subst e'
    exact wpAny_truthy_bool ⟨H,I,q⟩
  | int i =>
    obtain ⟨t,rfl⟩:=rx
    have e':k=(i != 0):=e
    subst e'
    exact PySem.P.truthy_int ⟨H,I,q⟩
  | str y =>
    obtain ⟨t,rfl⟩:=rx
    obtain ⟨hy,e'⟩:y.length≤sizeLine∧k=((y.length:Int) != 0):=e
    subst e'
    exact PySem.P.truthy_str (by omega) ⟨H,I.tok _,q⟩
  | byt y =>
    obtain ⟨t,rfl⟩:=rx
    obtain ⟨hy,e'⟩:y.size≤sizeLine∧k=((y.size:Int) != 0):=e
    subst e'
    exact PySem.W.truthy_bytes (by omega) ⟨H,I.tok _,q⟩
  | ref p =>
    cases rx
    have e':(∃ xs,SqL X.K H p xs∧k = !xs.isEmpty)∨(∃ xs,SqT X.K H p xs∧k = !xs.isEmpty)∨∃ kvs,H p=some (.dK kvs)∧k = !kvs.isEmpty:=e
    rcases e' with ⟨xs,hx,e'⟩ | ⟨xs,hx,e'⟩ | ⟨kvs,hx,e'⟩
    · subst e'
      obtain ⟨its,r,pl,hz⟩:=I.list hx
      have hlen:=r.length
      exact wpAny_truthy_list pl.isList (by simp only [List.size_toArray];omega) ⟨H,I.tok _,by rw [QdJ r];exact q⟩
    · subst e'
      obtain ⟨its,r,pl,hz⟩:=I.tuple hx
      have hlen:=r.length
      exact truthy_tuple pl (by simp only [List.size_toArray];omega) ⟨H,I.tok _,by rw [QdJ r];exact q⟩
    · subst e'
      obtain ⟨hz,hS,vs,r,m⟩:kvs.length≤sizeLine∧(p==sysModules)=false∧∃ vs,KV kvs vs∧s.heap.DictOf (QfN X.prog X.w) p vs:=I.hok p _ hx
      have hlen:kvs.length=vs.length:=Paired.length r
      exact wpAny_truthy_dict hS m (by omega) ⟨H,I.tok _,by rw [Qib r];exact q⟩
  | _=>exact (show False from e).elim
theorem pt_truth (ha:PE X a ta) (he:∀ whole,isTrue a X.env whole=(do let v ← whole;standAt a.pos;holding [v] (truthy v))) :
    PT X a (fun σ H Q=>ta σ H fun x H'=>∃ k,TruV X.K x H' k∧Q k H'):=by
  intro pins s σ H Q I h
  exact isTrue_plain (thn (ha pins s σ H _ I h) fun v s1 ⟨x,H1,I1,r1,q1⟩=>tru_ok pins s1 σ H1 x v Q I1 r1 q1) (he _)

theorem QhN:OpR X (binaryOp .Add) (fun x y H Q=>∃ i j,x = .str i∧y = .str j∧i.length + j.length≤sizeLine∧Q (.str (i++j)) H):=by
  intro pins s σ H x y v u Q I rx ry h
  obtain ⟨i,j,rfl,rfl,hz,q⟩:=h
  obtain ⟨t,rfl⟩:=rx
  obtain ⟨t',rfl⟩:=ry
  exact add_str (fun t' tk=>⟨.str (i++j),H,I.tok _,⟨_,rfl⟩,q⟩) hz
theorem Qdl {x:V} {us:List Value} (r:Vals [x] us):∃ u,us=[u]∧RelV x u:=by
  cases r with
  | cons r1 r2=>cases r2;exact ⟨_,rfl,r1⟩
theorem vals2 {x y:V} {us:List Value} (r:Vals [x,y] us):∃ u w',us=[u,w']∧RelV x u∧RelV y w':=by
  cases r with
  | cons r1 r2 =>
    cases r2 with
    | cons r3 r4=>cases r4;exact ⟨_,_,rfl,r1,r3⟩
theorem Qki (hc:X.calm=true):Xv X (.builtin "max") (fun xs H Q=>∃ i j,xs=[.int i,.int j]∧Q (.int (if j > i then j else i)) H):=by
  intro pins s σ H xs us Q I r h
  obtain ⟨i,j,rfl,q⟩:=h
  obtain ⟨u,w',rfl,⟨t,rfl⟩,⟨t',rfl⟩⟩:=vals2 r
  refine max_two_ints (I.ok.hd hc) fun h' tk k=>⟨_,H,I.kept k,?_,q⟩
  by_cases hj:j > i
  · rw [if_pos hj,if_pos hj];exact ⟨_,rfl⟩
  · rw [if_neg hj,if_neg hj];exact ⟨_,rfl⟩
noncomputable def LenV (K:PySem.W.Frag) (x:V) (H:Hp) (n:Nat):Prop :=
  match x with
  | .str y=>y.length≤sizeLine∧n=y.length
  | .byt y=>y.size≤sizeLine∧n=y.size
  | .ref p=>(∃ xs,SqL K H p xs∧n=xs.length)∨∃ xs,SqT K H p xs∧n=xs.length
  | _=>False
theorem call_len:Xv X (.builtin "len") (fun xs H Q=>∃ x n,xs=[x]∧LenV X.K x H n∧Q (.int n) H):=by
  intro pins s σ H xs us Q I r h
  obtain ⟨x,n,rfl,e,q⟩:=h
  obtain ⟨u,rfl,rx⟩:=Qdl r
  have hl:=Qcq
  have hs:sizeLine=16777216:=sizeLine_eq
  cases x with
  | str y =>
    obtain ⟨t,rfl⟩:=rx
    obtain ⟨hy,e'⟩:y.length≤sizeLine∧n=y.length:=e
    subst e'
    exact len_str (by omega) ⟨.int _,H,I.tok _,⟨_,rfl⟩,q⟩
  | byt y =>
    obtain ⟨t,rfl⟩:=rx
    obtain ⟨hy,e'⟩:y.size≤sizeLine∧n=y.size:=e
    subst e'
    exact PySem.W.len_bytes (by omega) ⟨.int _,H,I.tok _,⟨_,rfl⟩,q⟩
  | ref p =>
    cases rx
    have e':(∃ xs,SqL X.K H p xs∧n=xs.length)∨∃ xs,SqT X.K H p xs∧n=xs.length:=e
    rcases e' with ⟨xs,hx,e'⟩ | ⟨xs,hx,e'⟩
    · subst e'
      obtain ⟨its,r',pl,hz⟩:=I.list hx
      have hlen:=r'.length
      exact Calls.call_len_list pl.isList (by simp only [List.size_toArray];omega) ⟨.int xs.length,H,I.tok _,⟨_,by simp only [List.size_toArray];rw [hlen]⟩,q⟩
    · subst e'
      obtain ⟨its,r',pl,hz⟩:=I.tuple hx
      have hlen:=r'.length
      exact len_tuple pl (by simp only [List.size_toArray];omega) ⟨.int xs.length,H,I.tok _,⟨_,by simp only [List.size_toArray];rw [hlen]⟩,q⟩
  | _=>exact (show False from e).elim
end
end L2

namespace L2
open PySem PySem.Spec PyProof.Rows

structure ObjM (h:Heap) (x dx C:Addr) (mA:Str→Option Value):Prop where
  obj:h.get? x=some (PySem.W.instObj C dx)
  ns:h.Ns1 dx mA
  ne:dx≠x

theorem QjI {h:Heap} {dx:Addr} {mA:Str→Option Value} (n:h.Ns1 dx mA):∃ od,h.get? dx=some od∧∀ name,PySem.W.lookIn name od=some (mA name):=by
  obtain ⟨o,es,ep,ho,hd,hk,_,hm⟩:=n
  refine ⟨o,ho,fun name => ?_⟩
  have e:=hm name
  unfold nsFind findBy at e
  rw [← Array.find?_toList] at e
  unfold PySem.W.lookIn
  rw [hd]
  dsimp only
  split
  · rename_i y q
    rw [q] at e
    exact congrArg some e
  · rename_i q
    rw [q] at e
    have a:es.toList.any (·.refKey)=false:=by
      rw [List.any_eq_false]
      intro y hy
      obtain ⟨z,t,hkey⟩:=hk y (Array.mem_toList_iff.mp hy)
      simp [DictEntry.refKey,hkey]
    have a':¬ es.toList.any (·.refKey)=true:=by rw [a];exact Bool.false_ne_true
    rw [if_neg a']
    exact congrArg some e

theorem ObjM.look {h:Heap} {x dx C:Addr} {mA:Str→Option Value} (I:ObjM h x dx C mA):∃ od,PySem.W.InstAt h x (PySem.W.instObj C dx) C (some od)∧∀ name,PySem.W.lookIn name od=some (mA name) :=
  let ⟨od,ho,hl⟩:=QjI I.ns
  ⟨od,⟨I.obj,rfl,rfl,ho⟩,hl⟩

section
variable {prog:Program} {w:World} {A:Around} {E:Value→Shared→Prop} {s:Shared} {K:PySem.W.Frag} {x dx C f:Addr} {mA:Str→Option Value} {name:Str} {v:Value}

theorem get_map {expr:Bool} {Q:Value→Shared→Prop} (X:K.In s.heap) (I:ObjM s.heap x dx C mA) (hg:PySem.W.plainGet K C name=true) (hh:PySem.W.hasDictIn K C=true)
    (ha:PySem.W.findIn K (.ref C) name=some none) (hv:mA name=some v) (hv':PySem.W.handedIn v=true) (h:Q v { s with toks:=s.toks + 1 }) :
    wpAny (model prog w) A (getAttr (.ref x) name expr) Q E s:=by
  obtain ⟨od,J,hl⟩:=I.look
  exact PySem.W.get_value X J (PySem.W.plainGet_of hg).1 (PySem.W.findObj_own hh ha rfl (by rw [hl,hv])) hv' h

theorem get_meth {pl:Sem Bool} {Q:Value×List Value→Shared→Prop} (X:K.In s.heap) (I:ObjM s.heap x dx C mA) (hg:PySem.W.plainGet K C name=true)
    (hf:PySem.W.findIn K (.ref C) name=some (some (.ref f))) (ht:PySem.W.isFn K (.ref f)=true) (hv:mA name=none) (h:Q (.ref f,[.ref x]) s) :
    wpAny (model prog w) A (getMethod (.ref x) name pl) Q E s:=by
  obtain ⟨od,J,hl⟩:=I.look
  exact PySem.W.method_fn X J (PySem.W.plainGet_of hg).1 (PySem.W.plainGet_of hg).2 hf (beq_iff_eq.mp ht) (by show (PySem.W.lookIn name od).map (·.isSome)=some false;rw [hl,hv];rfl) h

theorem set_map {ns:List Str} {Q:Unit→Shared→Prop} (X:K.In s.heap) (I:ObjM s.heap x dx C mA)
    (hs:PySem.W.findIn K (.ref C) "__setattr__"=some (some (.builtin "object.__setattr__"))) (hp:PySem.W.plainOver K C=true) (ht:PySem.W.takerIn K C name=some none) (hh:PySem.W.hasDictIn K C=true)
    (hw:PySem.Within mA ns) (hsz:ns.length≤sizeLine)
    (h:∀ h',ObjM h' x dx C (fun y=>if y=name then some v else mA y)→Heap.SameBut dx s.heap h'→Q () { s with heap:=h',toks:=s.toks + 2 }) :
    wpAny (model prog w) A (setAttr (.ref x) name v) Q E s:=by
  obtain ⟨od,J,hl⟩:=I.look
  refine PySem.W.set_plain X J hs (PySem.W.osa_open (s:={ s with toks:=s.toks + 1 }) (r:=none) X J hp ht fun b => ?_)
  obtain ⟨cd,hc,hd'⟩:=PySem.W.any_some hh
  have hx:s.heap.get? x=some ⟨.ref C,some dx,.plain,#[]⟩:=I.obj
  refine wpAny_bind (wpAny_pure (wpAny_bind (wpAny_bind (wpAny_loadPart hx (wpAny_bind (PySem.W.Looks.here (s:={ s with toks:=s.toks + 1 }) (PySem.W.looks_clsIn X hc) ?_))))))
  rw [hd']
  refine wpAny_pure (a:=some dx) (wpAny_bind (wpAny_pure (wpAny_bind ?_)))
  refine wpAny_nsSet1 (s:={ s with toks:=s.toks + 1 }) I.ns fun h' hn2 hs2 => ?_
  obtain ⟨oD,esD,epD,hoD,hdD,hcD⟩:=hn2.count (PySem.Within.cons name v hw)
  refine wpAny_bind (wpAny_lookBehind hoD (by rw [hdD];exact pastItsLine_dict (Nat.le_trans hcD (by rw [List.length_cons];omega))) ?_)
  exact wpAny_pure (h _ ⟨(hs2.2 _ (Ne.symm I.ne)).trans I.obj,hn2,I.ne⟩ hs2)

theorem make_map {R:Result→Shared→Prop} {vs:List Value} {kw:List (Str×Value)} (X:K.In s.heap) (hm:PySem.W.makesIn K C=true)
    (hi:PySem.W.findIn K (.ref C) "__init__"=some (some (.ref f))) (hf:PySem.W.typeIn K (.ref f)=some (.type "function"))
    (h:codeAny (model prog w) (A.under (.builtin "type.__call__" ⟨.ref C :: vs,kw⟩)) (.call (.ref f) ⟨.ref (s.heap.objs.size + 1) :: vs,kw⟩) (PySem.W.InitBack (s.heap.objs.size + 1) R)
      { s with heap:=(s.heap.push PySem.W.emptyDict).push (PySem.W.instObj C s.heap.objs.size) }) :
    codeAny (model prog w) A (.call (.ref C) ⟨vs,kw⟩) R s:=by
  obtain ⟨hh,g,d,t,os⟩:=s
  exact PySem.W.make_core (PySem.W.makes_of X hm) (PySem.W.looks_findIn X hi) (fun self=>PySem.W.bind_fn X self hf) (.inl rfl) h
end

noncomputable def putF (f:Str) (v:V):List (Str×V)→List (Str×V)
  | []=>[(f,v)]
  | (g,x) :: r=>if g=f then (g,v) :: r else (g,x) :: putF f v r
theorem QcZ (f g:Str) (v:V):∀ fs:List (Str×V),(putF f v fs).lookup g=if g=f then some v else fs.lookup g
  | []=>by
    show List.lookup g [(f,v)]=_
    by_cases h:g=f
    · have hb:(g==f)=true:=beq_iff_eq.mpr h
      simp only [List.lookup,hb,if_pos h]
    · have hb:(g==f)=false:=beq_eq_false_iff_ne.mpr h
      simp only [List.lookup,hb,if_neg h]
  | (k,x) :: r=>by
    have ih:=QcZ f g v r
    rw [show putF f v ((k,x) :: r)=(if k=f then (k,v) :: r else (k,x) :: putF f v r) from rfl]
    by_cases hk:k=f
    · rw [if_pos hk]
      by_cases h:g=k
      · have hb:(g==k)=true:=beq_iff_eq.mpr h
        simp only [List.lookup,hb,if_pos (h.trans hk)]
      · have hb:(g==k)=false:=beq_eq_false_iff_ne.mpr h
        simp only [List.lookup,hb,if_neg (fun e:g=f=>h (e.trans hk.symm))]
    · rw [if_neg hk]
      by_cases h:g=k
      · have hb:(g==k)=true:=beq_iff_eq.mpr h
        simp only [List.lookup,hb,if_neg (fun e:g=f=>hk (h.symm.trans e))]
      · have hb:(g==k)=false:=beq_eq_false_iff_ne.mpr h
        simp only [List.lookup,hb]
        exact ih
theorem QcO (f:Str) (v:V):∀ fs:List (Str×V),f∈(putF f v fs).map (·.1)∧∀ g,g∈fs.map (·.1)→g∈(putF f v fs).map (·.1)
  | []=>⟨by simp [putF],fun g h=>by simp at h⟩
  | (k,x) :: r=>by
    obtain ⟨i1,i2⟩:=QcO f v r
    rw [show putF f v ((k,x) :: r)=(if k=f then (k,v) :: r else (k,x) :: putF f v r) from rfl]
    by_cases hk:k=f
    · rw [if_pos hk]
      subst hk
      exact ⟨by simp,fun g h=>by simpa using h⟩
    · rw [if_neg hk]
      refine ⟨?_,fun g h => ?_⟩
      · rw [List.map_cons]
        exact List.mem_cons_of_mem _ i1
      · rw [List.map_cons] at h ⊢
        rcases List.mem_cons.mp h with e | e
        · exact List.mem_cons.mpr (.inl e)
        · exact List.mem_cons_of_mem _ (i2 g e)
theorem Qdb (f:Str) (v:V):∀ fs:List (Str×V),(putF f v fs).length≤fs.length + 1
  | []=>by simp [putF]
  | (k,x) :: r=>by
    have ih:=Qdb f v r
    rw [show putF f v ((k,x) :: r)=(if k=f then (k,v) :: r else (k,x) :: putF f v r) from rfl]
    by_cases hk:k=f
    · rw [if_pos hk,List.length_cons,List.length_cons];omega
    · rw [if_neg hk,List.length_cons,List.length_cons];omega

theorem RelO.some_of {v:V} {o:Option Value} (r:RelO (some v) o):∃ u,o=some u∧RelV v u:=by
  cases o with
  | none=>exact (show False from r).elim
  | some u=>exact ⟨u,rfl,r⟩
theorem RelO.none_of {o:Option Value} (r:RelO none o):o=none:=by
  cases o with
  | none=>rfl
  | some u=>exact (show False from r).elim
theorem QjR {v:V} {u:Value} (r:RelV v u):PySem.W.handedIn u=true:=by
  cases v with
  | non=>cases (show u=Value.none from r);rfl
  | bl b=>cases (show u=Value.bool b from r);rfl
  | int i=>obtain ⟨t,e⟩:=(show ∃ t,u=Value.int i t from r);cases e;rfl
  | str x=>obtain ⟨t,e⟩:=(show ∃ t,u=Value.str x t from r);cases e;rfl
  | byt b=>obtain ⟨t,e⟩:=(show ∃ t,u=Value.bytes b t from r);cases e;rfl
  | flt b=>obtain ⟨t,e⟩:=(show ∃ t,u=Value.float b t from r);cases e;rfl
  | ref a=>cases (show u=Value.ref a from r);rfl
  | ty n=>cases (show u=Value.type n from r);rfl

section
variable {P:Program} {w:World} {H H':Hp} {h h':Heap} {a C dx:Addr} {fs fs':List (Str×V)}
theorem QdY (hok:HOk P w H h) (e:H a=some (.ins C dx fs)):∃ mA,ObjM h a dx C mA∧(∀ f,RelO (fs.lookup f) (mA f))∧PySem.Within mA (fs.map (·.1))∧fs.length≤1000∧H dx=some (.own a):=by
  obtain ⟨d,z,ne,ob,mA,n,r,q⟩:=(show YC P w H h a (.ins C dx fs) from hok a _ e)
  exact ⟨mA,⟨ob,n,ne⟩,r,q,z,d⟩
end

structure Cls (K:PySem.W.Frag) (C:Addr):Prop where
  pg:PySem.W.plainGet K C Str.empty=true
  hd:PySem.W.hasDictIn K C=true
  po:PySem.W.plainOver K C=true
  sa:PySem.W.findIn K (.ref C) "__setattr__"=some (some (.builtin "object.__setattr__"))
theorem Cls.get {K:PySem.W.Frag} {C:Addr} (c:Cls K C) (f:Str):PySem.W.plainGet K C f=true:=c.pg
noncomputable def QbI (K:PySem.W.Frag) (C:Addr) (f:Str):Prop:=PySem.W.findIn K (.ref C) f=some none
theorem QbI.taker {K:PySem.W.Frag} {C:Addr} {f:Str} (n:QbI K C f):PySem.W.takerIn K C f=some none:=by
  unfold PySem.W.takerIn
  rw [show PySem.W.findIn K (.ref C) f=some none from n]
  rfl
structure Meth (K:PySem.W.Frag) (C:Addr) (m:Str) (f:Addr):Prop where
  at_:PySem.W.findIn K (.ref C) m=some (some (.ref f))
  fn:PySem.W.isFn K (.ref f)=true
  kp:PySem.W.keepIn K (.ref f)=true

section
variable {X:Cx} {pins:List (Addr×Obj)} {σ:St} {H:Hp} {s:Shared} {a C dx:Addr} {fs:List (Str×V)} {f:Str} {v:V} {A:Around} {E:Value→Shared→Prop}

theorem Qif {b:Bool} {Q:Value→Shared→Prop} (I:Inv X pins σ H s) (e:H a=some (.ins C dx fs)) (c:Cls X.K C) (n:QbI X.K C f) (l:fs.lookup f=some v)
    (h:∀ u s',Inv X pins σ H s'→RelV v u→Q u s'):wpAny (model X.prog X.w) A (getAttr (.ref a) f b) Q E s:=by
  obtain ⟨mA,O,r,_,_,_⟩:=QdY I.hok e
  obtain ⟨u,hu,ru⟩:=RelO.some_of (v:=v) (o:=mA f) (by rw [← l];exact r f)
  exact get_map I.kIn O (c.get f) c.hd n hu (QjR ru) (h u _ (I.tok _) ru)

theorem Qie {m:Str} {g:Addr} {pl:Sem Bool} {Q:Value×List Value→Shared→Prop} (I:Inv X pins σ H s) (e:H a=some (.ins C dx fs)) (c:Cls X.K C) (k:Meth X.K C m g) (l:fs.lookup m=none)
    (h:Q (.ref g,[.ref a]) s):wpAny (model X.prog X.w) A (getMethod (.ref a) m pl) Q E s:=by
  obtain ⟨mA,O,r,_,_,_⟩:=QdY I.hok e
  have hn:mA m=none:=RelO.none_of (by rw [← l];exact r m)
  exact get_meth I.kIn O (c.get m) k.at_ k.fn hn h

theorem QhL {y:V} {u:Value} {Q:Unit→Shared→Prop} (I:Inv X pins σ H s) (e:H a=some (.ins C dx fs)) (c:Cls X.K C) (n:QbI X.K C f) (hl:fs.length < 1000) (ry:RelV y u)
    (h:∀ s',Inv X pins σ (upd H a (.ins C dx (putF f y fs))) s'→Q () s'):wpAny (model X.prog X.w) A (setAttr (.ref a) f u) Q E s:=by
  obtain ⟨mA,O,r,wi,_,ho⟩:=QdY I.hok e
  have hz:(fs.map (·.1)).length≤sizeLine:=by rw [List.length_map,sizeLine_eq];omega
  refine set_map I.kIn O c.sa c.po n.taker c.hd wi hz fun h' O' sb=>h _ ?_
  have hd:∃ o,h'.get? dx=some o:=let ⟨o,_,_,e',_⟩:=O'.ns;⟨o,e'⟩
  refine I.write (x:=a) (e:=dx) (by rw [e];exact True.intro) (.inr ho) (fun b q hb z=>(sb.2 b hb).trans z) hd ?_
  refine ⟨by rw [Qt O.ne];exact ho,?_,O.ne,O'.obj,_,O'.ns,fun g => ?_,fun g hg => ?_⟩
  · have:=Qdb f y fs;omega
  · show RelO ((putF f y fs).lookup g) (if g=f then some u else mA g)
    rw [QcZ]
    by_cases q:g=f
    · rw [if_pos q,if_pos q];exact ry
    · rw [if_neg q,if_neg q];exact r g
  · by_cases q:g=f
    · rw [q];exact (QcO f y fs).1
    · refine (QcO f y fs).2 g (wi g fun z=>hg ?_)
      show (if g=f then some u else mA g)=none
      rw [if_neg q];exact z

theorem Inv.made (I:Inv X pins σ H s):Inv X pins σ (upd (upd H s.heap.objs.size (.own (s.heap.objs.size + 1))) (s.heap.objs.size + 1) (.ins C s.heap.objs.size []))
    { s with heap:=(s.heap.push PySem.W.emptyDict).push (PySem.W.instObj C s.heap.objs.size) }:=by
  have e1:(s.heap.push PySem.W.emptyDict).get? s.heap.objs.size=some PySem.W.emptyDict:=Heap.get?_push_size s.heap rfl
  have e2:((s.heap.push PySem.W.emptyDict).push (PySem.W.instObj C s.heap.objs.size)).get? (s.heap.objs.size + 1)=some (PySem.W.instObj C s.heap.objs.size):=by
    have:=Heap.get?_push_size (s.heap.push PySem.W.emptyDict) (o:=PySem.W.instObj C s.heap.objs.size) rfl
    rwa [Heap.size_push] at this
  have e3:(s.heap.push PySem.W.emptyDict).Ns s.heap.objs.size (fun _=>none):=⟨PySem.W.emptyDict,#[],_,e1,rfl,(fun e he=>absurd he (by simp)),fun _=>rfl⟩
  have I1:=I.laid (a:=s.heap.objs.size) (o := .own (s.heap.objs.size + 1)) (h':=s.heap.push PySem.W.emptyDict) (t':=s.toks) (fun b u q=>Heap.get?_push_of_some _ q) (Nat.le_refl _) ⟨_,e1⟩
  refine I1.laid (a:=s.heap.objs.size + 1) (o := .ins C s.heap.objs.size []) (t':=s.toks) (fun b u q=>Heap.get?_push_of_some _ q) (Nat.le_of_eq (Heap.size_push _ _)) ?_
  have ne:s.heap.objs.size≠s.heap.objs.size + 1:=Nat.ne_of_lt (Nat.lt_succ_self _)
  refine ⟨by rw [Qt ne,Qv],Nat.zero_le _,ne,e2,fun _=>none,(Heap.Ns1.of_empty e3).at fun o q=>Heap.get?_push_of_some _ q,fun _=>True.intro,fun y hy=>absurd rfl hy⟩

theorem attr_of {prog:Program} {w:World} {env:Env} {e:Expr} {f:Str} {pos:Pos} {s:Shared} {Q:Value→Shared→Prop} (hb:attributeBase e f env (eval e env)=eval e env)
    (h:wpAny (model prog w) A (eval e env) (fun o s₁=>wpAny (model prog w) A (getAttr o f true) Q E s₁) E s):wpAny (model prog w) A (eval (.Attribute e f pos) env) Q E s :=
  Attribute_any_ h (by rw [arm_eval_Attribute,hb])
end

noncomputable def tFld (K:PySem.W.Frag) (ta:TE) (f:Str):TE:=fun σ H Q=>ta σ H fun x H1=>∃ a C dx fs v,x = .ref a∧H1 a=some (.ins C dx fs)∧Cls K C∧QbI K C f∧fs.lookup f=some v∧Q v H1
noncomputable def sFld (K:PySem.W.Frag) (ta tv:TE) (f:Str):TS:=fun D σ H=>tv σ H fun y H1=>ta σ H1 fun x H2=>∃ a C dx fs,x = .ref a∧H2 a=some (.ins C dx fs)∧Cls K C∧QbI K C f∧fs.length < 1000 ∧
  D.nx σ (upd H2 a (.ins C dx (putF f y fs)))
section
variable {X:Cx} {o e value:Expr} {f:Str} {pos pos' tpos:Pos} {ta tv:TE}
theorem pe_fld (he:PE X e ta) (hb:attributeBase e f X.env (eval e X.env)=eval e X.env):PE X (.Attribute e f pos) (tFld X.K ta f):=by
  intro pins s σ H Q I h
  refine attr_of hb (thn (he pins s σ H _ I h) fun u s1 ⟨x,H1,I1,rx,a,C,dx,fs,v,ex,ea,c,n,l,q⟩ => ?_)
  subst ex
  obtain rfl:u=Value.ref a:=rx
  exact Qif I1 ea c n l fun u' s2 I2 ru=>⟨v,H1,I2,ru,q⟩
theorem ps_fld (ha:PE X o ta) (hv:PE X value tv) (hs:swapsWith value (some (.Attribute o f pos')) pos.line X.env=pure false):PS X (.Assign [.Attribute o f pos'] value pos) (sFld X.K ta tv f):=by
  intro pins s σ H D I h
  refine plainObj_wpAny_Assign_Attribute (thn (hv pins s σ H _ I h) fun u s1 ⟨y,H1,I1,ry,q⟩=>thn (ha pins s1 σ H1 _ I1 q) fun ov s2 ⟨x,H2,I2,rx,a,C,dx,fs,ex,ea,c,n,l,q2⟩ => ?_) hs
  subst ex
  obtain rfl:ov=Value.ref a:=rx
  exact QhL I2 ea c n l ry fun s3 I3=>⟨σ,_,I3,q2⟩
end

section
variable {X:Cx} {pins:List (Addr×Obj)} {σ:St} {H:Hp} {s:Shared} {A:Around} {E:Value→Shared→Prop} {Q:Value→Shared→Prop} {c:Value} {b:Bool}
inductive TyOf (K:PySem.W.Frag) (H:Hp):V→Value→Prop where
  | non:TyOf K H .non (.type "NoneType")
  | bl (x:Bool):TyOf K H (.bl x) (.type "bool")
  | int (i:Int):TyOf K H (.int i) (.type "int")
  | str (x:Str):TyOf K H (.str x) (.type "str")
  | flt (x:UInt64):TyOf K H (.flt x) (.type "float")
  | lst {a:Addr} {xs:List V} (e:H a=some (.lst xs)):TyOf K H (.ref a) (.type "list")
  | frz {a:Addr} {o:Obj} {xs:List V} (e:H a=some (.frz o (.lst xs))):TyOf K H (.ref a) (.type "list")
  | tup {a:Addr} {xs:List V} (e:H a=some (.tup xs)):TyOf K H (.ref a) (.type "tuple")
  | dK {a:Addr} {kvs:List (Key×V)} (e:H a=some (.dK kvs)):TyOf K H (.ref a) (.type "dict")
  | dT {a:Addr} {kvs:List (List Key×V)} (e:H a=some (.dT kvs)):TyOf K H (.ref a) (.type "dict")
  | ins {a C dx:Addr} {fs:List (Str×V)} (e:H a=some (.ins C dx fs)) (cl:Cls K C) (ha:PySem.W.findIn K (.ref C) "__class__"=some (some (.builtin "object.__class__")))
      (hn:PySem.W.specialIn K (.builtin "object.__class__") "__get__"=some (some (.builtin "getset_descriptor.__get__"))) (htk:PySem.W.takesIn K (.builtin "object.__class__")=some true)
      (hm:PySem.W.mroIn K C (.type "object")=some true):TyOf K H (.ref a) (.ref C)
theorem QjK {x:V} {u t:Value} (I:Inv X pins σ H s) (rx:RelV x u) (ty:TyOf X.K H x t) (e:PySem.W.kitOne X.K t c=some b) (h:∀ tk,Q (.bool b) { s with toks:=tk }) :
    wpAny (model X.prog X.w) A (call (.builtin "isinstance") [u,c]) Q E s:=by
  cases ty with
  | non=>cases (show u=Value.none from rx);exact PySem.W.kia_one PySem.W.kitx_none I.kIn True.intro e (fun z=>nomatch z) h
  | bl y=>cases (show u=Value.bool y from rx);exact PySem.W.kia_one PySem.W.kitx_bool I.kIn True.intro e (fun z=>nomatch z) h
  | int i=>obtain ⟨t,q⟩:=(show ∃ t,u=Value.int i t from rx);cases q;exact PySem.W.kia_one PySem.W.kitx_int I.kIn True.intro e (fun z=>nomatch z) h
  | str y=>obtain ⟨t,q⟩:=(show ∃ t,u=Value.str y t from rx);cases q;exact PySem.W.kia_one PySem.W.kitx_str I.kIn True.intro e (fun z=>nomatch z) h
  | flt y=>obtain ⟨t,q⟩:=(show ∃ t,u=Value.float y t from rx);cases q;exact PySem.W.kia_one PySem.W.kitx_float I.kIn True.intro e (fun z=>nomatch z) h
  | @lst a xs ea =>
    cases (show u=Value.ref a from rx)
    obtain ⟨_,_,n,_,h1⟩:=(show YC X.prog X.w H s.heap a (.lst xs) from I.hok a _ ea)
    exact PySem.W.kia_one PySem.W.kitx_list I.kIn ⟨_,h1,rfl⟩ e (fun z=>nomatch z) h
  | @frz a ob xs ea =>
    cases (show u=Value.ref a from rx)
    obtain ⟨_,_,_,n,_,h1⟩:=(show YC X.prog X.w H s.heap a (.frz ob (.lst xs)) from I.hok a _ ea)
    exact PySem.W.kia_one PySem.W.kitx_list I.kIn ⟨_,h1,rfl⟩ e (fun z=>nomatch z) h
  | @tup a xs ea =>
    cases (show u=Value.ref a from rx)
    obtain ⟨_,_,_,p⟩:=(show YC X.prog X.w H s.heap a (.tup xs) from I.hok a _ ea)
    obtain ⟨o,h1,h2,_⟩:=p
    exact PySem.W.kia_one PySem.W.kitx_tuple I.kIn ⟨o,h1,h2⟩ e (fun z=>nomatch z) h
  | @dK a kvs ea =>
    cases (show u=Value.ref a from rx)
    obtain ⟨_,_,vs,_,p⟩:=(show YC X.prog X.w H s.heap a (.dK kvs) from I.hok a _ ea)
    obtain ⟨o,es,ep,h1,h2,_⟩:=p
    exact PySem.W.kia_one PySem.W.kitx_dict I.kIn ⟨o,h1,h2.1⟩ e (fun z=>nomatch z) h
  | @dT a kvs ea =>
    cases (show u=Value.ref a from rx)
    obtain ⟨_,_,xs,_,o,es,ep,h1,h2,_⟩:=(show YC X.prog X.w H s.heap a (.dT kvs) from I.hok a _ ea)
    exact PySem.W.kia_one PySem.W.kitx_dict I.kIn ⟨o,h1,h2.1⟩ e (fun z=>nomatch z) h
  | @ins a C dx fs ea cl ha hn htk hm =>
    cases (show u=Value.ref a from rx)
    obtain ⟨mA,O,_⟩:=QdY I.hok ea
    obtain ⟨od,J,_⟩:=O.look
    exact PySem.W.kia_one (PySem.W.kitx_own (cl.get _) cl.hd ha hn htk hm) I.kIn J e (fun z=>nomatch z) h
end
end L2

namespace L2
open PySem PySem.Spec PyProof.Rows

structure Room (k:Nat) (A:Around):Prop where
  hd:A.handled=none
  dp:A.depth + 3 * k + 5 < recursionLimit
  un:A.units + 16 * k + 200 < cLine
theorem Room.mono {j k:Nat} {A:Around} (r:Room k A) (h:j≤k):Room j A:=⟨r.hd,by have:=r.dp;omega,by have:=r.un;omega⟩
theorem Room.deeper {k:Nat} {A:Around} (r:Room (k + 1) A) (env:Env):Room k (A.deeper env) :=
  ⟨r.hd,by have:=r.dp;show A.depth + 1 + 3 * k + 5 < _;omega,by have:=r.un;show A.units + 3 + 16 * k + 200 < _;omega⟩
theorem Room.in1 {k:Nat} {A:Around} (r:Room (k + 1) A):Room k A.in1 :=
  ⟨r.hd,by have:=r.dp;show A.depth + 3 * k + 5 < _;omega,by have:=r.un;show A.units + 1 + 16 * k + 200 < _;omega⟩
theorem QhX {A:Around} {C:Addr} {us:List Value} {kw:List (Str×Value)}:(A.under (.builtin "type.__call__" ⟨.ref C :: us,kw⟩)).depth=A.depth + 1:=by
  first | rfl | simp [Around.under,Code.weight,Code.isCreation,Code.isGuard,Code.isCaller,Code.frames,Code.isFrame,guardIds]
theorem QhW {A:Around} {C:Addr} {us:List Value} {kw:List (Str×Value)}:(A.under (.builtin "type.__call__" ⟨.ref C :: us,kw⟩)).units=A.units + 1:=by
  first | rfl | simp [Around.under,Code.cUnits,Code.frames,Code.isFrame]
theorem Room.make {k:Nat} {A:Around} (r:Room (k + 1) A) (C:Addr) (us:List Value) (kw:List (Str×Value)):Room k (A.under (.builtin "type.__call__" ⟨.ref C :: us,kw⟩)) :=
  ⟨r.hd,by have:=r.dp;rw [QhX];omega,by have:=r.un;rw [QhW];omega⟩
theorem Room.depth {k:Nat} {A:Around} (r:Room k A):A.depth < recursionLimit:=by have:=r.dp;omega
theorem Room.units {k:Nat} {A:Around} (r:Room k A):A.units + 64 < cLine:=by have:=r.un;omega
noncomputable def tNil:TA:=fun _ H Q=>Q [] H
noncomputable def tCons (ta:TE) (tr:TA):TA:=fun σ H Q=>ta σ H fun x H1=>tr σ H1 fun xs H2=>Q (x :: xs) H2
section
variable {X:Cx} {e:Expr} {es:List Expr} {te:TE} {t:TA} {pos:Pos}
theorem QfX:PA X [] tNil:=fun _ _ _ _ H Q I h=>Calls.spliced_nil ⟨[],H,I,.nil,h⟩
theorem Qby (ha:PE X e te) (hr:PA X es t) (hs:starEach (e :: es) X.env=(false,eval e X.env) :: starEach es X.env:=by rfl):PA X (e :: es) (tCons te t):=by
  intro pos pins s σ H Q I h
  rw [hs]
  show wpAny _ _ (spliced ((false,eval e X.env) :: backTo pos (starEach es X.env))) _ _ s
  refine Calls.spliced_cons (thn (ha pins s σ H _ I h) fun u s1 ⟨x,H1,I1,r1,q1⟩ => ?_)
  exact thn (hr pos pins s1 σ H1 _ I1 q1) fun us s2 ⟨xs,H2,I2,r2,q2⟩=>⟨x :: xs,H2,I2,.cons r1 r2,q2⟩

noncomputable def tTup (t:TA):TE:=fun σ H Q=>t σ H fun xs H1=>xs.length≤sizeLine∧∀ p,H1 p=none→Q (.ref p) (upd H1 p (.tup xs))
noncomputable def tLst (t:TA):TE:=fun σ H Q=>t σ H fun xs H1=>xs.length≤sizeLine∧∀ p,H1 p=none→Q (.ref p) (upd H1 p (.lst xs))
theorem pe_tup {x1} (h:PA X es t):PE X (.Tuple es x1 pos) (tTup t):=by
  intro pins s σ H Q I hq
  refine wpAny_Tuple_spliced (thn (h pos pins s σ H _ I hq) fun us s1 ⟨xs,H1,I1,r,z,q⟩=>⟨by rw [← r.length];exact z,?_⟩)
  have hf:H1 s1.heap.objs.size=none:=I1.hok.fresh (Nat.le_refl _)
  refine ⟨.ref s1.heap.objs.size,upd H1 s1.heap.objs.size (.tup xs),I1.laid (t':=s1.toks) (fun b u e=>Heap.get?_push_of_some _ e) (Nat.le_refl _) ?_,rfl,q _ hf⟩
  exact ⟨z,us,r,⟨_,Heap.get?_push_size _ rfl,rfl,_,rfl⟩⟩
theorem pe_lst (h:PA X es t):PE X (.List es pos) (tLst t):=by
  intro pins s σ H Q I hq
  refine wpAny_List_spliced (thn (h pos pins s σ H _ I hq) fun us s1 ⟨xs,H1,I1,r,z,q⟩=>⟨by rw [← r.length];exact z,?_⟩)
  have hf:H1 s1.heap.objs.size=none:=I1.hok.fresh (Nat.le_refl _)
  refine ⟨.ref s1.heap.objs.size,upd H1 s1.heap.objs.size (.lst xs),I1.laid (t':=s1.toks) (fun b u e=>Heap.get?_push_of_some _ e) (Nat.le_refl _) ?_,rfl,q _ hf⟩
  exact ⟨z,us,0,r,Heap.get?_push_size _ rfl⟩
end

noncomputable abbrev Sp:=List V→Hp→VK→XK→Prop
noncomputable abbrev CXT:=List Env→Hp→Shared→XK→Value→Shared→Prop

structure Env0 (P:Program) (w:World) (K:PySem.W.Frag) (mg:Str→Option Value) (base:Heap) (A:Around) (outer:List Env) (s:Shared) (H:Hp):Prop where
  frames:A.frames=some outer
  mod:Mod K mg base
  bs:∀ b o,base.get? b=some o→s.heap.get? b=some o∧H b=none
  bsz:base.objs.size≤s.heap.objs.size
  funs:s.heap.FunFrames base outer
  frf:∀ b∈frs outer,H b=none
  hok:HOk P w H s.heap
  bare:AllBare s.gens
noncomputable def CE (outer:List Env) (P:Program) (w:World) (H:Hp) (s:Shared) (Q:VK) (u:Value) (s':Shared):Prop :=
  ∃ v H',s'.os=s.os∧AllBare s'.gens∧Un (frs outer) [] H H' s.heap s'.heap∧HOk P w H' s'.heap∧RelV v u∧Q v H'
noncomputable def CR (CX:CXT) (outer:List Env) (P:Program) (w:World) (H:Hp) (s:Shared) (Q:VK) (E:XK) (r:Result) (s':Shared):Prop :=
  match r with
  | .ok (.ret u)=>CE outer P w H s Q u s'
  | .ok _=>False
  | .error e=>CX outer H s E e s'
structure FnOk (P:Program) (w:World) (K:PySem.W.Frag) (mg:Str→Option Value) (base:Heap) (CX:CXT) (k:Nat) (f:Addr) (fd:FuncData) (ps:List Str) (sp:Sp):Prop where
  len:∀ vs H Q E,sp vs H Q E→vs.length=ps.length
  run:∀ (A:Around) (outer:List Env) (s:Shared) (H:Hp) (args:Args) (us:List Value) (vs:List V) (Q:VK) (E:XK),Room k A→Env0 P w K mg base A outer s H→BindsTo s fd args (ps.zip us)→Vals vs us→sp vs H Q E →
    codeAny (model P w) A (.call (.ref f) args) (CR CX outer P w H s Q E) s
theorem FnOk.mono {P:Program} {w:World} {K:PySem.W.Frag} {mg:Str→Option Value} {base:Heap} {CX:CXT} {j k:Nat} {f:Addr} {fd:FuncData} {ps:List Str} {sp:Sp} (F:FnOk P w K mg base CX j f fd ps sp) (h:j≤k) :
    FnOk P w K mg base CX k f fd ps sp:=⟨F.len,fun A outer s H args us vs Q E hr=>F.run A outer s H args us vs Q E (hr.mono h)⟩
theorem FnOk.imp {P:Program} {w:World} {K:PySem.W.Frag} {mg:Str→Option Value} {base:Heap} {CX:CXT} {k:Nat} {f:Addr} {fd:FuncData} {ps:List Str} {sp sp':Sp} (F:FnOk P w K mg base CX k f fd ps sp)
    (h:∀ vs H Q E,sp' vs H Q E→sp vs H Q E):FnOk P w K mg base CX k f fd ps sp' :=
  ⟨fun vs H Q E q=>F.len vs H Q E (h _ _ _ _ q),fun A outer s H args us vs Q E hr he hb hv hs=>F.run A outer s H args us vs Q E hr he hb hv (h _ _ _ _ hs)⟩

theorem Env0.make {P:Program} {w:World} {K:PySem.W.Frag} {mg:Str→Option Value} {base:Heap} {A:Around} {outer:List Env} {s:Shared} {H:Hp} (e:Env0 P w K mg base A outer s H) (C:Addr) (us:List Value) (kw:List (Str×Value)) :
    Env0 P w K mg base (A.under (.builtin "type.__call__" ⟨.ref C :: us,kw⟩)) outer s H:=⟨by first | exact e.frames | (simpa [Around.under,Code.envs,Code.isFrame,pushEnvs] using e.frames),e.mod,e.bs,e.bsz,e.funs,e.frf,e.hok,e.bare⟩
theorem Env0.in1 {P:Program} {w:World} {K:PySem.W.Frag} {mg:Str→Option Value} {base:Heap} {A:Around} {outer:List Env} {s:Shared} {H:Hp} (e:Env0 P w K mg base A outer s H) :
    Env0 P w K mg base A.in1 outer s H:=⟨e.frames,e.mod,e.bs,e.bsz,e.funs,e.frf,e.hok,e.bare⟩

section
variable {X:Cx} {pins:List (Addr×Obj)} {σ:St} {H:Hp} {s s':Shared}
theorem Inv.env0 (I:Inv X pins σ H s):Env0 X.prog X.w X.K X.mg X.base X.A X.stack s H :=
  ⟨I.ok.frames,I.ok.mod,I.bs,Nat.le_trans I.ok.bsz I.sz,I.stack,I.stkFree,I.hok,I.bare⟩
theorem Inv.after {Q:VK} {u:Value} (I:Inv X pins σ H s) (h:CE X.stack X.prog X.w H s Q u s'):EP X pins σ Q u s':=by
  obtain ⟨v,H',os,bare,un,hok,r,q⟩:=h
  obtain ⟨hh,g,d,t,os'⟩:=s'
  obtain rfl:os'=s.os:=os
  exact ⟨v,H',I.call (h':=hh) (g':=g) (d':=d) (t':=t) (ch:=[]) un hok bare (fun b z=>absurd z (by simp)),r,q⟩
end

noncomputable def Qgn (sp:Sp) (dvs:List V) (E:XK) (t:TA):TE:=fun σ H Q=>t σ H fun vs H1=>sp (vs++dvs) H1 Q E
noncomputable def tMake (C:Addr) (sp:Sp) (dvs:List V) (E:XK) (t:TA):TE:=fun σ H Q=>t σ H fun vs H1=>∀ x dx,H1 x=none→H1 dx=none→dx≠x →
  sp (.ref x :: (vs++dvs)) (upd (upd H1 dx (.own x)) x (.ins C dx [])) (fun v H2=>v = .non∧Q (.ref x) H2) E

noncomputable def YR (K:PySem.W.Frag) (fd:FuncData) (ps:List Str) (ds:List Value):Prop :=
  ∀ (s:Shared) (us:List Value),K.In s.heap→(us++ds).length=ps.length→BindsTo s fd ⟨us,[]⟩ (ps.zip (us++ds))
theorem YR.all {K:PySem.W.Frag} {fd:FuncData} {ps:List Str} (h:∀ us:List Value,us.length=ps.length→bindArgs fd ⟨us,[]⟩=pure (ps.zip us)):YR K fd ps []:=fun s us _ hl=>by
  rw [List.append_nil] at hl ⊢
  exact .of_eq (h us hl)

noncomputable def QeL (CX:CXT) (X:Cx) (E:XK):Prop:=∀ (pins:List (Addr×Obj)) (σ:St) (H:Hp) (s:Shared) (e:Value) (s':Shared),Inv X pins σ H s→CX X.stack H s E e s'→X.xe e s'

section
variable {X:Cx} {CX:CXT} {k:Nat} {f C:Addr} {fd:FuncData} {ps:List Str} {sp:Sp} {dvs:List V} {ds:List Value} {E:XK} {x m:Str} {p pos apos:Pos} {e o:Expr} {es:List Expr} {ta:TE} {t:TA}

theorem Qix {pins:List (Addr×Obj)} {σ:St} {H:Hp} {s:Shared} {Q:VK} {us:List Value} {vs:List V} (F:FnOk X.prog X.w X.K X.mg X.base CX k f fd ps sp) (hr:Room k X.A) (hb:YR X.K fd ps ds) (hd:Vals dvs ds) (hx:QeL CX X E)
    (I:Inv X pins σ H s) (r:Vals vs us) (h:sp (vs++dvs) H Q E):wpAny (model X.prog X.w) X.A (call (.ref f) us) (EP X pins σ Q) X.xe s:=by
  have r2:Vals (vs++dvs) (us++ds):=r.append hd
  have hl:(us++ds).length=ps.length:=by rw [← r2.length];exact F.len _ _ _ _ h
  refine wpAny_call (codeAny_mono (F.run X.A X.stack s H ⟨us,[]⟩ (us++ds) (vs++dvs) Q E hr I.env0 (hb s us I.kIn hl) r2 h) fun r s' hq => ?_)
  cases r with
  | error e=>exact hx pins σ H s e s' I hq
  | ok fl =>
    cases fl with
    | ret u=>exact I.after hq
    | next=>exact False.elim hq
    | brk=>exact False.elim hq
    | cont=>exact False.elim hq

theorem QfL (F:FnOk X.prog X.w X.K X.mg X.base CX k f fd ps sp) (hr:Room k X.A) (hg:Gl X x) (hm:X.mg x=some (.ref f)) (hk:PySem.W.keepIn X.K (.ref f)=true) (hb:YR X.K fd ps ds) (hd:Vals dvs ds) (hx:QeL CX X E)
    (ha:PA X (e :: es) t) (hdb:(x==("__debug__":Str))=false:=by decide) (he:starEach (e :: es) X.env=(false,eval e X.env) :: starEach es X.env:=by rfl) (hpl:(backTo pos (starEach es X.env)).any (·.1)=false:=by rfl) :
    PE X (.Call (.Name x p) (e :: es) [] pos) (Qgn sp dvs E t):=by
  intro pins s σ H Q I h
  refine wpAny_Call_Name_kw (QfO I hg hm ?_ hdb)
  refine PySem.W.callWith_K (h₀:=X.base) I.ok.mod.kin hk (thn (ha pos pins s σ H _ I h) fun us s1 ⟨vs,H1,I1,r,q⟩=>⟨I1.kIn,?_⟩) he hpl
  exact Qix F hr hb hd hx I1 r q
structure Mk (K:PySem.W.Frag) (C f:Addr):Prop where
  makes:PySem.W.makesIn K C=true
  init:PySem.W.findIn K (.ref C) "__init__"=some (some (.ref f))
  fn:PySem.W.isFn K (.ref f)=true
  kp:PySem.W.keepIn K (.ref C)=true

theorem run_make {pins:List (Addr×Obj)} {σ:St} {H:Hp} {s:Shared} {Q:VK} {us:List Value} {vs:List V} (M:Mk X.K C f) (F:FnOk X.prog X.w X.K X.mg X.base CX k f fd ps sp) (hr:Room (k + 1) X.A) (hb:YR X.K fd ps ds) (hd:Vals dvs ds)
    (hx:QeL CX X E) (I:Inv X pins σ H s) (r:Vals vs us)
    (h:∀ x dx,H x=none→H dx=none→dx≠x→sp (.ref x :: (vs++dvs)) (upd (upd H dx (.own x)) x (.ins C dx [])) (fun v H2=>v = .non∧Q (.ref x) H2) E) :
    wpAny (model X.prog X.w) X.A (call (.ref C) us) (EP X pins σ Q) X.xe s:=by
  have hq:=h (s.heap.objs.size + 1) s.heap.objs.size (I.hok.fresh (Nat.le_succ _)) (I.hok.fresh (Nat.le_refl _)) (Nat.ne_of_lt (Nat.lt_succ_self _))
  have I2:=Inv.made (C:=C) I
  have r2:Vals (V.ref (s.heap.objs.size + 1) :: (vs++dvs)) (Value.ref (s.heap.objs.size + 1) :: (us++ds)) := .cons rfl (r.append hd)
  have hl:(Value.ref (s.heap.objs.size + 1) :: us++ds).length=ps.length:=by
    have e:=r2.length
    rw [F.len _ _ _ _ hq] at e
    exact e.symm
  refine wpAny_call (make_map (f:=f) I.kIn M.makes M.init (beq_iff_eq.mp M.fn) (codeAny_mono (F.run _ X.stack _ _ ⟨Value.ref (s.heap.objs.size + 1) :: us,[]⟩ (Value.ref (s.heap.objs.size + 1) :: (us++ds)) _ _ E (hr.make C us [])
    (I2.env0.make C us []) (hb _ (Value.ref (s.heap.objs.size + 1) :: us) I2.kIn hl) r2 hq) fun r s' hq' => ?_))
  cases r with
  | error e=>exact hx pins σ _ _ e s' I2 hq'
  | ok fl =>
    cases fl with
    | ret u =>
      obtain ⟨v,H',I3,rv,ev,q3⟩:=I2.after hq'
      subst ev
      exact ⟨rv,⟨V.ref (s.heap.objs.size + 1),H',I3,rfl,q3⟩⟩
    | next=>exact False.elim hq'
    | brk=>exact False.elim hq'
    | cont=>exact False.elim hq'
theorem pe_make (M:Mk X.K C f) (F:FnOk X.prog X.w X.K X.mg X.base CX k f fd ps sp) (hr:Room (k + 1) X.A) (hg:Gl X x) (hm:X.mg x=some (.ref C)) (hb:YR X.K fd ps ds) (hd:Vals dvs ds) (hx:QeL CX X E)
    (ha:PA X (e :: es) t) (hdb:(x==("__debug__":Str))=false:=by decide) (he:starEach (e :: es) X.env=(false,eval e X.env) :: starEach es X.env:=by rfl) (hpl:(backTo pos (starEach es X.env)).any (·.1)=false:=by rfl) :
    PE X (.Call (.Name x p) (e :: es) [] pos) (tMake C sp dvs E t):=by
  intro pins s σ H Q I h
  refine wpAny_Call_Name_kw (QfO I hg hm ?_ hdb)
  refine PySem.W.callWith_K (h₀:=X.base) I.ok.mod.kin M.kp (thn (ha pos pins s σ H _ I h) fun us s1 ⟨vs,H1,I1,r,q⟩=>⟨I1.kIn,?_⟩) he hpl
  exact run_make M F hr hb hd hx I1 r q
end

section
variable {X:Cx} {CX:CXT} {k:Nat} {f C:Addr} {fd:FuncData} {ps ks:List Str} {sp:Sp} {E:XK} {x m:Str} {p pos apos kpos:Pos} {e o:Expr} {es:List Expr} {kws:List Keyword} {te ta:TE} {t tk:TA} {nm:Option Str}
variable {g:List Value→List Value→List Value} {gV:List V→List V→List V}
end

structure FnScope (N P:List Str) (sc:Scope):Prop where
  kind:sc.kind = .function
  co:sc.isCoroutine=false
  gen:sc.isGenerator=false
  nd:N.Nodup
  pre:N.take P.length=P
  par:∀ x∈P,sc.names.lookup x=some .local∨sc.names.lookup x=some .cell
  nofree:∀ y∈sc.names,y.2 ≠ .free

theorem Qfj {kindOf:Str→Option NameKind} {x:Str}:∀ {binds:List (Str×Value)} {m:Str→Option Value},(∀ v,(x,v)∉binds)→bindL kindOf binds m x=m x
  | [],_,_=>rfl
  | (n,v) :: r,m,h=>by
    unfold bindL
    rw [Qfj fun w hw=>h w (List.mem_cons_of_mem _ hw)]
    split
    · have:x≠n:=by rintro rfl;exact h v List.mem_cons_self
      simp [this]
    · rfl
theorem Qfl {kindOf:Str→Option NameKind} {x:Str}:∀ {binds:List (Str×Value)} {m:Str→Option Value},(∀ v,(x,v)∉binds)→bindC kindOf binds m x=m x
  | [],_,_=>rfl
  | (n,v) :: r,m,h=>by
    unfold bindC
    rw [Qfl fun w hw=>h w (List.mem_cons_of_mem _ hw)]
    split
    · rfl
    · have:x≠n:=by rintro rfl;exact h v List.mem_cons_self
      simp [this]
theorem Qfk {kindOf:Str→Option NameKind} {x:Str} {v:Value}:∀ {P:List Str} {vs:List Value} {i:Nat} {m:Str→Option Value},P.Nodup→P[i]?=some x→vs[i]?=some v→kindOf x=some .local →
    bindL kindOf (P.zip vs) m x=some v
  | [],_,_,_,_,h,_,_=>by simp at h
  | _ :: _,[],_,_,_,_,h,_=>by simp at h
  | p :: P,w :: vs,0,m,nd,h1,h2,hk=>by
    simp at h1 h2;subst h1;subst h2
    show bindL kindOf ((p,w) :: P.zip vs) m p=_
    unfold bindL
    rw [Qfj fun v hv=>(List.nodup_cons.mp nd).1 (List.of_mem_zip hv).1,if_pos hk]
    simp
  | p :: P,w :: vs,i + 1,m,nd,h1,h2,hk=>by
    show bindL kindOf ((p,w) :: P.zip vs) m x=_
    unfold bindL
    exact Qfk (i:=i) (List.nodup_cons.mp nd).2 (by simpa using h1) (by simpa using h2) hk
theorem Qfm {kindOf:Str→Option NameKind} {x:Str} {v:Value}:∀ {P:List Str} {vs:List Value} {i:Nat} {m:Str→Option Value},P.Nodup→P[i]?=some x→vs[i]?=some v→kindOf x≠some .local →
    bindC kindOf (P.zip vs) m x=some v
  | [],_,_,_,_,h,_,_=>by simp at h
  | _ :: _,[],_,_,_,_,h,_=>by simp at h
  | p :: P,w :: vs,0,m,nd,h1,h2,hk=>by
    simp at h1 h2;subst h1;subst h2
    show bindC kindOf ((p,w) :: P.zip vs) m p=_
    unfold bindC
    rw [Qfl fun v hv=>(List.nodup_cons.mp nd).1 (List.of_mem_zip hv).1,if_neg hk]
    simp
  | p :: P,w :: vs,i + 1,m,nd,h1,h2,hk=>by
    show bindC kindOf ((p,w) :: P.zip vs) m x=_
    unfold bindC
    exact Qfm (i:=i) (List.nodup_cons.mp nd).2 (by simpa using h1) (by simpa using h2) hk

noncomputable def XV (N:List Str) (vs:List V):St:=vs.map some++List.replicate (N.length - vs.length) none

noncomputable def cxOf (CX:CXT) (P:Program) (w:World) (K:PySem.W.Frag) (mg:Str→Option Value) (base:Heap) (N:List Str) (qual:Str) (scope:Scope) (f:Addr) (cd:Value) (A:Around) (outer:List Env) (s:Shared) (H:Hp) (E:XK):Cx where
  prog:=P
  w:=w
  K:=K
  mg:=mg
  base:=base
  A:=A.deeper (envOfC qual scope s.heap.objs.size f cd)
  N:=N
  s₀:=s
  H₀:=H
  env:=envOfC qual scope s.heap.objs.size f cd
  outer:=outer
  stack:=envOfC qual scope s.heap.objs.size f cd :: outer
  ex:=[]
  calm:=true
  fn:=fun _=>true
  pn:=[]
  xe:=fun e s'=>wpAny (model P w) (A.deeper (envOfC qual scope s.heap.objs.size f cd)) (leaving (envOfC qual scope s.heap.objs.size f cd) e) (fun _ s''=>CX outer H s E e s'') (fun e' s''=>CX outer H s E e' s'') s'

theorem Qhu {sc:Scope} {n:Nat} {x:Str} (h:sc.names.lookup x=some .cell):∃ c,(cellsFrom n sc.names []).lookup x=some c:=by
  have q:=PySem.W.cellsFrom_some sc.names n [] (.inl h)
  exact Option.isSome_iff_exists.mp q

theorem QjL {CX:CXT} {P:Program} {w:World} {K:PySem.W.Frag} {mg:Str→Option Value} {base:Heap} {N ps:List Str} {qual:Str} {scope:Scope} {f:Addr} {cd:Value} {A:Around} {outer:List Env} {s s1:Shared} {H:Hp} {E:XK} {us:List Value} {vs:List V}
    (S:FnScope N ps scope) (hd:A.handled=none) (e0:Env0 P w K mg base A outer s H) (hl:vs.length=ps.length) (r:Vals vs us)
    (x:InCallC s s.heap.objs.size (bindL (envOfC qual scope s.heap.objs.size f cd).kindOf (ps.zip us) fun _=>none) (cellsFrom (s.heap.objs.size + 1) scope.names []) (bindC (envOfC qual scope s.heap.objs.size f cd).kindOf (ps.zip us) fun _=>none) s1) :
    Inv (cxOf CX P w K mg base N qual scope f cd A outer s H E) [] (XV N vs) H s1:=by
  have hpl:ps.length≤N.length:=by have:=congrArg List.length S.pre;rw [List.length_take] at this;omega
  obtain ⟨h1,tk,rfl,hk⟩:=x.done
  have noA:∀ b:Addr,b∉(cxOf CX P w K mg base N qual scope f cd A outer s H E).ex:=fun b z=>absurd (show b∈([]:List Addr) from z) (by simp)
  refine ⟨⟨e0.mod,S.kind,rfl,rfl,Nat.le_refl _,fun y z c h1 h2 => ?_,fun y hy => ?_,fun y c _ h => ?_,fun _=>hd,Around.frames_deeper e0.frames,.inr ⟨rfl,rfl⟩,fun b z=>absurd z (noA b),e0.bs,e0.bsz,fun b _ _=>noA b,fun b z=>absurd z (noA b),e0.funs,e0.frf⟩,
    rfl,e0.bare,Un.kept hk,⟨_,x.toInCall.ns,fun i y v h1 h2 h3 => ?_⟩,fun y c h=>⟨_,x.cell y c h⟩,e0.hok.fresh (Nat.le_refl _),fun y c h => ?_,fun p hp=>absurd (show p∈([]:List (Addr×Obj)) from hp) (by simp),e0.hok.kept hk,?_⟩
  · exact name_of_addr x.apart (PySem.mem_of_lookup h1) (PySem.mem_of_lookup h2)
  · have hy:scope.names.lookup y=some .cell∨scope.names.lookup y=some .free:=hy
    rcases hy with hy | hy
    · exact Qhu hy
    · exact absurd rfl (S.nofree _ (PySem.mem_of_lookup hy))
  · exact Nat.le_of_lt (x.above y c (PySem.mem_of_lookup h))
  · have hi:i < vs.length:=by
      unfold XV at h2
      by_cases hi:i < vs.length
      · exact hi
      · rw [List.getElem?_append_right (by simpa using hi)] at h2
        rw [List.getElem?_replicate] at h2
        split at h2 <;> cases h2
    have ha:vs[i]?=some v:=by
      unfold XV at h2
      rw [List.getElem?_append_left (by simpa using hi),List.getElem?_map] at h2
      cases e:vs[i]? with
      | none=>rw [e] at h2;cases h2
      | some a=>rw [e] at h2;cases h2;rfl
    obtain ⟨u,hu,rv⟩:=r.get ha
    have hp:ps[i]?=some y:=by
      rw [← S.pre,List.getElem?_take_of_lt (by omega)];exact h1
    have ndP:ps.Nodup:=by rw [← S.pre];exact S.nd.sublist (List.take_sublist _ _)
    refine ⟨u,rv,?_⟩
    rcases S.par y (List.mem_of_getElem? hp) with k | k
    · exact .inl ⟨k,Qfk ndP hp hu k⟩
    · obtain ⟨c,e⟩:=Qhu (n:=s.heap.objs.size + 1) k
      refine .inr ⟨.inl k,c,e,?_⟩
      have q:=x.cell y c e
      rw [Qfm ndP hp hu (by show scope.names.lookup y≠_;rw [k];decide)] at q
      exact q
  · exact e0.hok.fresh (Nat.le_of_lt (x.above y c (PySem.mem_of_lookup h)))
  · unfold XV
    show _=N.length
    rw [List.length_append,List.length_map,List.length_replicate]
    omega

theorem fn_of {CX:CXT} {P:Program} {w:World} {K:PySem.W.Frag} {mg:Str→Option Value} {base:Heap} {k:Nat} {f:Addr} {name qual:Str} {params:Arguments} {body:List Stmt} {scope:Scope} {dV kV doc pm cdv ct oc:Value} {an od:Option Addr}
    {osl:Array (Option Value)} {N ps:List Str} {sp:Sp} (lk:K.lookup f=some ⟨oc,od,.func (PySem.W.fnOf name qual params body scope dV kV doc pm an cdv ct),osl⟩) (hcd:PySem.W.codeIn K cdv qual=true) (S:FnScope N ps scope)
    (len:∀ vs H Q E,sp vs H Q E→vs.length=ps.length)
    (hbody:∀ (A:Around) (outer:List Env) (s:Shared) (H:Hp) (vs:List V) (Q:VK) (E:XK),Room k (A.deeper (envOfC qual scope s.heap.objs.size f cdv))→sp vs H Q E →
      ∃ t,PSs (cxOf CX P w K mg base N qual scope f cdv A outer s H E) body t∧t { nx:=fun _ H'=>Q .non H',rt:=Q } (XV N vs) H) :
    FnOk P w K mg base CX (k + 1) f (PySem.W.fnOf name qual params body scope dV kV doc pm an cdv ct) ps sp:=by
  refine ⟨len,fun A outer s H args us vs Q E hr e0 hb r hsp => ?_⟩
  have hl:=len _ _ _ _ hsp
  have KX:K.In s.heap:=e0.mod.kin.keeps fun b o e=>(e0.bs b o e).1
  have lim:s.heap.NoLimit:=e0.mod.nolimit.keeps fun b o e=>(e0.bs b o e).1
  have hkind:∀ y∈ps.zip us,scope.names.lookup y.1=some .local∨(scope.names.lookup y.1=some .cell∧((cellsFrom (s.heap.objs.size + 1) scope.names []).lookup y.1).isSome=true):=fun ⟨n,v⟩ hy=>by
    rcases S.par n (List.of_mem_zip hy).1 with q | q
    · exact .inl q
    · exact .inr ⟨q,PySem.W.cellsFrom_some _ _ _ (.inl q)⟩
  refine codeAny_call_function hr.depth (KX _ _ lk) rfl S.co S.gen rfl (PySem.W.codeRec_of KX hcd) (hb _ _ _ _ ?_)
  refine wpAny_newFunctionEnv_cells S.kind hkind fun env he s1 x => ?_
  subst he
  refine ⟨lim.keeps x.toInCall.keep,codeAny_func ?_⟩
  obtain ⟨t,ht,hq⟩:=hbody A outer s H vs Q E (hr.deeper _) hsp
  have I:Inv (cxOf CX P w K mg base N qual scope f cdv A outer s H E) [] (XV N vs) H s1:=QjL S hr.hd e0 hl r x
  refine wpAny_mono (ht [] s1 (XV N vs) H _ I hq) (fun fl s' hs => ?_) fun e s' hs=>hs
  have fin:∀ {σ':St} {H':Hp} {v:V} {u:Value},Inv (cxOf CX P w K mg base N qual scope f cdv A outer s H E) [] σ' H' s'→RelV v u→Q v H'→CE outer P w H s Q u s' :=
    fun {σ' H' v u} J rv q=>⟨v,H',J.os,J.bare,J.base,J.hok,rv,q⟩
  cases fl with
  | ret u =>
    obtain ⟨v,σ',H',J,rv,q⟩:=hs
    exact fin J rv q
  | next =>
    obtain ⟨σ',H',J,q⟩:=hs
    exact fin (v:=V.non) (u:=Value.none) J rfl q
  | brk =>
    obtain ⟨_,_,_,q⟩:=hs
    exact False.elim q
  | cont =>
    obtain ⟨_,_,_,q⟩:=hs
    exact False.elim q
end L2

namespace L2
open PySem PySem.Spec PyProof.Rows
section
variable {X:Cx} {x:Str} {p pos:Pos} {e:Expr} {es:List Expr} {t:TA} {id T:String} {r:List V→Hp→VK→Prop}

noncomputable def tCB (r:List V→Hp→VK→Prop) (t:TA):TE:=fun σ H Q=>t σ H fun vs H1=>r vs H1 Q
theorem Qct (hc:Xv X (.builtin id) r) (hg:Gl X x) (hm:X.mg x=none) (hv:bootBuiltins x=some (.builtin id)) (ha:PA X (e :: es) t) (hn:x ≠ "__name__":=by decide) (hdb:(x==("__debug__":Str))=false:=by decide)
    (he:starEach (e :: es) X.env=(false,eval e X.env) :: starEach es X.env:=by rfl) (hpl:(backTo pos (starEach es X.env)).any (·.1)=false:=by rfl):PE X (.Call (.Name x p) (e :: es) [] pos) (tCB r t):=by
  intro pins s σ H Q I h
  refine wpAny_Call_Name_kw (QaL I hg hm hv ?_ hn hdb)
  exact PyProof.Rows.callWith_builtin1 (thn (ha pos pins s σ H _ I h) fun us s1 ⟨vs,H1,I1,r1,q1⟩=>hc pins s1 σ H1 vs us Q I1 r1 q1) he hpl
theorem QcM (hc:Xv X (.type T) r) (hg:Gl X x) (hm:X.mg x=none) (hv:bootBuiltins x=some (.type T)) (ha:PA X (e :: es) t) (hn:x ≠ "__name__":=by decide) (hdb:(x==("__debug__":Str))=false:=by decide)
    (he:starEach (e :: es) X.env=(false,eval e X.env) :: starEach es X.env:=by rfl) (hpl:(backTo pos (starEach es X.env)).any (·.1)=false:=by rfl):PE X (.Call (.Name x p) (e :: es) [] pos) (tCB r t):=by
  intro pins s σ H Q I h
  refine wpAny_Call_Name_kw (QaL I hg hm hv ?_ hn hdb)
  exact PyProof.Rows.callWith_type1 (thn (ha pos pins s σ H _ I h) fun us s1 ⟨vs,H1,I1,r1,q1⟩=>hc pins s1 σ H1 vs us Q I1 r1 q1) he hpl
end
end L2

namespace HT
open PySem PyProof.Rows

section
open PySem.SeqAt
open PySem.AutoSeq1 (wpAny_loadPart')
open PySem.MeetsSeq PySem.MeetsSeq2 PySem.MeetsSeq3

end

section
variable {prog:Program} {w:World} {A:Around} {E:Value→Shared→Prop} {s:Shared}

noncomputable def sIx (n d:Nat):Option Int→Nat
  | none=>d
  | some v=>if v < 0 then (v + (n:Int)).toNat else min v.toNat n
theorem sIx_nat (n d k:Nat):sIx n d (some (k:Int))=min k n:=by
  show (if (k:Int) < 0 then ((k:Int) + (n:Int)).toNat else min (k:Int).toNat n)=min k n
  rw [if_neg (by omega),Int.toNat_natCast]
end
end HT

namespace L2
open PySem PySem.Spec PyProof.Rows

noncomputable abbrev TO:=St→Hp→(Option Int→Hp→Prop)→Prop
noncomputable def PO (X:Cx) (e:Option Expr) (t:TO):Prop :=
  ∀ (pins:List (Addr×Obj)) (s:Shared) (σ:St) (H:Hp) (Q:Option Int→Hp→Prop),Inv X pins σ H s→t σ H Q →
    wpAny (model X.prog X.w) X.A (evalPart e X.env) (fun u s'=>∃ o H',Inv X pins σ H' s'∧IsPart u o∧Q o H') X.xe s
noncomputable def tNoPart:TO:=fun _ H Q=>Q none H
noncomputable def tPart (t:TE):TO:=fun σ H Q=>t σ H fun x H1=>∃ i,x = .int i∧Q (some i) H1

theorem Qic {ns:List Int}:∀ {us:List Value},Vals (ns.map V.int) us→IntsAre us ns:=by
  induction ns with
  | nil=>intro us r;rw [List.map_nil] at r;cases r;exact .nil
  | cons n ns ih =>
    intro us r
    rw [List.map_cons] at r
    cases r with
    | cons r1 r2 =>
      obtain ⟨t,e⟩:=r1
      subst e
      exact .cons n t (ih r2)

section
variable {X:Cx} {e:Expr} {te:TE} {lo hi:Option Expr} {tl th:TO} {pos p2:Pos}

theorem po_none:PO X none tNoPart:=by
  intro pins s σ H Q I h
  rw [evalPart_none]
  exact wpAny_pure ⟨none,H,I,.none,h⟩
theorem po_some (h:PE X e te):PO X (some e) (tPart te):=by
  intro pins s σ H Q I hw
  rw [evalPart_some]
  refine thn (h pins s σ H _ I hw) fun u s1 ⟨x,H1,I1,r1,q1⟩ => ?_
  obtain ⟨i,rfl,q⟩:=q1
  obtain ⟨t,rfl⟩:=r1
  exact ⟨some i,H1,I1,.int i t,q⟩

noncomputable def SlR (X:Cx) (r:V→Option Int→Option Int→Hp→VK→Prop):Prop :=
  ∀ (pins:List (Addr×Obj)) (s:Shared) (σ:St) (H:Hp) (x:V) (v vl vu:Value) (lo hi:Option Int) (sl:Addr) (Q:VK),Inv X pins σ H s→RelV x v→s.heap.IsSliceOf sl vl vu .none→IsPart vl lo→IsPart vu hi→r x lo hi H Q →
    ∃ T id,typeLookup (.type T) "__getitem__"=pure (some (.builtin id))∧s.TypeIs v T∧wpAny (model X.prog X.w) X.A (getItem v (.ref sl)) (EP X pins σ Q) X.xe s
theorem SlR.or {r r':V→Option Int→Option Int→Hp→VK→Prop} (h:SlR X r) (h':SlR X r'):SlR X (fun x lo hi H Q=>r x lo hi H Q∨r' x lo hi H Q):=by
  intro pins s σ H x v vl vu lo hi sl Q I rx hs pl pu q
  rcases q with q | q
  · exact h pins s σ H x v vl vu lo hi sl Q I rx hs pl pu q
  · exact h' pins s σ H x v vl vu lo hi sl Q I rx hs pl pu q
noncomputable def tSl (r:V→Option Int→Option Int→Hp→VK→Prop) (te:TE) (tl th:TO):TE:=fun σ H Q=>te σ H fun x H1=>tl σ H1 fun l H2=>th σ H2 fun u H3=>r x l u H3 Q
theorem pe_slice {r:V→Option Int→Option Int→Hp→VK→Prop} (hr:SlR X r) (he:PE X e te) (hl:PO X lo tl) (hu:PO X hi th):PE X (.Subscript e (.Slice lo hi none p2) pos) (tSl r te tl th):=by
  intro pins s σ H Q I h
  refine Subscript_ (thn (he pins s σ H _ I h) fun v s1 ⟨x,H1,I1,r1,q1⟩ => ?_)
  refine wpAny_Slice (thn (hl pins s1 σ H1 _ I1 q1) fun vl s2 ⟨l,H2,I2,pl,q2⟩=>thn (hu pins s2 σ H2 _ I2 q2) fun vu s3 ⟨u,H3,I3,pu,q3⟩ => ?_)
  rw [evalPart_none]
  refine wpAny_pure ?_
  have I4:Inv X pins σ H3 { s3 with heap:=s3.heap.push { cls := .type "slice",data := .fields #[vl,vu,.none] } }:=I3.kept (t':=s3.toks) fun b ob q=>Heap.get?_push_of_some _ q
  obtain ⟨T,id,hT,ht,hg⟩:=hr pins { s3 with heap:=s3.heap.push { cls := .type "slice",data := .fields #[vl,vu,.none] } } σ H3 x v vl vu l u s3.heap.objs.size Q I4 r1 (Heap.IsSliceOf.new ..) pl pu q3
  show wpAny (model X.prog X.w) X.A (subscriptTail e (.Slice lo hi none p2) v (.ref s3.heap.objs.size)) (EP X pins σ Q) X.xe { s3 with heap:=s3.heap.push { cls := .type "slice",data := .fields #[vl,vu,.none] } }
  exact tail_any (ops:=[.ref s3.heap.objs.size,v]) ht hT hg (by with_unfolding_all rfl)

noncomputable def cutV (xs:List V) (lo hi:Option Int):List V:=(xs.drop (HT.sIx xs.length 0 lo)).take (HT.sIx xs.length xs.length hi - HT.sIx xs.length 0 lo)
theorem QgF (xs:List V) (lo hi:Option Int):(cutV xs lo hi).length≤xs.length:=by
  unfold cutV
  rw [List.length_take,List.length_drop]
  omega
end
end L2

namespace L2
open PySem PySem.Spec PyProof.Rows

noncomputable def ixN (n:Nat) (i:Int):Option Nat:=if 0≤i then (if i < n then some i.toNat else none) else if -(n:Int)≤i then some (i + n).toNat else none
noncomputable def atI {α:Type} (xs:List α) (i:Int):Option α:=(ixN xs.length i).bind fun j=>xs[j]?
theorem Qjb {n:Nat} {i:Int} {j:Nat} (h:ixN n i=some j):seqIndex? i n=some j∧j < n ∧ -(n:Int)≤i∧i < n:=by
  unfold ixN at h
  by_cases h0:0≤i
  · rw [if_pos h0] at h
    by_cases h1:i < n
    · rw [if_pos h1] at h
      have e:i.toNat=j:=Option.some.inj h
      exact ⟨by rw [seqIndex_of h0 h1,e],by omega,by omega,h1⟩
    · rw [if_neg h1] at h;cases h
  · rw [if_neg h0] at h
    by_cases h1 : -(n:Int)≤i
    · rw [if_pos h1] at h
      have e:(i + n).toNat=j:=Option.some.inj h
      exact ⟨by rw [seqIndex_neg (by omega) h1,e],by omega,h1,by omega⟩
    · rw [if_neg h1] at h;cases h
theorem QfV {α:Type} {xs:List α} {i:Int} {v:α} (h:atI xs i=some v):∃ j,seqIndex? i xs.length=some j∧xs[j]?=some v∧j < xs.length ∧ -(xs.length:Int)≤i∧i < xs.length:=by
  unfold atI at h
  cases e:ixN xs.length i with
  | none=>rw [e] at h;cases h
  | some j =>
    rw [e] at h
    obtain ⟨h1,h2,h3,h4⟩:=Qjb e
    exact ⟨j,h1,h,h2,h3,h4⟩
theorem atI_nat {α:Type} {xs:List α} {j:Nat} {v:α} (h:xs[j]?=some v):atI xs (j:Int)=some v:=by
  have hj:j < xs.length:=(List.getElem?_eq_some_iff.mp h).1
  have e:ixN xs.length (j:Int)=some j:=by
    unfold ixN
    rw [if_pos (by omega),if_pos (by omega)];simp
  unfold atI;rw [e];exact h
theorem atI_last {α:Type} (xs:List α) (v:α):atI (xs++[v]) (-1)=some v:=by
  have hl:(xs++[v]).length=xs.length + 1:=by simp
  have e:ixN (xs++[v]).length (-1)=some xs.length:=by
    unfold ixN
    rw [hl,if_neg (by decide),if_pos (by omega)]
    congr 1
    omega
  unfold atI
  rw [e]
  show (xs++[v])[xs.length]?=some v
  simp

noncomputable def Qjm (b:Expr):Prop:=∀ o i,subscripted b false o i=operate [o,i] (getItem o i)
noncomputable def IxR (X:Cx) (r:R2):Prop :=
  ∀ (value slice:Expr) (pins:List (Addr×Obj)) (s:Shared) (σ:St) (H:Hp) (x y:V) (v u:Value) (Q:VK),Inv X pins σ H s→RelV x v→RelV y u→r x y H Q →
    subscripted slice false v u=operate [v,u] (getItem v u)→wpAny (model X.prog X.w) X.A (subscriptTail value slice v u) (EP X pins σ Q) X.xe s
noncomputable def MtR (X:Cx) (id:String) (r:V→List V→Hp→VK→Prop):Prop :=
  ∀ (pins:List (Addr×Obj)) (s:Shared) (σ:St) (H:Hp) (x:V) (xs:List V) (v:Value) (us:List Value) (Q:VK),Inv X pins σ H s→RelV x v→Vals xs us→r x xs H Q →
    wpAny (model X.prog X.w) X.A (call (.builtin id) (v :: us)) (EP X pins σ Q) X.xe s
section
variable {X:Cx} {a b:Expr} {ta tb:TE} {pos:Pos}
theorem IxR.or {r r':R2} (h:IxR X r) (h':IxR X r'):IxR X (fun x y H Q=>r x y H Q∨r' x y H Q):=by
  intro value slice pins s σ H x y v u Q I rx ry q hs
  rcases q with q | q
  · exact h value slice pins s σ H x y v u Q I rx ry q hs
  · exact h' value slice pins s σ H x y v u Q I rx ry q hs
theorem MtR.or {id:String} {r r':V→List V→Hp→VK→Prop} (h:MtR X id r) (h':MtR X id r'):MtR X id (fun x xs H Q=>r x xs H Q∨r' x xs H Q):=by
  intro pins s σ H x xs v us Q I rx rs q
  rcases q with q | q
  · exact h pins s σ H x xs v us Q I rx rs q
  · exact h' pins s σ H x xs v us Q I rx rs q
theorem pe_ix {r:R2} (hr:IxR X r) (ha:PE X a ta) (hb:PE X b tb) (hs:Qjm b):PE X (.Subscript a b pos) (tOp r ta tb):=by
  intro pins s σ H Q I h
  exact Subscript_ (binT ha hb I h fun v u s2 x y H2 I2 rx ry q=>hr a b pins s2 σ H2 x y v u Q I2 rx ry q (hs _ _))

noncomputable def rIxL (K:PySem.W.Frag):R2:=fun x y H Q=>∃ p xs i v,x = .ref p∧y = .int i∧SqL K H p xs∧atI xs i=some v∧Q v H
noncomputable def rIxT (K:PySem.W.Frag):R2:=fun x y H Q=>∃ p xs i v,x = .ref p∧y = .int i∧SqT K H p xs∧atI xs i=some v∧Q v H
noncomputable def rIxS:R2:=fun x y H Q=>∃ z i c,x = .str z∧y = .int i∧z.length≤sizeLine∧atI z.cps.toList i=some c∧Q (.str ⟨#[c]⟩) H
theorem ix_list:IxR X (rIxL X.K):=by
  intro value slice pins s σ H x y v u Q I rx ry h hs
  obtain ⟨p,xs,i,z,rfl,rfl,hq,he,q⟩:=h
  cases rx
  obtain ⟨t,rfl⟩:=ry
  obtain ⟨its,r,pl,hz⟩:=I.list hq
  obtain ⟨j,h1,h2,h3,h4,h5⟩:=QfV he
  obtain ⟨w,ew,rw'⟩:=r.get h2
  have hl:=r.length
  have hn:=Qcq
  have fin:EP X pins σ Q w s:=⟨z,H,I,rw',q⟩
  by_cases h0:0≤i
  · have hj:i.toNat=j:=by
      rw [seqIndex_of h0 h5] at h1
      exact Option.some.inj h1
    exact item_listR pl.isList h0 (by omega) (by rw [hj];simpa using ew) fin hs
  · have hj:(i + (its.toArray.size:Int)).toNat=j:=by
      rw [seqIndex_neg (by omega) h4] at h1
      rw [List.size_toArray,← hl]
      exact Option.some.inj h1
    exact subscriptTail_builtinR (x:=w) pl.isList.typeIs slot_list_getitem.lookup
      (wpAny_getItem_list_neg (Q:=fun r s'=>r=w∧EP X pins σ Q r s') pl.isList (by omega) (by rw [List.size_toArray] <;> omega) (by omega) (by rw [hj];simpa using ew) ⟨rfl,fin⟩) hs
theorem ix_tup:IxR X (rIxT X.K):=by
  intro value slice pins s σ H x y v u Q I rx ry h hs
  obtain ⟨p,xs,i,z,rfl,rfl,hq,he,q⟩:=h
  cases rx
  obtain ⟨t,rfl⟩:=ry
  obtain ⟨its,r,pl,hz⟩:=I.tuple hq
  obtain ⟨j,h1,h2,h3,h4,h5⟩:=QfV he
  obtain ⟨w,ew,rw'⟩:=r.get h2
  have hl:=r.length
  have hn:=Qcq
  have fin:EP X pins σ Q w s:=⟨z,H,I,rw',q⟩
  exact subscriptTail_builtinR (x:=w) pl.typeIs slot_tuple_getitem.lookup
    (getItem_tuple (j:=j) (Q:=fun r s'=>r=w∧EP X pins σ Q r s') pl (by omega) (by omega) (by rw [List.size_toArray,← hl];exact h1) (by simpa using ew) ⟨rfl,fin⟩) hs
theorem ix_str:IxR X rIxS:=by
  intro value slice pins s σ H x y v u Q I rx ry h hs
  obtain ⟨z,i,c,rfl,rfl,hz,he,q⟩:=h
  obtain ⟨t,rfl⟩:=rx
  obtain ⟨t',rfl⟩:=ry
  obtain ⟨j,h1,h2,h3,h4,h5⟩:=QfV he
  have hl:z.cps.toList.length=z.length:=by simp [Str.length]
  rw [hl] at h1 h4 h5
  have hn:=Qcq
  exact tail_any (typeIs_str s z t) slot_str_getitem.lookup (getItem_str (c:=c) (by
    have e1:decide (i < -(2 ^ 63:Int))=false:=decide_eq_false (by omega)
    have e2:decide (i ≥ 2 ^ 63)=false:=decide_eq_false (by omega)
    rw [e1,e2,Bool.or_false]) (by rw [h1];simpa using h2) ⟨.str ⟨#[c]⟩,H,I.tok _,⟨_,rfl⟩,q⟩) hs
theorem QhV (its:List Value) (n j:Nat) (u:Value):Obj.mapSeq (·.setIfInBounds j u) { cls := .type "list",data := .seq its.toArray n }={ cls := .type "list",data := .seq (its.set j u).toArray n }:=by
  simp [Obj.mapSeq]
theorem Inv.lst {pins:List (Addr×Obj)} {σ:St} {H:Hp} {s:Shared} {p:Addr} {xs:List V} (I:Inv X pins σ H s) (h:H p=some (.lst xs)) :
    ∃ (its:List Value) (n:Nat),Vals xs its∧s.heap.get? p=some { cls := .type "list",data := .seq its.toArray n }∧xs.length≤sizeLine:=by
  obtain ⟨z,its,n,r,e⟩:=I.hok p _ h
  exact ⟨its,n,r,e,z⟩
theorem Inv.lstUpd {pins:List (Addr×Obj)} {σ:St} {H:Hp} {s:Shared} {p:Addr} {xs ys:List V} {its its':List Value} {n n':Nat} {f:Obj→Obj} (I:Inv X pins σ H s) (h:H p=some (.lst xs))
    (ho:s.heap.get? p=some { cls := .type "list",data := .seq its.toArray n }) (hf:f { cls := .type "list",data := .seq its.toArray n }={ cls := .type "list",data := .seq its'.toArray n' }) (r:Vals ys its') (hz:ys.length≤sizeLine) (t:Nat) :
    Inv X pins σ (upd H p (.lst ys)) { s with heap:=s.heap.update p f,toks:=t }:=by
  have e:(s.heap.update p f).get? p=some { cls := .type "list",data := .seq its'.toArray n' }:=by
    rw [Heap.get?_update_self f ho (by rw [hf] <;> rfl),hf]
  refine I.write (x:=p) (e:=p) (by rw [h];trivial) (.inl rfl) (fun b u hb q=>(Heap.get?_update_other _ _ (Ne.symm hb)).trans q) ⟨_,e⟩ ?_
  exact ⟨hz,its',n',r,e⟩
noncomputable def rSetL:V→V→V→Hp→(Hp→Prop)→Prop:=fun o i v H Q=>∃ p xs k j,o = .ref p∧i = .int k∧H p=some (.lst xs)∧ixN xs.length k=some j∧Q (upd H p (.lst (xs.set j v)))
theorem set_list:PSet X rSetL:=by
  intro pins s σ H o i v ov iv u Q I ro ri rv h
  obtain ⟨p,xs,k,j,rfl,rfl,hp,hj,q⟩:=h
  cases ro
  obtain ⟨t,rfl⟩:=ri
  obtain ⟨its,n,r,ho,hz⟩:=I.lst hp
  obtain ⟨h1,h2,h3,h4⟩:=Qjb hj
  have hl:=r.length
  have hn:=Qcq
  have I':Inv X pins σ (upd H p (.lst (xs.set j v))) { s with heap:=s.heap.update p (Obj.mapSeq (·.setIfInBounds j u)) } :=
    I.lstUpd hp ho (QhV its n j u) (r.set rv j) (by rw [List.length_set];exact hz) s.toks
  by_cases h0:0≤k
  · have hk:k.toNat=j:=by
      rw [seqIndex_of h0 h4] at h1
      exact Option.some.inj h1
    exact PySem.W.ki_setAt ho h0 (by omega) (by rw [List.size_toArray,← hl];exact h4) (by rw [hk];exact ⟨_,I',q⟩)
  · have hk:(k + (its.toArray.size:Int)).toNat=j:=by
      rw [seqIndex_neg (by omega) h3] at h1
      rw [List.size_toArray,← hl]
      exact Option.some.inj h1
    exact PySem.W.ki_setBack ho (by omega) (by rw [List.size_toArray,← hl];exact h3) (by omega) (by rw [hk];exact ⟨_,I',q⟩)

theorem Qfx (lo hi:Option Int) (n:Nat):(sliceBounds lo hi none n).1=((HT.sIx n 0 lo:Nat):Int)∧(sliceBounds lo hi none n).2.1=((HT.sIx n n hi:Nat):Int)∧(sliceBounds lo hi none n).2.2=1:=by
  refine ⟨?_,?_,rfl⟩
  · cases lo with
    | none=>simp [sliceBounds,HT.sIx]
    | some i =>
      simp only [sliceBounds,HT.sIx,Option.getD_none,show (1:Int) > 0 by decide,if_true]
      by_cases h:i < 0
      · simp only [h,if_true] <;> omega
      · simp only [h,if_false] <;> omega
  · cases hi with
    | none=>simp [sliceBounds,HT.sIx]
    | some i =>
      simp only [sliceBounds,HT.sIx,Option.getD_none,show (1:Int) > 0 by decide,if_true]
      by_cases h:i < 0
      · simp only [h,if_true] <;> omega
      · simp only [h,if_false] <;> omega
theorem Qet (its:List Value) (lo hi:Option Int):slicePick its.toArray lo hi none=((its.drop (HT.sIx its.length 0 lo)).take (HT.sIx its.length its.length hi - HT.sIx its.length 0 lo)).toArray:=by
  obtain ⟨h1,h2,h3⟩:=Qfx lo hi its.toArray.size
  unfold slicePick
  rw [h1,h2,h3]
  simp only [sliceRange_one,pick_run,List.size_toArray] <;> rfl
noncomputable def rSlL (K:PySem.W.Frag):V→Option Int→Option Int→Hp→VK→Prop:=fun x lo hi H Q=>∃ a xs,x = .ref a∧SqL K H a xs∧∀ p,H p=none→Q (.ref p) (upd H p (.lst (cutV xs lo hi)))
theorem sl_list:SlR X (rSlL X.K):=by
  intro pins s σ H x v vl vu lo hi sl Q I rx hs pl pu h
  obtain ⟨a,xs,rfl,hx,q⟩:=h
  cases rx
  obtain ⟨its,r,ht,hz⟩:=I.list hx
  have hlen:=r.length
  refine ⟨"list",_,slot_list_getitem.lookup,ht.isList.typeIs,?_⟩
  refine wpAny_getItem_list_slice ht.isList hs pl pu .none (by simp) ?_ (by rw [List.size_toArray] <;> omega)
  rw [Qet,← hlen]
  refine ⟨.ref s.heap.objs.size,_,I.laid (t':=s.toks) (o := .lst (cutV xs lo hi)) (fun b ob q=>Heap.get?_push_of_some _ q) (Nat.le_refl _) ?_,rfl,q _ (I.hok.fresh (Nat.le_refl _))⟩
  exact ⟨Nat.le_trans (QgF xs lo hi) hz,_,0,(r.drop (HT.sIx xs.length 0 lo)).take (HT.sIx xs.length xs.length hi - HT.sIx xs.length 0 lo),Heap.get?_push_size _ rfl⟩

theorem Xv.or {f:Value} {r r':List V→Hp→VK→Prop} (h:Xv X f r) (h':Xv X f r'):Xv X f (fun xs H Q=>r xs H Q∨r' xs H Q):=by
  intro pins s σ H xs us Q I rs q
  rcases q with q | q
  · exact h pins s σ H xs us Q I rs q
  · exact h' pins s σ H xs us Q I rs q
theorem QfI:Xv X (.type "list") (fun xs H Q=>∃ p ys,xs=[.ref p]∧(SqL X.K H p ys∨SqT X.K H p ys)∧∀ l,H l=none→Q (.ref l) (upd H l (.lst ys))):=by
  intro pins s σ H xs us Q I r h
  obtain ⟨p,ys,rfl,hq,q⟩:=h
  obtain ⟨u,rfl,rx⟩:=Qdl r
  cases rx
  have fin:∀ (its:List Value),Vals ys its→ys.length≤sizeLine→∀ (h':Heap) (c':Nat),(∀ b o',s.heap.get? b=some o'→h'.get? b=some o') →
      h'.get? s.heap.objs.size=some { cls := .type "list",dict:=none,data := .seq its.toArray c',slots := #[] }→EP X pins σ Q (.ref s.heap.objs.size) { s with heap:=h' }:=fun its r' hz h' c' kp e =>
    ⟨.ref s.heap.objs.size,_,I.laid (t':=s.toks) kp (Nat.le_refl _) (show YC X.prog X.w _ h' _ (.lst ys) from ⟨hz,its,c',r',e⟩),rfl,q _ (I.hok.fresh (Nat.le_refl _))⟩
  rcases hq with hq | hq
  · obtain ⟨its,r',pl,hz⟩:=I.list hq
    have hlen:=r'.length
    obtain ⟨o,ho,hc,n,hd⟩:=pl.isList
    exact call_list_seq p (.inl rfl) ho hc hd (fun h' c' kp e=>fin its r' hz h' c' kp e) (by simp only [List.size_toArray] <;> omega)
  · obtain ⟨its,r',pl,hz⟩:=I.tuple hq
    have hlen:=r'.length
    obtain ⟨o,ho,hc,n,hd⟩:=pl
    exact call_list_seq p (.inr rfl) ho hc hd (fun h' c' kp e=>fin its r' hz h' c' kp e) (by simp only [List.size_toArray] <;> omega)
theorem QeB:Xv X (.type "tuple") (fun xs H Q=>∃ p ys,xs=[.ref p]∧((SqL X.K H p ys∧∀ l,H l=none→Q (.ref l) (upd H l (.tup ys)))∨(SqT X.K H p ys∧Q (.ref p) H))):=by
  intro pins s σ H xs us Q I r h
  obtain ⟨p,ys,rfl,h⟩:=h
  obtain ⟨u,rfl,rx⟩:=Qdl r
  cases rx
  rcases h with ⟨hq,q⟩ | ⟨hq,q⟩
  · obtain ⟨its,r',pl,hz⟩:=I.list hq
    have hlen:=r'.length
    refine call_tuple_list pl.isList (fun h' kp => ?_) (by simp only [List.size_toArray] <;> omega)
    have I1:Inv X pins σ H { s with heap:=h' }:=I.kept (t':=s.toks) kp
    have I2:Inv X pins σ (upd H h'.objs.size (.tup ys)) { s with heap:=h'.push { cls := .type "tuple",data := .seq its.toArray } } :=
      I1.laid (t':=s.toks) (fun b o e=>Heap.get?_push_of_some _ e) (Nat.le_refl _) (show YC X.prog X.w _ _ _ (.tup ys) from ⟨hz,its,r',IsTup.new _ _⟩)
    exact ⟨.ref h'.objs.size,_,I2,rfl,q _ (I1.hok.fresh (Nat.le_refl _))⟩
  · obtain ⟨its,r',pl,hz⟩:=I.tuple hq
    exact call_tuple_same pl ⟨.ref p,H,I,rfl,q⟩

noncomputable def tyV (K:PySem.W.Frag) (T:String) (x:V) (H:Hp):Prop:=match x with
  | .str _=>T = "str"
  | .int _=>T = "int"
  | .ref p=>(T = "list"∧∃ xs,SqL K H p xs)∨(T = "tuple"∧∃ o,K.lookup p=some o∧o.cls = .type "tuple"∧o.dict=none) ∨
      (T = "dict"∧((∃ kvs,H p=some (.dK kvs))∨∃ kvs,H p=some (.dT kvs)))∨(T = "set"∧∃ S n,H p=some (.set S n))
  | _=>False
theorem tyV_is {pins:List (Addr×Obj)} {σ:St} {H:Hp} {s:Shared} {T:String} {x:V} {v:Value} (I:Inv X pins σ H s) (r:RelV x v) (ty:tyV X.K T x H) :
    s.TypeIs v T∧∀ a,v = .ref a→∃ ob,s.heap.get? a=some ob∧ob.dict=none:=by
  cases x with
  | str z =>
    obtain ⟨t,rfl⟩:=r
    cases (show T = "str" from ty)
    exact ⟨typeIs_str s z t,fun _ e=>nomatch e⟩
  | int i =>
    obtain ⟨t,rfl⟩:=r
    cases (show T = "int" from ty)
    exact ⟨typeIs_int s i t,fun _ e=>nomatch e⟩
  | ref p =>
    cases r
    rcases ty with ⟨rfl,xs,hq⟩ | ⟨rfl,o,hk,hc,hd⟩ | ⟨rfl,hk⟩ | ⟨rfl,S,n,hk⟩
    · obtain ⟨its,_,pl,_⟩:=I.list hq
      refine ⟨pl.isList.typeIs,fun a e => ?_⟩
      cases e
      obtain ⟨o,n,e,c,hd,_⟩:=pl
      exact ⟨o,e,hd⟩
    · refine ⟨⟨o,I.kIn p o hk,hc⟩,fun a e => ?_⟩
      cases e
      exact ⟨o,I.kIn _ o hk,hd⟩
    · have z:∃ o,s.heap.get? p=some o∧o.ExactDict:=by
        rcases hk with ⟨kvs,hk⟩ | ⟨kvs,hk⟩
        · obtain ⟨_,_,_,_,o,_,_,e,ex,_⟩:=I.hok p _ hk
          exact ⟨o,e,ex⟩
        · obtain ⟨_,_,_,_,o,_,_,e,ex,_⟩:=I.hok p _ hk
          exact ⟨o,e,ex⟩
      obtain ⟨o,e,ex⟩:=z
      refine ⟨⟨o,e,ex.1⟩,fun a e2 => ?_⟩
      cases e2
      exact ⟨o,e,ex.2.1⟩
    · obtain ⟨o,_,_,_,e,ex,_⟩:=I.hok p _ hk
      refine ⟨⟨o,e,ex.1⟩,fun a e2 => ?_⟩
      cases e2
      exact ⟨o,e,ex.2.1⟩
  | _=>exact False.elim ty
noncomputable def tBM0 (K:PySem.W.Frag) (T:String) (r:V→List V→Hp→VK→Prop) (to:TE):TE:=fun σ H Q=>to σ H fun x H1=>tyV K T x H1∧r x [] H1 Q
noncomputable def tBM (K:PySem.W.Frag) (T:String) (r:V→List V→Hp→VK→Prop) (to:TE) (t:TA):TE:=fun σ H Q=>to σ H fun x H1=>tyV K T x H1∧t σ H1 fun xs H2=>r x xs H2 Q
variable {o e:Expr} {es:List Expr} {to:TE} {t:TA} {name:Str} {apos cpos:Pos} {T id:String} {r:V→List V→Hp→VK→Prop}
theorem pe_bm0 (pa:PlainAttrs T) (slot:Slot T name id) (hty:typeOf (.builtin id)=pure (.type "method_descriptor")) (hm:MtR X id r) (ho:PE X o to)
    (hbase:attributeBase o name X.env (eval o X.env)=eval o X.env:=by rfl) (hline:(apos.endLine==cpos.line)=true:=by rfl):PE X (.Call (.Attribute o name apos) [] [] cpos) (tBM0 X.K T r to):=by
  intro pins s σ H Q I h
  refine wpAny_Call_method0_late hbase hline (thn (ho pins s σ H _ I h) fun v s1 ⟨x,H1,I1,r1,ty,q1⟩ => ?_)
  obtain ⟨h1,h2⟩:=tyV_is I1 r1 ty
  exact ⟨T,id,pa,slot,hty,h1,h2,Calls.callWith_builtin rfl (PySem.evalArgs_none (hm pins s1 σ H1 x [] v [] Q I1 r1 .nil q1))⟩
theorem Qfs (pa:PlainAttrs T) (slot:Slot T name id) (hty:typeOf (.builtin id)=pure (.type "method_descriptor")) (hm:MtR X id r) (ho:PE X o to) (ha:PA X (e :: es) t)
    (hbase:attributeBase o name X.env (eval o X.env)=eval o X.env:=by rfl)
    (hfew:((backTo cpos (starEach (e :: es) X.env)).all (fun x => !x.1)&&(backToKw cpos (keywordEach [] X.env)).all (fun x=>x.1.isSome)
      && decide ((e :: es).length + ([]:List Keyword).length + (if ([]:List Keyword).isEmpty then 0 else 1) < 30))=true:=by rfl)
    (hline:(apos.endLine==cpos.line)=true:=by rfl) (hs:starEach (e :: es) X.env=(false,eval e X.env) :: starEach es X.env:=by rfl) (hplain:(backTo cpos (starEach es X.env)).any (·.1)=false:=by rfl) :
    PE X (.Call (.Attribute o name apos) (e :: es) [] cpos) (tBM X.K T r to t):=by
  intro pins s σ H Q I h
  refine wpAny_Call_method_late hbase hfew hline rfl (thn (ho pins s σ H _ I h) fun v s1 ⟨x,H1,I1,r1,ty,q1⟩ => ?_)
  obtain ⟨h1,h2⟩:=tyV_is I1 r1 ty
  refine ⟨T,id,pa,slot,hty,h1,h2,?_⟩
  have hA:=ha cpos pins s1 σ H1 _ I1 q1
  rw [hs] at hA ⊢
  refine Calls.callWith_builtin (by show (false||(backTo cpos (starEach es X.env)).any (·.1))=false;rw [hplain] <;> rfl) (Calls.evalArgs_plain ?_)
  exact thn hA fun us s2 ⟨vs,H2,I2,r2,q2⟩=>hm pins s2 σ H2 x vs v us Q I2 r1 r2 q2
/- xs.append(e),list.index on a module's tuple .. are MtR facts of 06m -/
end
end L2

namespace L2
open PySem PySem.Spec PyProof.Rows

noncomputable def MtM (X:Cx) (id:String) (r:V→List V→Hp→VK→Prop):Prop :=
  ∀ (pins:List (Addr×Obj)) (s:Shared) (σ:St) (H:Hp) (x:V) (xs:List V) (v:Value) (us:List Value) (Q:VK),Inv X pins σ H s→RelV x v→Vals xs us→r x xs H Q →
    wpAny (model X.prog X.w) X.A (call (.builtin id) (v :: us)) (EP X pins σ Q) X.xe s

theorem Vals.one:∀ {x:V} {us:List Value},Vals [x] us→∃ u,us=[u]∧RelV x u
  | _,_,.cons r .nil=>⟨_,rfl,r⟩
theorem Vals.zero:∀ {us:List Value},Vals [] us→us=[]
  | _,.nil=>rfl
theorem Vals.eraseIdx:∀ {xs:List V} {us:List Value} (i:Nat),Vals xs us→Vals (xs.eraseIdx i) (us.eraseIdx i)
  | _,_,_,.nil => .nil
  | _,_,0,.cons _ t=>t
  | _,_,i + 1,.cons r t => .cons r (Vals.eraseIdx i t)
theorem Vals.reverse {xs:List V} {us:List Value} (h:Vals xs us):Vals xs.reverse us.reverse:=by
  induction h with
  | nil=>exact .nil
  | cons r t ih=>rw [List.reverse_cons,List.reverse_cons];exact Vals.append ih (.cons r .nil)
section
variable {X:Cx} {pins:List (Addr×Obj)} {σ:St} {H:Hp} {s:Shared} {l b:Addr} {xs ys zs:List V}

theorem Inv.lset {its its':List Value} {n:Nat} {f:Array Value→Array Value} {t':Nat} (I:Inv X pins σ H s) (hH:H l=some (.lst xs))
    (e:s.heap.get? l=some { cls := .type "list",data := .seq its.toArray n }) (hf:f its.toArray=its'.toArray) (hv:Vals ys its') (hz:ys.length≤sizeLine) :
    Inv X pins σ (upd H l (.lst ys)) { s with heap:=s.heap.update l (Obj.mapSeq f),toks:=t' }:=by
  have q:=PySem.IsL.update e f
  rw [hf] at q
  refine I.write (x:=l) (e:=l) (by rw [hH];exact trivial) (.inl rfl) (fun b' u hb hu=>(Heap.get?_update_other s.heap (Obj.mapSeq f) (Ne.symm hb)).trans hu) ⟨_,q⟩ ?_
  exact ⟨hz,its',_,hv,q⟩
theorem Inv.lnew {its:List Value} {t':Nat} (I:Inv X pins σ H s) (hv:Vals ys its) (hz:ys.length≤sizeLine) :
    Inv X pins σ (upd H s.heap.objs.size (.lst ys)) { s with heap:=s.heap.push { cls := .type "list",data := .seq its.toArray },toks:=t' } :=
  I.laid (fun _ _ q=>Heap.get?_push_of_some _ q) (Nat.le_refl _) ⟨hz,its,0,hv,Heap.get?_push_size _ rfl⟩
theorem Inv.fresh (I:Inv X pins σ H s):H s.heap.objs.size=none:=I.hok.fresh (Nat.le_refl _)
theorem Inv.lstM (I:Inv X pins σ H s) (hH:H l=some (.lst xs)):xs.length≤sizeLine∧∃ (its:List Value) (n:Nat),Vals xs its∧xs.length=its.length∧s.heap.get? l=some { cls := .type "list",data := .seq its.toArray n }:=by
  obtain ⟨z,its,n,r,e⟩:=I.hok l _ hH
  exact ⟨z,its,n,r,r.length,e⟩

end

section
variable {X:Cx}

noncomputable def QiT:V→List V→Hp→VK→Prop:=fun x vs H Q=>∃ l xs y,x = .ref l∧vs=[y]∧H l=some (.lst xs)∧xs.length < sizeLine∧Q .non (upd H l (.lst (xs++[y])))
theorem Yr:MtM X "list.append" QiT:=by
  intro pins s σ H x vs v us Q I rx rv h
  obtain ⟨l,xs,y,rfl,rfl,hH,hz,q⟩:=h
  cases rx
  obtain ⟨u,rfl,ru⟩:=rv.one
  obtain ⟨z,its,n,r,hl,e⟩:=I.lstM hH
  refine call_meets F.slot_list_append ⟨_,e,rfl⟩ F.entry_list_append (F.args_list_append_2 _ _) (PySem.list_append l its.toArray n u (by rw [List.size_toArray];omega)) ⟨e,?_⟩
  refine ⟨.non,_,I.lset (its':=its++[u]) hH e (by simp) (r.append (.cons ru .nil)) ?_,rfl,q⟩
  rw [List.length_append,List.length_singleton]
  omega

end

section
variable {prog:Program} {w:World} {A:Around} {E:Value→Shared→Prop} {s:Shared}
end

section
variable {X:Cx}
end
end L2

namespace Att
open PySem PySem.W PySem.Calls PyProof.Rows

theorem Qdi {P:Params} {h:Heap}:∀ (ns:List Int) (vs:List Value),WellAll P h vs (ns.map WData.int)→IntsAre vs ns:=by
  intro ns
  induction ns with
  | nil =>
    intro vs w
    rw [List.map_nil] at w
    cases w
    exact .nil
  | cons n ns ih =>
    intro vs w
    rw [List.map_cons] at w
    cases w with
    | cons a b =>
      cases a
      exact .cons _ _ (ih _ b)

theorem Qjv {l:OpenLaw} {n:Nat} (hn:l.most=some n) {P:Params} {h:Heap} {args:List WData} {vals:List Value}
    (hpre:l.row.toRowW.claim.pre args=true) (hwl:WellAll P h vals args) :
    ∃ a vs ns,vals=[Value.ref a]∧args=[WData.list (ns.map WData.int)]∧h.get? a=some { cls := .type "list",data := .seq vs.toArray }∧IntsAre vs ns∧ns.length≤n:=by
  have hsh:WShape.hasAll [] args [.list .int]=true:=(pre_splitW hpre).1
  have hc:l.pre.holds [] { args:=args }=true:=(pre_splitW hpre).2
  obtain ⟨d,r,rfl,h1,h2⟩:=hasAllW_cons hsh
  obtain rfl:=hasAllW_nil h2
  obtain ⟨xs,rfl,h3⟩:=hasW_list h1
  obtain ⟨ns,rfl⟩:=items_int h3
  have hlen:ns.length≤n:=by
    unfold OpenLaw.pre at hc
    have h4:(WTm.not (.lt (.lit (.int (n:Int))) (.len (.arg 0)))).holds [] { args:=[.list (ns.map .int)] }=true:=by
      have h4:=(holds_andW hc).1
      rw [hn] at h4
      exact h4
    have h5:=condW_of h4 (w_not (w_lt w_lit (w_len_list (w_arg rfl))))
    rw [List.length_map] at h5
    refine Nat.le_of_not_lt fun q => ?_
    have q':(n:Int) < ((ns.length:Nat):Int):=by omega
    first
      | (rw [decide_eq_true q'] at h5;exact absurd h5 (by decide))
      | (simp at h5;omega)
  cases hwl with
  | cons w1 w2 =>
    cases w2
    cases w1 with
    | list ho hall=>exact ⟨_,_,ns,rfl,rfl,ho,Qdi ns _ hall,hlen⟩

theorem Qjy (l:OpenLaw) (args:List WData):l.row.toRowW.claim.post args (.bool true) args=true :=
  postW_of (r:=l.row.toRowW) (X:=(true==true))
    (show WShape.has [] (.bool true) .bool=true by first | rfl | decide | simp [WShape.has,WShape.arms,WShape.armsAll])
    (show (WTm.eq .res (.lit (.bool true))).value [] { args:=args,res:=some (.bool true),after:=args }=some (.bool (true==true)) from w_eq_bool (w_res rfl) w_lit) rfl

theorem attach_call {l:OpenLaw} {n:Nat} {q:Program} {loose:List Str} {XP:(Str→Option Value)→Heap→Prop} {YP:World→Heap→Prop} {d:DefRec}
    (hn:l.most=some n) (hdf:d.params.defaults=[])
    (call:∀ (w:World) (s₀ s₁:Shared) (mg mb:Str→Option Value) (fa:Addr) (o:Obj) (pm cd doc:Value) (a:Addr) (vs:List Value) (ns:List Int),
      Ground q loose [] XP w s₀ mg mb s₁.heap→YP w s₁.heap →
      s₁.heap.get? fa=some o→o.data = .func (docDef d.name d.params d.body d.scope pm cd doc)→s₁.heap.CodeRec cd d.name→mg d.name=some (.ref fa) →
      s₁.heap.get? a=some { cls := .type "list",data := .seq vs.toArray }→IntsAre vs ns→ns.length≤n→s₁.gens = #[] →
      codeAny (model l.prog w) callerA (.call (.ref fa) ⟨[.ref a],[]⟩) (fun r s'=>r = .ok (.ret (.bool true))∧OldK s₁.heap s'.heap∧s'.os=s₁.os∧AllBare s'.gens) s₁) :
    WalkO q loose XP YP l.row.toRowW d [] (fun f vs=>PySem.call f vs):=by
  intro w s₀ s₁ mg mb G Y fa o pm cd doc dV kV ho hd hcd hD hmg hg args vals as hpre hlay hrd hwl hlo
  obtain rfl:dV = .none:=Dflts.none hD hdf
  obtain rfl:kV = .none:=Dflts.noKw hD
  obtain ⟨a,vs,ns,rfl,rfl,hobj,hints,hlen⟩:=Qjv hn hpre hwl
  refine enter_call (codeAny_mono (call w s₀ s₁ mg mb fa o pm cd doc a vs ns G Y ho (fd_plain hd) hcd hmg hobj hints hlen hg) fun r s' hq => ?_)
  obtain ⟨rfl,h2,h3,h4⟩:=hq
  exact ⟨.inl ⟨.bool true,.bool true,[],rfl,fun _=>rfl,.bool true,Qjy l _,fun _=>⟨List.Pairwise.nil,fun _ hm=>(nomatch hm)⟩⟩,h2,h3,h4⟩

section
variable {prog:Program} {w:World} {A:Around} {E:Value→Shared→Prop} {s:Shared} {K:Frag}

end
end Att

namespace L2
open PySem PySem.Spec PyProof.Rows

theorem QcJ:∀ {vs:List Value} {ns:List Int},IntsAre vs ns→Vals (ns.map V.int) vs
  | _,_,.nil => .nil
  | _,_,.cons n t h => .cons ⟨t,rfl⟩ (QcJ h)

noncomputable def Only (H:Hp):Prop:=∀ b,H b=none∨∃ o xs,H b=some (.frz o (.lst xs))

theorem law_call {P:Program} {w:World} {K:PySem.W.Frag} {mg mb:Str→Option Value} {CX:CXT} {k:Nat} {fa a:Addr} {fd:FuncData} {x:Str} {sp:Sp} {s₁:Shared} {vs:List Value} {ns:List Int}
    (KX:K.In s₁.heap) (hns:s₁.heap.Ns mainGlobals mg) (hb:s₁.heap.Ns builtinsNs mb) (hbb:∀ x:Str,x ≠ "__name__"→mb x=bootBuiltins x) (hlim:s₁.heap.NoLimit) (hg:s₁.gens = #[])
    (ha:s₁.heap.get? a=some { cls := .type "list",data := .seq vs.toArray }) (hi:IntsAre vs ns) (hl:ns.length≤sizeLine) (hr:Room k callerA)
    (F:∀ base:Heap,K.In base→base.Ns mainGlobals mg→FnOk P w K mg base CX k fa fd [x] sp) (hbind:∀ (s:Shared) (u:Value),BindsTo s fd ⟨[u],[]⟩ [(x,u)])
    (hsp:∀ H:Hp,Only H→SqL K H a (ns.map V.int)→sp [.ref a] H (fun v _=>v = .bl true) fun _ _ _=>False)
    (hCX:∀ H e s',CX [] H s₁ (fun _ _ _=>False) e s'→False) :
    codeAny (model P w) callerA (.call (.ref fa) ⟨[.ref a],[]⟩) (fun r s'=>r = .ok (.ret (.bool true))∧OldK s₁.heap s'.heap∧s'.os=s₁.os∧AllBare s'.gens) s₁:=by
  have rv:=QcJ hi
  have lenV:=hi.length
  -- from an abstract heap in which nothing but the script may be tracked
  have core:∀ H:Hp,Only H→SqL K H a (ns.map V.int)→HOk P w H s₁.heap→(∀ b,H b≠none→b=a)→(H a≠none→K.lookup a=none) →
      codeAny (model P w) callerA (.call (.ref fa) ⟨[.ref a],[]⟩) (fun r s'=>r = .ok (.ret (.bool true))∧OldK s₁.heap s'.heap∧s'.os=s₁.os∧AllBare s'.gens) s₁:=by
    intro H hO hS hok hA hK
    have base_of:∀ {b:Addr} {o:Obj},s₁.heap.get? b=some o→H b=none→(hidT s₁.heap H).get? b=some o:=fun e n=>hidT_get e n
    have noA:∀ {b:Addr} {o:Obj} {es:Array DictEntry} {ep:Nat},s₁.heap.get? b=some o→o.data = .dict es ep→H b=none:=fun {b o es ep} e d=>by
      cases q:H b with
      | none=>rfl
      | some u =>
        have e':b=a:=hA b (by rw [q];simp)
        subst e'
        rw [ha] at e;cases e
        have d':Data.seq vs.toArray _=Data.dict es ep:=d
        cases d'
    have nsK:∀ {b:Addr} {m:Str→Option Value},s₁.heap.Ns b m→(hidT s₁.heap H).Ns b m:=fun {b m} ⟨o,es,ep,e,d,r⟩=>⟨o,es,ep,base_of e (noA e d),d,r⟩
    have hKb:K.In (hidT s₁.heap H):=fun b o e=>base_of (KX b o e) (by
      cases q:H b with
      | none=>rfl
      | some u =>
        have e':b=a:=hA b (by rw [q];simp)
        subst e'
        rw [hK (by rw [q];simp)] at e;cases e)
    have hM:Mod K mg (hidT s₁.heap H):=⟨hKb,nsK hns,⟨mb,nsK hb,hbb⟩,let ⟨mc,h1,h2⟩:=hlim;⟨mc,nsK h1,h2⟩⟩
    have e0:Env0 P w K mg (hidT s₁.heap H) callerA [] s₁ H:=⟨rfl,hM,fun b o e=>of_hidT e,Nat.le_of_eq (QjQ _ _),trivial,fun b hb=>absurd (show b∈([]:List Addr) from hb) (by simp),hok,.of_eq hg⟩
    refine codeAny_mono ((F _ hKb (nsK hns)).run callerA [] s₁ H ⟨[.ref a],[]⟩ [.ref a] [.ref a] _ _ hr e0 (hbind s₁ (.ref a)) (.cons rfl .nil) (hsp H hO hS)) fun r s' h => ?_
    cases r with
    | error e=>exact (hCX H e s' h).elim
    | ok fl =>
      cases fl with
      | next=>exact False.elim h
      | brk=>exact False.elim h
      | cont=>exact False.elim h
      | ret u =>
        obtain ⟨v,H',os,bare,un,hok',r',q⟩:=h
        have q':v = .bl true:=q
        subst q'
        obtain rfl:u=Value.bool true:=r'
        refine ⟨rfl,OldK.of_keep fun b o e => ?_,os,bare⟩
        cases q:H b with
        | none=>exact un.keep b o e q (by intro z;exact absurd (show b∈([]:List Addr) from z) (by simp)) (by simp)
        | some u =>
          rcases hO b with z | ⟨ob,xs,z⟩
          · rw [q] at z;cases z
          · have z2:=un.frzs b ob _ z
            obtain ⟨e1,_⟩:=hok b _ z
            obtain ⟨e2,_⟩:=hok' b _ z2
            rw [e] at e1;cases e1
            exact e2
  cases hk:K.lookup a with
  | some o =>
    -- the script is one of the module's own objects
    have e:=KX a o hk
    rw [ha] at e
    cases e
    refine core (fun _=>none) (fun _ => .inl rfl) (.inr ⟨_,vs.toArray,_,hk,rfl,rfl,rfl,by rw [List.size_toArray,lenV];exact hl,by simpa using rv⟩) (fun b u z=>by have z':(none:Option HO)=some u:=z;cases z') (fun b z=>absurd rfl z) fun z=>absurd rfl z
  | none =>
    refine core (fun b=>if b=a then some (.frz { cls := .type "list",data := .seq vs.toArray } (.lst (ns.map V.int))) else none) (fun b => ?_) (.inl (.inr ⟨{ cls := .type "list",data := .seq vs.toArray },if_pos rfl⟩)) (fun b u z => ?_) (fun b z => ?_) fun _=>hk
    · by_cases hb:b=a
      · exact .inr ⟨_,_,if_pos hb⟩
      · exact .inl (if_neg hb)
    · by_cases hb:b=a
      · have z':=(if_pos hb).symm.trans z
        cases z'
        subst hb
        exact ⟨ha,by rw [List.length_map];exact hl,vs,_,rv,ha⟩
      · have z':=(if_neg hb).symm.trans z
        cases z'
    · by_cases hb:b=a
      · exact hb
      · exact absurd (if_neg hb) z
end L2

namespace L2
open PySem PySem.Spec PyProof.Rows

noncomputable abbrev KOf {K:PySem.W.Frag} {h:Heap} (_:K.In h):PySem.W.Frag:=K

theorem walk_of {l:PySem.W.OpenLaw} {n k:Nat} {q:Program} {loose:List Str} {XP:(Str→Option Value)→Heap→Prop} {YP:World→Heap→Prop} {d:DefRec} {K:Params→PySem.W.Frag} {CX:World→CXT} {sp:World→Sp} {x:Str}
    (hn:l.most=some n) (hn2:n≤sizeLine) (hdf:d.params.defaults=[]) (hr:Room k callerA)
    (hY:∀ (w:World) (h:Heap),YP w h→(K w.params).In h)
    (F:∀ (w:World) (mg:Str→Option Value) (fa:Addr) (h:Heap),(K w.params).In h→h.Ns mainGlobals mg→mg d.name=some (.ref fa) →
      ∃ fd:FuncData,(∀ (s:Shared) (u:Value),BindsTo s fd ⟨[u],[]⟩ [(x,u)]) ∧
        ∀ base:Heap,(K w.params).In base→base.Ns mainGlobals mg→FnOk l.prog w (K w.params) mg base (CX w) k fa fd [x] (sp w))
    (hsp:∀ (w:World) (H:Hp) (a:Addr) (ns:List Int),ns.length≤n→Only H→SqL (K w.params) H a (ns.map V.int)→sp w [.ref a] H (fun v _=>v = .bl true) fun _ _ _=>False)
    (hCX:∀ (w:World) (H:Hp) (s:Shared) (e:Value) (s':Shared),CX w [] H s (fun _ _ _=>False) e s'→False) :
    PySem.W.WalkO q loose XP YP l.row.toRowW d [] (fun f vs=>PySem.call f vs):=by
  refine Att.attach_call hn hdf fun w s₀ s₁ mg mb fa o pm cd doc a vs ns G Y ho hd hcd hmg hobj hints hlen hg => ?_
  have KX:=hY w _ Y
  obtain ⟨fd,hb,hF⟩:=F w mg fa _ KX G.T.g hmg
  exact law_call KX G.T.g G.T.b G.T.builtins G.T.nolimit hg hobj hints (Nat.le_trans hlen hn2) hr hF hb (fun H hO hS=>hsp w H a ns hlen hO hS) fun H e s'=>hCX w H s₁ e s'
end L2

/- THE LAST THEOREM (shape;LID,My.* are yours):
   My.Adr: a structure of the addresses that your layer names (classes,functions);My.Txt K t: a structure (Prop) of the equations over K;
   My.txt_mk:{K} {implicit addresses ..} (e1:nsIn K mainGlobals "law"=some (some (.ref f))) (e2:K.lookup f=some ⟨oc,od,.func (fnOf "law" "law" params body scope dV kV doc pm an cdv ct),sl⟩) (e3:codeIn K cdv "law"=true) ..:∃ t,My.Txt K t

set_option maxRecDepth 100000 in
set_option maxHeartbeats 0 in
theorem PySem.Challenge.cw_LID_holds : PySem.Challenge.rw_LID.Holds := by
  w_on;o_law;k_head;(case hw=>w_witness2)
  k_fill
  refine L2.walk_of (l:=PySem.Challenge.rw_LID) (n:=63) (k:=40) (x := "script") (CX:=fun w => ..) (sp:=fun _=>My.sp_law) rfl (by decide) rfl ⟨rfl,by decide,by decide⟩ (fun w h Y=>PySem.W.kIn_of Y) ?F ?S ?C
  case F =>
    intro w mg fa h KX G hmg
    have T:∃ t,My.Txt (L2.KOf KX) t:=by
      dsimp only [L2.KOf]                          -- K must stand as «<heap const> w.params» for k_is
      refine' My.txt_mk ?e1 ?e2 ?e3 ..
      (case e1=>PySem.W.k_is)                    -- in the order: a name -> its address -> its object -> its parts
      (case e2=>PySem.W.k_is)
      ..
    obtain ⟨t,T⟩:=T
    have e0:=hmg.symm.trans (PySem.W.mg_of KX G T.law)
    cases e0                                       -- fa is the law's own address
    exact ⟨_,fun s u => .of_eq rfl,fun base kb nb=>My.law_fn T kb nb⟩     -- if «.of_eq rfl» comes too early: refine' ⟨_,?b,fun base kb nb=>My.law_fn T kb nb⟩;exact fun s u => .of_eq rfl
  case S=>exact fun w H a ns hl hO hS => ..
  case C=>exact ..
(the tactic k_is has no namespace: write k_is) -/

namespace L2
open PySem PySem.Spec PyProof.Rows

noncomputable def ZG (s:Stmt) (j:Nat):Stmt:=match s with
  | .ClassDef _ _ _ body _ _ _ _ _ _ _=>body.getD j (.Pass ⟨0,0,0,0⟩)
  | _ => .Pass ⟨0,0,0,0⟩
noncomputable def Qo (s:Stmt):Arguments:=match s with
  | .FunctionDef _ a _ _ _ _ _ _ _ _=>a
  | _=>{ posonlyargs:=[],args:=[],vararg:=none,kwonlyargs:=[],kw_defaults:=[],kwarg:=none,defaults:=[] }
noncomputable def Qn (s:Stmt):List Stmt:=match s with
  | .FunctionDef _ _ b _ _ _ _ _ _ _=>b
  | _=>[]
noncomputable def Qc (s:Stmt):Scope:=match s with
  | .FunctionDef _ _ _ _ _ _ sc _ _ _=>sc
  | _=>{ kind := .function,names:=[],isGenerator:=false,isCoroutine:=false }

noncomputable abbrev CX0:CXT:=fun _ _ _ _ _ _=>False
noncomputable abbrev E0:XK:=fun _ _ _=>False
theorem Qgt {X:Cx}:QeL CX0 X E0:=fun _ _ _ _ _ _ _ h=>h.elim

structure Fun (K:PySem.W.Frag) (x qual:Str) (st:Stmt) (f:Addr) (fd:FuncData):Prop where
  ex:∃ (oc:Value) (od:Option Addr) (kV doc pm:Value) (an:Option Addr) (cdv ct:Value) (osl:Array (Option Value)),
    fd=PySem.W.fnOf x qual (Qo st) (Qn st) (Qc st) .none kV doc pm an cdv ct∧K.lookup f=some ⟨oc,od,.func fd,osl⟩∧PySem.W.codeIn K cdv qual=true
  kp:PySem.W.keepIn K (.ref f)=true
section
variable {P:Program} {w:World} {K:PySem.W.Frag} {mg:Str→Option Value} {base:Heap}
theorem Fun.ok {x qual:Str} {st:Stmt} {f:Addr} {fd:FuncData} {N ps:List Str} {k:Nat} {sp:Sp} (F:Fun K x qual st f fd) (S:FnScope N ps (Qc st)) (len:∀ vs H Q E,sp vs H Q E→vs.length=ps.length)
    (hbody:∀ (cdv:Value) (A:Around) (outer:List Env) (s:Shared) (H:Hp) (vs:List V) (Q:VK) (E:XK),Room k (A.deeper (envOfC qual (Qc st) s.heap.objs.size f cdv))→sp vs H Q E →
      ∃ t,PSs (cxOf CX0 P w K mg base N qual (Qc st) f cdv A outer s H E).nox (Qn st) t∧t { nx:=fun _ H'=>Q .non H',rt:=Q } (XV N vs) H):FnOk P w K mg base CX0 (k + 1) f fd ps sp:=by
  obtain ⟨oc,od,kV,doc,pm,an,cdv,ct,osl,rfl,lk,hcd⟩:=F.ex
  refine fn_of lk hcd S len fun A outer s H vs Q E hr hsp => ?_
  obtain ⟨t,h,q⟩:=hbody cdv A outer s H vs Q E hr hsp
  exact ⟨t,h.nox,q⟩
theorem Fun.binds {x qual:Str} {st:Stmt} {f:Addr} {fd:FuncData} {ps:List Str} (F:Fun K x qual st f fd)
    (h:∀ (kV doc pm:Value) (an:Option Addr) (cdv ct:Value) (us:List Value),us.length=ps.length→bindArgs (PySem.W.fnOf x qual (Qo st) (Qn st) (Qc st) .none kV doc pm an cdv ct) ⟨us,[]⟩=pure (ps.zip us)):YR K fd ps []:=by
  obtain ⟨oc,od,kV,doc,pm,an,cdv,ct,osl,rfl,lk,hcd⟩:=F.ex
  exact .all (h kV doc pm an cdv ct)
theorem QI {x qual:Str} {st:Stmt} {f:Addr} {oc:Value} {od an:Option Addr} {osl:Array (Option Value)} {kV doc pm cdv ct:Value} (l:K.lookup f=some ⟨oc,od,.func (PySem.W.fnOf x qual (Qo st) (Qn st) (Qc st) .none kV doc pm an cdv ct),osl⟩)
    (c:PySem.W.codeIn K cdv qual=true) (k:PySem.W.keepIn K (.ref f)=true):Fun K x qual st f (PySem.W.fnOf x qual (Qo st) (Qn st) (Qc st) .none kV doc pm an cdv ct):=⟨⟨oc,od,kV,doc,pm,an,cdv,ct,osl,rfl,l,c⟩,k⟩
end
section
variable {X:Cx}
theorem pv (i:Nat) {x:Str} {pos:Pos} (hN:X.N[i]?=some x:=by rfl) (hv:Vis X.env.scope x:=by first | exact Or.inl rfl | exact Or.inr (Or.inl rfl) | exact Or.inr (Or.inr rfl)) (hd:(x==("__debug__":Str))=false:=by decide)
    (hcd:(x==("__classdict__":Str))=false:=by decide):PE X (.Name x pos) (tVar i):=pe_var hN hv hd hcd
end

noncomputable def Same (H H':Hp):Prop:=∀ b o,H b=some o→H' b=some o
theorem Same.refl (H:Hp):Same H H:=fun _ _ h=>h
theorem Same.trans {H H1 H2:Hp} (a:Same H H1) (b:Same H1 H2):Same H H2:=fun c o h=>b c o (a c o h)
theorem Same.free {H H':Hp} (e:Same H H') {l:Addr} (h:H' l=Option.none):H l=Option.none:=by
  cases q:H l with
  | none=>rfl
  | some o =>
    rw [e l o q] at h
    cases h
theorem Same.seq {K:PySem.W.Frag} {H H':Hp} {a:Addr} {xs:List V} (e:Same H H') (h:SqL K H a xs):SqL K H' a xs:=by
  rcases h with (h | ⟨o,h⟩) | h
  · exact .inl (.inl (e _ _ h))
  · exact .inl (.inr ⟨o,e _ _ h⟩)
  · exact .inr h

end L2

noncomputable section
namespace L2.PM
open PySem PySem.Spec PyProof.Rows

noncomputable def clos (env:Env):List (Str×NameKind)→List (Str×Addr)→List (Str×Addr)
  | [],acc=>acc
  | (n,k) :: r,acc=>if k==NameKind.free then clos env r ((n,(env.cells.lookup n).getD 0) :: acc) else clos env r acc

theorem Qem {env:Env}:∀ (l:List (Str×NameKind)) (acc:List (Str×Addr)),(∀ x∈l,x.2=NameKind.free→∃ c,env.cells.lookup x.1=some c) →
    (forIn l acc fun (x:Str×NameKind) (cs:List (Str×Addr))=>if (x.2==NameKind.free)=true then (do let a ← cellOf env x.1;pure (ForInStep.yield ((x.1,a) :: cs)):Sem _) else pure (ForInStep.yield cs))=(pure (clos env l acc):Sem _)
  | [],acc,_=>rfl
  | (n,k) :: r,acc,h=>by
    have hr:∀ x∈r,x.2=NameKind.free→∃ c,env.cells.lookup x.1=some c:=fun x hx=>h x (List.mem_cons_of_mem _ hx)
    by_cases hk:k=NameKind.free
    · subst hk
      obtain ⟨c,hc⟩:=h (n,NameKind.free) List.mem_cons_self rfl
      have hcell:cellOf env n=pure c:=by unfold cellOf;rw [hc]
      simp only [List.forIn_cons,beq_self_eq_true,if_true,clos,hcell,hc,Option.getD_some]
      rw [show ((pure c:Sem Addr) >>= fun a=>(pure (ForInStep.yield ((n,a) :: acc)):Sem _))=pure (ForInStep.yield ((n,c) :: acc)) from rfl]
      exact Qem r ((n,c) :: acc) hr
    · have hb:(k==NameKind.free)=false:=by simpa using hk
      simp only [List.forIn_cons,hb,Bool.false_eq_true,if_false,clos]
      exact Qem r acc hr
theorem Qbp {scope:Scope} {env:Env} (h:∀ x∈scope.names,x.2=NameKind.free→∃ c,env.cells.lookup x.1=some c):closureFor scope env=pure (clos env scope.names []):=by
  have e:=Qem scope.names [] h
  have f:(fun (x:Str×NameKind) (cs:List (Str×Addr))=>(match x with
      | (name,kind)=>if (kind==NameKind.free)=true then (do let a ← cellOf env name;pure (ForInStep.yield ((name,a) :: cs)):Sem _) else pure (ForInStep.yield cs))) =
      (fun (x:Str×NameKind) (cs:List (Str×Addr))=>if (x.2==NameKind.free)=true then (do let a ← cellOf env x.1;pure (ForInStep.yield ((x.1,a) :: cs)):Sem _) else pure (ForInStep.yield cs)):=by
    funext x cs
    cases x
    rfl
  unfold closureFor
  dsimp only
  rw [f,e]
  rfl
theorem Qcy {env:Env} {x:Str}:∀ (l:List (Str×NameKind)) (acc:List (Str×Addr)),(x,NameKind.free)∈l∨acc.lookup x=env.cells.lookup x→(∀ y∈l,y.2=NameKind.free→∃ c,env.cells.lookup y.1=some c) →
    (clos env l acc).lookup x=env.cells.lookup x
  | [],acc,h,_=>by
    rcases h with h | h
    · cases h
    · exact h
  | (n,k) :: r,acc,h,hc=>by
    have hr:∀ y∈r,y.2=NameKind.free→∃ c,env.cells.lookup y.1=some c:=fun y hy=>hc y (List.mem_cons_of_mem _ hy)
    by_cases hk:k=NameKind.free
    · subst hk
      obtain ⟨c,hcn⟩:=hc (n,NameKind.free) List.mem_cons_self rfl
      have hcn:env.cells.lookup n=some c:=hcn
      simp only [clos,beq_self_eq_true,if_true]
      refine Qcy r _ ?_ hr
      by_cases hx:x=n
      · subst hx
        right
        simp [hcn]
      · have hb:(x==n)=false:=by simpa using hx
        rcases h with h | h
        · rcases List.mem_cons.mp h with h | h
          · injection h with h1 _
            exact absurd h1 hx
          · exact .inl h
        · right
          simp only [List.lookup_cons,hb]
          exact h
    · have hb:(k==NameKind.free)=false:=by simpa using hk
      simp only [clos,hb,Bool.false_eq_true,if_false]
      refine Qcy r acc ?_ hr
      rcases h with h | h
      · rcases List.mem_cons.mp h with h | h
        · injection h with _ h2
          exact absurd h2.symm hk
        · exact .inl h
      · exact .inr h
theorem QfU {env:Env} {x:Str} {c:Addr}:∀ (l:List (Str×NameKind)) (acc:List (Str×Addr)),(acc.lookup x=some c→env.cells.lookup x=some c)→(∀ y∈l,y.2=NameKind.free→∃ c,env.cells.lookup y.1=some c) →
    (clos env l acc).lookup x=some c→env.cells.lookup x=some c
  | [],acc,h,_,e=>h e
  | (n,k) :: r,acc,h,hc,e=>by
    have hr:∀ y∈r,y.2=NameKind.free→∃ c,env.cells.lookup y.1=some c:=fun y hy=>hc y (List.mem_cons_of_mem _ hy)
    by_cases hk:k=NameKind.free
    · subst hk
      obtain ⟨d,hcn⟩:=hc (n,NameKind.free) List.mem_cons_self rfl
      have hcn:env.cells.lookup n=some d:=hcn
      simp only [clos,beq_self_eq_true,if_true] at e
      refine QfU r _ (fun q => ?_) hr e
      by_cases hx:x=n
      · subst hx
        simp [hcn] at q
        rw [hcn,q]
      · have hb:(x==n)=false:=by simpa using hx
        simp only [List.lookup_cons,hb] at q
        exact h q
    · have hb:(k==NameKind.free)=false:=by simpa using hk
      simp only [clos,hb,Bool.false_eq_true,if_false] at e
      exact QfU r acc h hr e

noncomputable def blkEnv (env:Env) (sc':Scope) (cl:List (Str×Addr)) (C:Addr):Env :=
  { scope:=sc',locals:=C,globals:=env.globals,cells:=cl,qual:=env.qual,func:=none,code:=env.code,frame:=env.frame,builtins:=env.builtins }
noncomputable def Qas (X:Cx) (pins:List (Addr×Obj)) (N':List Str) (sc':Scope) (cl:List (Str×Addr)) (C:Addr) (s:Shared) (H:Hp) (fp:List Addr):Cx where
  prog:=X.prog
  w:=X.w
  K:=X.K
  mg:=X.mg
  base:=X.base
  A:=X.A
  N:=N'
  s₀:=s
  H₀:=H
  env:=blkEnv X.env sc' cl C
  outer:=X.stack
  stack:=X.stack
  ex:=fp
  fn:=fun _=>false
  calm:=X.calm
  pn:=X.pn++pins
  xe:=fun _ _=>False

noncomputable def Zn (osc scope:Scope):Scope :=
  { scope with names:=scope.names.map fun (n,k)=>if (k == .free&&osc.kind == .function&&osc.names.lookup n==some .cell) then (n,.cell) else (n,k) }
structure CompOk (N:List Str) (osc scope:Scope) (N':List Str) (nt:Nat) (caps:List Nat):Prop where
  kind:scope.kind = .function
  nocell:∀ x∈scope.names,x.2≠NameKind.cell
  locs:∀ x∈scope.names,x.2=NameKind.local→scope.names.lookup x.1=some .local
  free:∀ x∈scope.names,x.2=NameKind.free→osc.names.lookup x.1=some .cell∨osc.names.lookup x.1=some .free
  len:N'.length=nt + caps.length
  cap:∀ p∈caps.zip (N'.drop nt),N[p.1]?=some p.2∧scope.names.lookup p.2=some NameKind.free

noncomputable def XE (nt:Nat) (caps:List Nat) (σ:St):St:=List.replicate nt none++caps.map fun j=>(σ[j]?).getD none

section
variable {X:Cx} {pins:List (Addr×Obj)} {σ:St} {H:Hp} {s:Shared} {scope:Scope} {N':List Str} {nt:Nat} {caps:List Nat} {fp:List Addr}
theorem QjW (I:Inv X pins σ H s) (ck:CompOk X.N X.env.scope scope N' nt caps):∀ x∈scope.names,x.2=NameKind.free→∃ c,X.env.cells.lookup x.1=some c:=fun x hx hf =>
  I.ok.has x.1 (ck.free x hx hf)
theorem QbK {osc:Scope} {x:Str} {k:NameKind}:∀ {names:List (Str×NameKind)},names.lookup x=some NameKind.free →
    (names.map fun (p:Str×NameKind)=>if (p.2==NameKind.free&&osc.kind == .function&&osc.names.lookup p.1==some .cell) then (p.1,NameKind.cell) else (p.1,p.2)).lookup x=some k→k = .cell∨k = .free
  | [],h,_=>by cases h
  | (n,q) :: r,h,e=>by
    by_cases hx:x=n
    · subst hx
      simp at h
      subst h
      simp only [List.map_cons] at e
      split at e <;> simp at e <;> simp [e.symm]
    · have hb:(x==n)=false:=by simpa using hx
      simp only [List.lookup_cons,hb] at h
      simp only [List.map_cons] at e
      split at e
      · simp only [List.lookup_cons,hb] at e
        exact QbK h e
      · simp only [List.lookup_cons,hb] at e
        exact QbK h e

end
end L2.PM

noncomputable section
namespace L2.PM
open PySem PySem.Spec PyProof.Rows

noncomputable def PIfs (X:Cx) (ifs:List Expr) (t:TT):Prop :=
  ∀ (pins:List (Addr×Obj)) (s:Shared) (σ:St) (H:Hp) (Q:Bool→Hp→Prop),Inv X pins σ H s→t σ H Q →
    wpAny (model X.prog X.w) X.A (forIn ifs true fun c r=>if r=true then do let ok ← isTrue c X.env (eval c X.env);pure (ForInStep.yield ok) else pure (ForInStep.yield r)) (TP X pins σ Q) X.xe s
noncomputable def tYes:TT:=fun _ H Q=>Q true H
theorem pifs_nil {X:Cx}:PIfs X [] tYes:=fun _ _ _ H _ I h=>wpAny_tests_nil ⟨H,I,h⟩
theorem pifs_one {X:Cx} {c:Expr} {t:TT} (h:PT X c t):PIfs X [c] t:=fun pins s σ H Q I hq=>wpAny_tests_one (h pins s σ H Q I hq)

theorem QgG {prog:Program} {w:World} {A:Around} {R:Result→Shared→Prop} {s:Shared} {elt target iter:Expr} {ifs:List Expr} {scope:Scope} {pos:Pos} {it acc:Value} {env:Env} (I:Nat→Shared→Prop)
    (turn:∀ n s,I n s→wpAny (model prog w) A (pyNext it) (fun r s₁=>match r with
      | none=>R (.ok .next) s₁
      | some v=>wpAny (model prog w) A (letOwnedTupleGo target it v) (fun _ s₁'=>wpAny (model prog w) A (assign target env v) (fun _ s₂ =>
          wpAny (model prog w) A (forIn ifs true fun c r=>if r=true then do let ok ← isTrue c env (eval c env);pure (ForInStep.yield ok) else pure (ForInStep.yield r)) (fun ok s₃ =>
            if ok=true then wpAny (model prog w) A (eval elt env) (fun x s₄ =>
              wpAny (model prog w) A (call (.builtin "list.append") [acc,x]) (fun _ s₅=>∃ m,m < n∧I m s₅) (fun _ _=>False) s₄) (fun _ _=>False) s₃
            else ∃ m,m < n∧I m s₃) (fun _ _=>False) s₂) (fun _ _=>False) s₁') (fun _ _=>False) s₁) (fun _ _=>False) s)
    (n:Nat) (h:I n s) :
    codeAny (model prog w) A (.compLoop (.ListComp elt [⟨target,iter,ifs,0⟩] scope pos) 0 it acc env) R s:=by
  refine codeAny_loop rfl I (fun n s hI => ?_) n h
  show wpAny _ A ((compTurn (.ListComp elt [⟨target,iter,ifs,0⟩] scope pos) 0 it acc env).onRaise (fun x=>do noteFrame x env;theTreesLotGoes x)) _ _ s
  refine wpAny_noted ?_
  rw [compTurn_list]
  refine wpAny_bind (wpAny_standAt (wpAny_bind (wpAny_mono (turn n s hI) (fun r s₁ h₁ => ?_) fun _ _ h'=>h'.elim)))
  cases r with
  | none=>exact wpAny_pure h₁
  | some v =>
    refine wpAny_bind (wpAny_mono h₁ (fun _ s₁' h₁' => ?_) fun _ _ h'=>h'.elim)
    refine wpAny_bind (wpAny_mono h₁' (fun _ s₂ h₂=>wpAny_bind (wpAny_mono h₂ (fun ok s₃ h₃ => ?_) fun _ _ h'=>h'.elim)) fun _ _ h'=>h'.elim)
    cases ok with
    | false=>exact wpAny_pure ⟨rfl,h₃⟩
    | true =>
      exact wpAny_bind (wpAny_bind (wpAny_mono h₃ (fun x s₄ h₄=>wpAny_bind (wpAny_mono h₄ (fun _ s₅ h₅=>wpAny_pure (wpAny_pure ⟨rfl,h₅⟩)) fun _ _ h'=>h'.elim)) fun _ _ h'=>h'.elim))

noncomputable def StExt (σ σ':St):Prop:=σ'.length=σ.length∧∀ (i:Nat) (v:V),σ[i]?=some (some v)→σ'[i]?=some (some v)
noncomputable def QeM (J:It) (nt:Nat) (caps:List Nat) (g:TG) (tc:TT) (te:TE) (σ:St) (H1:Hp) (Qd:Addr→Hp→Prop):Prop :=
  ∀ D,H1 D=none→∃ W:Nat→Nat→List V→Hp→Prop,(∃ m,W 0 m [] (upd H1 D (.lst []))) ∧
    ∀ i m xs H2,W i m xs H2→(J.stop i H2∧Qd D H2)∨(J.go i H2∧∀ x H3,J.yld i H2 x H3→g x (XE nt caps σ) H3 fun σ4 H4=>StExt (XE nt caps σ) σ4 ∧
      tc σ4 H4 fun b H5=>if b=true then te σ4 H5 fun v H6=>H6 D=some (.lst xs)∧xs.length < sizeLine∧∃ m',m' < m∧W (i + 1) m' (xs++[v]) (upd H6 D (.lst (xs++[v]))) else ∃ m',m' < m∧W (i + 1) m' xs H5)

theorem QiI {x:Str}:∀ (names:List (Str×NameKind)) (n:Nat) (acc:List (Str×Addr)),(x,NameKind.cell)∉names→(cellsFrom n names acc).lookup x=acc.lookup x
  | [],_,_,_=>rfl
  | (y,k) :: r,n,acc,h=>by
    have hr:(x,NameKind.cell)∉r:=fun z=>h (List.mem_cons_of_mem _ z)
    unfold cellsFrom
    split
    · rename_i hk
      have hk:k=NameKind.cell:=beq_iff_eq.mp hk
      subst hk
      rw [QiI r _ _ hr,List.lookup_cons]
      have:(x==y)=false:=by
        rw [beq_eq_false_iff_ne]
        rintro rfl
        exact h List.mem_cons_self
      rw [this]
    · exact QiI r _ _ hr
theorem QiK {x:Str} {c:Addr}:∀ (names:List (Str×NameKind)) (h:Heap) (acc:List (Str×Addr)),(cellsFrom h.objs.size names acc).lookup x=some c→acc.lookup x=some c∨(h.objs.size≤c∧(pushCells h names).IsCell c none)
  | [],_,_,e => .inl e
  | (y,k) :: r,h,acc,e=>by
    unfold cellsFrom at e
    unfold pushCells
    split at e
    · rename_i hk
      rw [if_pos hk]
      have e:(cellsFrom (h.push { cls := .type "cell",data := .cell none }).objs.size r ((y,h.objs.size) :: acc)).lookup x=some c:=by rw [Heap.size_push];exact e
      rcases QiK r _ _ e with z | ⟨z1,z2⟩
      · rw [List.lookup_cons] at z
        cases q:x==y with
        | true =>
          rw [q] at z
          cases z
          exact .inr ⟨Nat.le_refl _,_,pushCells_keeps r _ _ _ (Heap.get?_push_size _ rfl),rfl⟩
        | false=>rw [q] at z;exact .inl z
      · rw [Heap.size_push] at z1
        exact .inr ⟨by omega,z2⟩
    · rename_i hk
      rw [if_neg hk]
      exact QiK r h acc e
theorem QiJ:∀ (names:List (Str×NameKind)) (n:Nat) (acc:List (Str×Addr)),(∀ x c,acc.lookup x=some c→c < n)→(∀ x y c,acc.lookup x=some c→acc.lookup y=some c→x=y)→∀ x y c,(cellsFrom n names acc).lookup x=some c→(cellsFrom n names acc).lookup y=some c→x=y
  | [],_,_,_,h2,x,y,c,e1,e2=>h2 x y c e1 e2
  | (z,k) :: r,n,acc,h1,h2,x,y,c,e1,e2=>by
    unfold cellsFrom at e1 e2
    split at e1
    · rename_i hk
      rw [if_pos hk] at e2
      refine QiJ r (n + 1) ((z,n) :: acc) (fun x c e => ?_) (fun x y c e1 e2 => ?_) x y c e1 e2
      · rw [List.lookup_cons] at e
        cases q:x==z with
        | true=>rw [q] at e;cases e;exact Nat.lt_succ_self _
        | false=>rw [q] at e;exact Nat.lt_succ_of_lt (h1 x c e)
      · rw [List.lookup_cons] at e1 e2
        cases q1:x==z with
        | true =>
          cases q2:y==z with
          | true=>rw [beq_iff_eq.mp q1,beq_iff_eq.mp q2]
          | false =>
            rw [q1] at e1;rw [q2] at e2
            cases e1
            exact absurd (h1 y _ e2) (Nat.lt_irrefl _)
        | false =>
          cases q2:y==z with
          | true =>
            rw [q1] at e1;rw [q2] at e2
            cases e2
            exact absurd (h1 x _ e1) (Nat.lt_irrefl _)
          | false =>
            rw [q1] at e1;rw [q2] at e2
            exact h2 x y c e1 e2
    · rename_i hk
      rw [if_neg hk] at e2
      exact QiJ r n acc h1 h2 x y c e1 e2
theorem newEnvC {M:Model} {A:Around} {E:Value→Shared→Prop} {s:Shared} {scope:Scope} {globals:Addr} {closure:List (Str×Addr)} {qual:Str} {func:Option Addr} {code:Value} {outer:Env} {builtins:Addr} {Q:Env→Shared→Prop}
    (hQ:Q (newEnv scope s.heap.objs.size globals (cellsFrom (s.heap.objs.size + 1) scope.names closure) qual func code (some outer) builtins) { s with heap:=pushCells (s.heap.push { cls := .type "dict",data := .dict #[] }) scope.names }) :
    wpAny M A (newFunctionEnv scope globals closure [] qual func code (some outer) builtins) Q E s:=by
  simp only [newFunctionEnv,Option.isSome_some,if_true]
  refine wpAny_bind (wpAny_alloc ?_)
  refine wpAny_bind (wpAny_layCells _ (fun name kind cells=>by cases hkc:kind==NameKind.cell <;> simp [hkc]) _ _ _ _ ?_)
  rw [show ({ s with heap:=s.heap.push { cls := .type "dict",data := .dict #[] } }:Shared).heap.objs.size=s.heap.objs.size + 1 from Heap.size_push ..]
  simp only [List.forIn_nil]
  exact wpAny_bind (wpAny_pure (wpAny_pure hQ))
noncomputable def ownC (scope:Scope):Str→Bool:=fun x=>scope.names.lookup x==some NameKind.cell
noncomputable def Xk (X:Cx) (fn:Str→Bool) (pins:List (Addr×Obj)) (N':List Str) (sc':Scope) (cl:List (Str×Addr)) (C:Addr) (s:Shared) (H:Hp) (fp:List Addr):Cx:={ Qas X pins N' sc' cl C s H fp with fn:=fn }
structure CompOkC (N:List Str) (osc scope:Scope) (N':List Str) (nt:Nat) (caps:List Nat):Prop where
  kind:scope.kind = .function
  nd:∀ x,(x,NameKind.cell)∈scope.names→(x,NameKind.free)∉scope.names
  locs:∀ x∈scope.names,x.2=NameKind.local→scope.names.lookup x.1=some .local
  free:∀ x∈scope.names,x.2=NameKind.free→osc.names.lookup x.1=some .cell∨osc.names.lookup x.1=some .free
  len:N'.length=nt + caps.length
  cap:∀ p∈caps.zip (N'.drop nt),N[p.1]?=some p.2∧scope.names.lookup p.2=some NameKind.free
section
variable {X:Cx} {pins:List (Addr×Obj)} {σ:St} {H:Hp} {s:Shared} {scope:Scope} {N':List Str} {nt:Nat} {caps:List Nat} {fp:List Addr}
theorem QdK (I:Inv X pins σ H s) (ck:CompOkC X.N X.env.scope scope N' nt caps):∀ x∈scope.names,x.2=NameKind.free→∃ c,X.env.cells.lookup x.1=some c:=fun x hx hf =>
  I.ok.has x.1 (ck.free x hx hf)
theorem Qen {env:Env} {x:Str} {c:Addr}:∀ (l:List (Str×NameKind)) (acc:List (Str×Addr)),(clos env l acc).lookup x=some c→(x,NameKind.free)∈l∨acc.lookup x=some c
  | [],_,e => .inr e
  | (n,k) :: r,acc,e=>by
    by_cases hk:k=NameKind.free
    · subst hk
      simp only [clos,beq_self_eq_true,if_true] at e
      rcases Qen r _ e with z | z
      · exact .inl (List.mem_cons_of_mem _ z)
      · rw [List.lookup_cons] at z
        cases q:x==n with
        | true=>exact .inl (by rw [beq_iff_eq.mp q];exact List.mem_cons_self)
        | false=>rw [q] at z;exact .inr z
    · have hb:(k==NameKind.free)=false:=by simpa using hk
      simp only [clos,hb,Bool.false_eq_true,if_false] at e
      rcases Qen r acc e with z | z
      · exact .inl (List.mem_cons_of_mem _ z)
      · exact .inr z
theorem QcK {osc:Scope} {x:Str}:∀ (names:List (Str×NameKind)) (k:NameKind),(k=NameKind.cell∨k=NameKind.free) →
    (names.map fun (p:Str×NameKind)=>if (p.2==NameKind.free&&osc.kind == .function&&osc.names.lookup p.1==some .cell) then (p.1,NameKind.cell) else (p.1,p.2)).lookup x=some k→names.lookup x=some NameKind.cell∨names.lookup x=some NameKind.free
  | [],_,_,e=>by cases e
  | (n,q) :: r,k,hk,e=>by
    by_cases hx:x=n
    · subst hx
      simp only [List.map_cons] at e
      split at e
      · rename_i hcnd
        simp only [Bool.and_eq_true,beq_iff_eq] at hcnd
        exact .inr (by simp [hcnd.1.1])
      · simp at e
        subst e
        rcases hk with hk | hk
        · exact .inl (by simp [hk])
        · exact .inr (by simp [hk])
    · have hb:(x==n)=false:=by simpa using hx
      simp only [List.lookup_cons,hb]
      refine QcK (osc:=osc) r k hk ?_
      simp only [List.map_cons] at e
      split at e <;> (simp only [List.lookup_cons,hb] at e;exact e)
theorem blk_invC (I:Inv X pins σ H s) (hc:X.calm=true) (ck:CompOkC X.N X.env.scope scope N' nt caps) (hf:∀ b∈fp,FpOk X pins H b) (hlt:∀ b∈fp,b < s.heap.objs.size) {tk:Nat} :
    Inv (Xk X (ownC scope) pins N' (Zn X.env.scope scope) (cellsFrom (s.heap.objs.size + 1) scope.names (clos X.env scope.names [])) s.heap.objs.size s H fp) [] (XE nt caps σ) H { s with heap:=pushCells (s.heap.push { cls := .type "dict",data := .dict #[] }) scope.names,toks:=tk }:=by
  have fc:=QdK I ck
  have cof:∀ x c,(clos X.env scope.names []).lookup x=some c→X.env.cells.lookup x=some c:=fun x c e=>QfU scope.names [] (fun q=>by cases q) fc e
  have old:∀ b u,s.heap.get? b=some u→(pushCells (s.heap.push { cls := .type "dict",data := .dict #[] }) scope.names).get? b=some u:=fun b u e=>pushCells_keeps _ _ b u (Heap.get?_push_of_some _ e)
  have hn:(pushCells (s.heap.push { cls := .type "dict",data := .dict #[] }) scope.names).Ns s.heap.objs.size (fun _=>none):=(Heap.Ns.new s.heap (.type "dict")).keeps (pushCells_keeps _ _)
  have clt:∀ x c,(clos X.env scope.names []).lookup x=some c→c < s.heap.objs.size:=fun x c e=>by
    obtain ⟨v,hv⟩:=I.cell x c (cof x c e)
    exact hv.lt
  have getC:∀ x c,(cellsFrom (s.heap.objs.size + 1) scope.names (clos X.env scope.names [])).lookup x=some c→(clos X.env scope.names []).lookup x=some c∨(s.heap.objs.size + 1≤c∧(pushCells (s.heap.push { cls := .type "dict",data := .dict #[] }) scope.names).IsCell c none):=fun x c e=>by
    have:=QiK (x:=x) (c:=c) scope.names (s.heap.push { cls := .type "dict",data := .dict #[] }) (clos X.env scope.names [])
    rw [Heap.size_push] at this
    exact this e
  have injC:=QiJ scope.names (s.heap.objs.size + 1) (clos X.env scope.names []) (fun x c e=>Nat.lt_succ_of_lt (clt x c e)) (fun x y c h1 h2=>I.ok.inj x y c (cof x c h1) (cof y c h2))
  have fsub:∀ b∈frs X.stack,b∈X.env.locals :: X.fs:=I.stkSub
  refine ⟨⟨I.ok.mod,ck.kind,I.ok.glob,I.ok.blt,Nat.le_refl _,injC,fun x hx => ?_,fun x c hx e => ?_,fun z=>I.ok.hd z,I.ok.frames,.inl rfl,fun b hb => ?_,I.bs,Nat.le_trans I.ok.bsz I.sz,fun b u e hb => ?_,fun b hb z => ?_,I.stack,I.stkFree⟩,
    rfl,I.bare,Un.kept old,⟨_,hn,fun i x v h1 h2 h3 => ?_⟩,fun x c e => ?_,I.hok.fresh (Nat.le_refl _),fun x c e => ?_,fun p hp => ?_,I.hok.kept old,?_⟩
  · -- has
    have hx:(Zn X.env.scope scope).names.lookup x=some .cell∨(Zn X.env.scope scope).names.lookup x=some .free:=hx
    have hm:scope.names.lookup x=some NameKind.cell∨scope.names.lookup x=some NameKind.free:=by
      rcases hx with hx | hx
      · exact QcK scope.names _ (.inl rfl) hx
      · exact QcK scope.names _ (.inr rfl) hx
    rcases hm with hm | hm
    · exact Option.isSome_iff_exists.mp (PySem.W.cellsFrom_some scope.names _ _ (.inl hm))
    · have hmem:=PySem.mem_of_lookup hm
      obtain ⟨c,hcx⟩:=fc _ hmem rfl
      exact Option.isSome_iff_exists.mp (PySem.W.cellsFrom_some scope.names _ _ (.inr (by rw [Qcy scope.names [] (.inl hmem) fc,hcx];rfl)))
  · -- cab
    have hx:(scope.names.lookup x==some NameKind.cell)=true:=hx
    have hx:=beq_iff_eq.mp hx
    rcases getC x c e with z | z
    · exfalso
      rcases Qen scope.names [] z with q | q
      · exact ck.nd _ (PySem.mem_of_lookup hx) q
      · cases q
    · exact Nat.le_of_succ_le z.1
  · -- exf
    obtain ⟨_,f1,f2,f3,f4,_⟩:=hf b hb
    refine ⟨Nat.ne_of_lt (hlt b hb),fun x c e => ?_⟩
    rcases getC x c e with z | z
    · exact f4 x c (cof x c z)
    · exact fun q=>by
        have:=hlt b hb
        rw [← q] at this
        exact absurd (Nat.lt_of_lt_of_le (Nat.lt_succ_self _) z.1) (Nat.not_lt.mpr (Nat.le_of_lt this))
  · -- noex
    obtain ⟨_,f1,f2,f3,f4,_⟩:=hf b hb
    rcases f3 with z | z
    · exact I.ok.noex b u e z
    · exact absurd (Nat.lt_of_lt_of_le (Heap.lt_size e) (Nat.le_trans I.ok.bsz z)) (Nat.lt_irrefl _)
  · -- exfs
    obtain ⟨_,f1,f2,_⟩:=hf b hb
    rcases List.mem_cons.mp (fsub b z) with q | q
    · exact f1 q
    · exact f2 q
  · -- loc
    have h2:(XE nt caps σ)[i]?=some (some v):=h2
    have h1:N'[i]?=some x:=h1
    unfold XE at h2
    by_cases hi:i < nt
    · rw [List.getElem?_append_left (by simpa using hi),List.getElem?_replicate,if_pos hi] at h2
      cases h2
    · rw [List.getElem?_append_right (by simpa using hi),List.length_replicate,List.getElem?_map] at h2
      cases ej:caps[i - nt]? with
      | none=>rw [ej] at h2;cases h2
      | some j =>
        rw [ej] at h2
        have h2:(σ[j]?).getD none=some v:=Option.some.inj h2
        have h2':σ[j]?=some (some v):=by
          cases eq:σ[j]? with
          | none=>rw [eq] at h2;cases h2
          | some y=>rw [eq] at h2;exact congrArg some h2
        have hz:(j,x)∈caps.zip (N'.drop nt):=by
          refine List.mem_of_getElem? (i:=i - nt) ?_
          rw [List.getElem?_zip_eq_some]
          refine ⟨ej,?_⟩
          rw [List.getElem?_drop,show nt + (i - nt)=i by omega]
          exact h1
        obtain ⟨hN,hfr⟩:=ck.cap _ hz
        have hfr:scope.names.lookup x=some NameKind.free:=hfr
        have hmem:=PySem.mem_of_lookup hfr
        have hk:=ck.free _ hmem rfl
        have hk:X.env.scope.names.lookup x=some .cell∨X.env.scope.names.lookup x=some .free:=hk
        have hnc:(x,NameKind.cell)∉scope.names:=fun q=>ck.nd _ q hmem
        obtain ⟨m0,hn0,hl0⟩:=I.loc
        obtain ⟨u,ru,lk⟩:=hl0 j x v hN h2' (.inr hk)
        refine ⟨u,ru,?_⟩
        rcases lk with ⟨k0,_⟩ | ⟨_,c,ec,zc⟩
        · have k0:X.env.scope.names.lookup x=some .local:=k0
          rcases hk with hk | hk <;> (rw [k0] at hk;cases hk)
        · refine .inr ⟨?_,c,((QiI scope.names _ _ hnc).trans (Qcy scope.names [] (.inl hmem) fc)).trans ec,?_⟩
          · have h3:(Zn X.env.scope scope).names.lookup x=some .local∨(Zn X.env.scope scope).names.lookup x=some .cell∨(Zn X.env.scope scope).names.lookup x=some .free:=h3
            rcases h3 with h3 | h3 | h3
            · rcases QbK hfr h3 with z | z <;> cases z
            · exact .inl h3
            · exact .inr h3
          · obtain ⟨ob,ho,hd⟩:=zc
            exact ⟨ob,old c ob ho,hd⟩
  · -- cell
    rcases getC x c e with z | z
    · obtain ⟨v,ob,ho,hd⟩:=I.cell x c (cof x c z)
      exact ⟨v,ob,old c ob ho,hd⟩
    · exact ⟨none,z.2⟩
  · -- freeC
    rcases getC x c e with z | z
    · exact I.freeC x c (cof x c z)
    · exact I.hok.fresh (Nat.le_of_succ_le z.1)
  · -- pin
    have hp':p∈X.pn++pins:=by
      rcases List.mem_append.mp hp with z | z
      · exact z
      · cases z
    obtain ⟨e,n,ne,nf,d⟩:=I.pin p hp'
    refine ⟨old _ _ e,n,Nat.ne_of_lt (Heap.lt_size e),fun z => ?_,d⟩
    rcases List.mem_cons.mp (fsub p.1 z) with q | q
    · exact ne q
    · exact nf q
  · -- len
    show (XE nt caps σ).length=N'.length
    unfold XE
    rw [ck.len]
    simp
end
section
variable {X:Cx} {pins:List (Addr×Obj)} {σ:St} {H:Hp} {s:Shared} {scope:Scope} {N':List Str} {nt:Nat} {caps:List Nat} {fp:List Addr} {tg iter elt:Expr} {ifs:List Expr} {pos:Pos}
theorem Qfh {J:It} {it:Addr} {tn:Nat→Heap→Prop} {g:TG} {tc:TT} {te:TE} {Qd:Addr→Hp→Prop} {RR:Value→Addr→Result→Shared→Prop} {E:Value→Shared→Prop}
    (I:Inv X pins σ H s) (hc:X.calm=true) (ck:CompOkC X.N X.env.scope scope N' nt caps) (hrel:relabel scope X.env=Zn X.env.scope scope)
    (T:Turn X.prog X.w X.K tg J fp it tn) (h0:tn 0 s.heap) (hf:∀ b∈fp,FpOk X pins H b)
    (hg:∀ pins cl C s H fp,PG (Xk X (ownC scope) pins N' (Zn X.env.scope scope) cl C s H fp) tg g)
    (ht:∀ pins cl C s H fp,PIfs (Xk X (ownC scope) pins N' (Zn X.env.scope scope) cl C s H fp) ifs tc)
    (he:∀ pins cl C s H fp,PE (Xk X (ownC scope) pins N' (Zn X.env.scope scope) cl C s H fp) elt te)
    (rd:QeM J nt caps g tc te σ H Qd)
    (hRR:∀ D C s' H',Inv X pins σ H' s'→(∃ m,s'.heap.Ns C m)→FpOk X pins H' C→Qd D H'→RR (.ref D) C (.ok .next) s') :
    wpAny (model X.prog X.w) X.A (newList []) (fun acc s₃=>wpAny (model X.prog X.w) X.A (newFunctionEnv scope X.env.globals (clos X.env scope.names []) [] X.env.qual none .none (some X.env)) (fun cenv s₄ =>
      codeAny (model X.prog X.w) X.A (.compStart (.ListComp elt [⟨tg,iter,ifs,0⟩] scope pos) 0 (.ref it) acc { cenv with scope:=relabel scope X.env }) (RR acc cenv.locals) s₄) E s₃) E s:=by
  have hD:H s.heap.objs.size=none:=I.fresh
  obtain ⟨W,⟨m0,w0⟩,turn⟩:=rd s.heap.objs.size hD
  refine wpAny_newObj_type (newEnvC ?_)
  rw [hrel]
  dsimp only
  have I3:Inv X pins σ (upd H s.heap.objs.size (.lst [])) { s with heap:=s.heap.push { cls := .type "list",data := .seq ([]:List Value).toArray } }:=I.lnew (t':=s.toks) .nil (Nat.zero_le _)
  have hlt:∀ b∈fp,b < s.heap.objs.size:=fun b hb=>by
    obtain ⟨o,e,_⟩:=T.obj 0 _ h0 b hb
    exact Heap.lt_size e
  have hf3:∀ b∈fp,FpOk X pins (upd H s.heap.objs.size (.lst [])) b:=fun b hb=>by
    obtain ⟨f0,f⟩:=hf b hb
    exact ⟨by rw [Qt (Nat.ne_of_lt (hlt b hb))];exact f0,f⟩
  have hlt3:∀ b∈fp,b < (s.heap.push { cls := .type "list",data := .seq ([]:List Value).toArray }).objs.size:=fun b hb=>by
    rw [Heap.size_push]
    exact Nat.lt_succ_of_lt (hlt b hb)
  have IB:=blk_invC (tk:=s.toks) I3 hc ck hf3 hlt3
  have keep1:∀ b o,s.heap.get? b=some o→(pushCells ((s.heap.push { cls := .type "list",data := .seq ([]:List Value).toArray }).push { cls := .type "dict",data := .dict #[] }) scope.names).get? b=some o:=fun b o e=>pushCells_keeps _ _ b o (Heap.get?_push_of_some _ (Heap.get?_push_of_some _ e))
  have st1:tn 0 (pushCells ((s.heap.push { cls := .type "list",data := .seq ([]:List Value).toArray }).push { cls := .type "dict",data := .dict #[] }) scope.names):=T.keep _ _ _ h0 fun b _ o e=>keep1 b o e
  have hg':=hg pins (cellsFrom ((s.heap.push { cls := .type "list",data := .seq ([]:List Value).toArray }).objs.size + 1) scope.names (clos X.env scope.names [])) (s.heap.push { cls := .type "list",data := .seq ([]:List Value).toArray }).objs.size { s with heap:=s.heap.push { cls := .type "list",data := .seq ([]:List Value).toArray } } (upd H s.heap.objs.size (.lst [])) fp
  have ht':=ht pins (cellsFrom ((s.heap.push { cls := .type "list",data := .seq ([]:List Value).toArray }).objs.size + 1) scope.names (clos X.env scope.names [])) (s.heap.push { cls := .type "list",data := .seq ([]:List Value).toArray }).objs.size { s with heap:=s.heap.push { cls := .type "list",data := .seq ([]:List Value).toArray } } (upd H s.heap.objs.size (.lst [])) fp
  have he':=he pins (cellsFrom ((s.heap.push { cls := .type "list",data := .seq ([]:List Value).toArray }).objs.size + 1) scope.names (clos X.env scope.names [])) (s.heap.push { cls := .type "list",data := .seq ([]:List Value).toArray }).objs.size { s with heap:=s.heap.push { cls := .type "list",data := .seq ([]:List Value).toArray } } (upd H s.heap.objs.size (.lst [])) fp
  have hY:∃ Y:Cx,Y=Xk X (ownC scope) pins N' (Zn X.env.scope scope) (cellsFrom ((s.heap.push { cls := .type "list",data := .seq ([]:List Value).toArray }).objs.size + 1) scope.names (clos X.env scope.names [])) (s.heap.push { cls := .type "list",data := .seq ([]:List Value).toArray }).objs.size { s with heap:=s.heap.push { cls := .type "list",data := .seq ([]:List Value).toArray } } (upd H s.heap.objs.size (.lst [])) fp:=⟨_,rfl⟩
  obtain ⟨Y,eY⟩:=hY
  have eP:Y.prog=X.prog:=by rw [eY];rfl
  have eW:Y.w=X.w:=by rw [eY];rfl
  have eK:Y.K=X.K:=by rw [eY];rfl
  have eA:Y.A=X.A:=by rw [eY];rfl
  have eC:Y.calm=true:=by rw [eY];exact hc
  have eE:Y.xe=fun _ _=>False:=by rw [eY];rfl
  have eEnv:Y.env=blkEnv X.env (Zn X.env.scope scope) (cellsFrom ((s.heap.push { cls := .type "list",data := .seq ([]:List Value).toArray }).objs.size + 1) scope.names (clos X.env scope.names [])) (s.heap.push { cls := .type "list",data := .seq ([]:List Value).toArray }).objs.size:=by rw [eY];rfl
  have back:∀ {H':Hp} {s':Shared},Inv Y [] (XE nt caps σ) H' s'→Inv X pins σ H' s'∧(∃ m,s'.heap.Ns (s.heap.push { cls := .type "list",data := .seq ([]:List Value).toArray }).objs.size m)∧FpOk X pins H' (s.heap.push { cls := .type "list",data := .seq ([]:List Value).toArray }).objs.size:=by
    intro H' s' IY
    subst eY
    refine ⟨I3.call' (ch:=fp) IY.os IY.base IY.hok IY.bare fun b hb => ?_,?_,I3.fpOk (Nat.le_refl _) IY.free⟩
    · obtain ⟨_,f1,_,f3,f4,f5⟩:=hf b hb
      exact ⟨f3,f1,f4,f5⟩
    · obtain ⟨m,hn,_⟩:=IY.loc
      exact ⟨m,hn⟩
  have fpY:∀ {H':Hp},(∀ b∈fp,H' b=none)→∀ b∈fp,FpOk Y [] H' b:=by
    intro H' hn b hb
    subst eY
    obtain ⟨_,f1,f2,f3,f4,f5⟩:=hf b hb
    refine ⟨hn b hb,Nat.ne_of_lt (hlt3 b hb),IB.ok.exfs b hb,.inl hb,(IB.ok.exf b hb).2,fun p hp => ?_⟩
    rcases List.mem_append.mp hp with z | z
    · exact f5 p z
    · cases z
  have IB:Inv Y [] (XE nt caps σ) (upd H s.heap.objs.size (.lst [])) { s with heap:=(pushCells ((s.heap.push { cls := .type "list",data := .seq ([]:List Value).toArray }).push { cls := .type "dict",data := .dict #[] }) scope.names),toks:=s.toks }:=by rw [eY];exact IB
  rw [← eY] at hg' ht' he'
  have loop:∀ s₃:Shared,s₃={ s with heap:=(pushCells ((s.heap.push { cls := .type "list",data := .seq ([]:List Value).toArray }).push { cls := .type "dict",data := .dict #[] }) scope.names),toks:=s.toks } →
      codeAny (model X.prog X.w) X.A (.compLoop (.ListComp elt [⟨tg,iter,ifs,0⟩] scope pos) 0 (.ref it) (.ref s.heap.objs.size) Y.env) (RR (.ref s.heap.objs.size) (s.heap.push { cls := .type "list",data := .seq ([]:List Value).toArray }).objs.size) s₃:=by
    rintro s₃ rfl
    refine QgG (fun n s'=>∃ i xs H',Inv Y [] (XE nt caps σ) H' s'∧tn i s'.heap∧(∀ b∈fp,H' b=none)∧W i n xs H') ?_ m0 ⟨0,[],_,IB,st1,fun b hb=>(hf3 b hb).1,w0⟩
    rintro n s4 ⟨i,xs,H4,I4,st4,fr4,w4⟩
    rcases turn i n xs H4 w4 with ⟨stop,q⟩ | ⟨go,step⟩
    · have z:=T.done Y eP eW eK eC i [] s4 _ H4 (fun _ _=>False) I4 (fpY fr4) st4 stop
      rw [eA] at z
      refine thn z fun r s5 ⟨hr,I5⟩ => ?_
      subst hr
      obtain ⟨a1,a2,a3⟩:=back I5
      exact hRR _ _ s5 H4 a1 a2 a3 q
    · have z:=T.item Y eP eW eK eC i [] s4 _ H4 (fun _ _=>False) I4 (fpY fr4) st4 go
      rw [eA] at z
      refine thn z fun r s5 ⟨u,hr,h5⟩ => ?_
      subst hr
      refine thn h5 fun _ s6 ⟨x,H6,I6,r6,y6,st6,fr6⟩ => ?_
      have I6':=I6.pinned (fpY fr6) (T.obj _ _ st6)
      have again:∀ {σ7:St} {H7:Hp} {s7:Shared} {xs':List V},Inv Y ([]++QeD fp s6.heap) σ7 H7 s7→StExt (XE nt caps σ) σ7→(∃ m',m' < n∧W (i + 1) m' xs' H7) →
          ∃ m,m < n∧∃ i xs H',Inv Y [] (XE nt caps σ) H' s7∧tn i s7.heap∧(∀ b∈fp,H' b=none)∧W i m xs H':=fun {σ7 H7 s7 xs'} I7 ex ⟨m',hm,w7⟩=>by
        refine ⟨m',hm,i + 1,xs',H7,(I7.unpinned).weak ex.1.symm ex.2,T.keep _ _ _ st6 fun b hb o e=>(I7.pin (b,o) (List.mem_append_right _ (List.mem_append_right _ (Qal hb e)))).1,fun b hb => ?_,w7⟩
        obtain ⟨o,e,d⟩:=T.obj _ _ st6 b hb
        exact (I7.pin (b,o) (List.mem_append_right _ (List.mem_append_right _ (Qal hb e)))).2.1
      have z2:=hg' _ s6 _ H6 x u _ I6' r6 (step x H6 y6)
      rw [eP,eW,eA,eE] at z2
      refine thn z2 fun _ s7 ⟨σ7,H7,I7,ex7,q7⟩ => ?_
      have z3:=ht' _ s7 σ7 H7 _ I7 q7
      rw [eP,eW,eA,eE] at z3
      refine thn z3 fun b s8 ⟨H8,I8,q8⟩ => ?_
      cases b with
      | false =>
        rw [if_neg Bool.false_ne_true] at q8 ⊢
        exact again I8 ex7 q8
      | true =>
        rw [if_pos rfl] at q8 ⊢
        have z4:=he' _ s8 σ7 H8 _ I8 q8
        rw [eP,eW,eA,eE] at z4
        refine thn z4 fun xv s9 ⟨v,H9,I9,r9,hD9,hl9,q9⟩ => ?_
        have z5:=Yr (X:=Y) _ s9 σ7 H9 (.ref s.heap.objs.size) [v] (.ref s.heap.objs.size) [xv] (fun _ H'=>∃ m',m' < n∧W (i + 1) m' (xs++[v]) H') I9 rfl (.cons r9 .nil) ⟨_,xs,v,rfl,rfl,hD9,hl9,q9⟩
        rw [eP,eW,eA,eE] at z5
        refine thn z5 fun _ s10 ⟨_,H10,I10,_,q10⟩ => ?_
        exact again I10 ex7 q10
  rw [eEnv] at loop
  refine codeAny_compStart_list (loop _ rfl) (T.self _ 0 _ _ _ st1 (loop _ rfl))

end
theorem CompOk.C {N:List Str} {osc scope:Scope} {N':List Str} {nt:Nat} {caps:List Nat} (ck:CompOk N osc scope N' nt caps):CompOkC N osc scope N' nt caps:=⟨ck.kind,fun x q=>absurd rfl (ck.nocell _ q),ck.locs,ck.free,ck.len,ck.cap⟩
theorem CompOk.eqC {N:List Str} {osc scope:Scope} {N':List Str} {nt:Nat} {caps:List Nat} (ck:CompOk N osc scope N' nt caps) (X:Cx):Xk X (ownC scope)=Qas X:=by
  have own:ownC scope=fun _=>false:=funext fun x=>by
    show (scope.names.lookup x==some NameKind.cell)=false
    rw [beq_eq_false_iff_ne]
    exact fun q=>ck.nocell _ (PySem.mem_of_lookup q) rfl
  rw [own];rfl
section
variable {X:Cx} {pins:List (Addr×Obj)} {σ:St} {H:Hp} {s:Shared} {scope:Scope} {N':List Str} {nt:Nat} {caps:List Nat} {fp:List Addr} {tg iter elt:Expr} {ifs:List Expr} {pos:Pos}
theorem comp_run {J:It} {it:Addr} {tn:Nat→Heap→Prop} {g:TG} {tc:TT} {te:TE} {Qd:Addr→Hp→Prop} {RR:Value→Addr→Result→Shared→Prop} {E:Value→Shared→Prop}
    (I:Inv X pins σ H s) (hc:X.calm=true) (ck:CompOk X.N X.env.scope scope N' nt caps) (hrel:relabel scope X.env=Zn X.env.scope scope)
    (T:Turn X.prog X.w X.K tg J fp it tn) (h0:tn 0 s.heap) (hf:∀ b∈fp,FpOk X pins H b)
    (hg:∀ pins cl C s H fp,PG (Qas X pins N' (Zn X.env.scope scope) cl C s H fp) tg g)
    (ht:∀ pins cl C s H fp,PIfs (Qas X pins N' (Zn X.env.scope scope) cl C s H fp) ifs tc)
    (he:∀ pins cl C s H fp,PE (Qas X pins N' (Zn X.env.scope scope) cl C s H fp) elt te)
    (rd:QeM J nt caps g tc te σ H Qd)
    (hRR:∀ D C s' H',Inv X pins σ H' s'→(∃ m,s'.heap.Ns C m)→FpOk X pins H' C→Qd D H'→RR (.ref D) C (.ok .next) s') :
    wpAny (model X.prog X.w) X.A (newList []) (fun acc s₃=>wpAny (model X.prog X.w) X.A (newFunctionEnv scope X.env.globals (clos X.env scope.names []) [] X.env.qual none .none (some X.env)) (fun cenv s₄ =>
      codeAny (model X.prog X.w) X.A (.compStart (.ListComp elt [⟨tg,iter,ifs,0⟩] scope pos) 0 (.ref it) acc { cenv with scope:=relabel scope X.env }) (RR acc cenv.locals) s₄) E s₃) E s:=by
  have e:=ck.eqC X
  exact Qfh I hc ck.C hrel T h0 hf (by rw [e];exact hg) (by rw [e];exact ht) (by rw [e];exact he) rd hRR
theorem FpOk.turn {H':Hp} {s':Shared} {C:Addr} {h':Heap} (I:Inv X pins σ H' s') (f:FpOk X pins H' C) (hs:Heap.SameBut C s'.heap h'):Inv X pins σ H' { s' with heap:=h' }:=by
  obtain ⟨f0,f1,f2,f3,f4,f5⟩:=f
  exact I.turned (t':=s'.toks) (fun b o hb e=>hs.extBut b o hb e) f0 f1 f3 f4 f5
noncomputable def tComp (wi:TI) (nt:Nat) (caps:List Nat) (g:TG) (tc:TT) (te:TE):TE:=fun σ H Q=>wi σ H fun J H1=>QeM J nt caps g tc te σ H1 fun D H2=>Q (.ref D) H2
variable {wi:TI} {g:TG} {tc:TT} {te:TE}
theorem pe_comp (hc:X.calm=true) (ck:CompOk X.N X.env.scope scope N' nt caps) (hi:PI X tg iter wi)
    (hg:∀ pins cl C s H fp,PG (Qas X pins N' (Zn X.env.scope scope) cl C s H fp) tg g)
    (ht:∀ pins cl C s H fp,PIfs (Qas X pins N' (Zn X.env.scope scope) cl C s H fp) ifs tc)
    (he:∀ pins cl C s H fp,PE (Qas X pins N' (Zn X.env.scope scope) cl C s H fp) elt te)
    (hs:∀ x,foldedSetIterable iter X.env x=pure x:=by intro _;rfl) (hrel:relabel scope X.env=Zn X.env.scope scope:=by rfl) :
    PE X (.ListComp elt [⟨tg,iter,ifs,0⟩] scope pos) (tComp wi nt caps g tc te):=by
  intro pins s σ H Q I h
  rw [eval_ListComp]
  refine wpAny_comprehension_free (use:=none) rfl hs (Qbp (QjW I ck)) ck.kind ck.locs (thn (hi pins s σ H _ I h) fun xv s₁ h₁=>thn h₁ fun itv s₂ h₂ => ?_)
  obtain ⟨it,fp,tn,J,H2,e,I2,T,st2,f2,rd⟩:=h₂
  subst e
  refine comp_run (RR:=fun acc C=>compPost (model X.prog X.w) X.A X.xe none (EP X pins σ Q) acc C) I2 hc ck hrel T st2 f2 hg ht he rd ?_
  intro D C s' H' I' hm f q
  obtain ⟨m,hm⟩:=hm
  exact ⟨m,hm,fun h' hs'=>⟨.ref D,H',FpOk.turn I' f hs',rfl,q⟩⟩
noncomputable def sSetComp (i:Nat) (wi:TI) (nt:Nat) (caps:List Nat) (g:TG) (tc:TT) (te:TE):TS:=fun D σ H=>wi σ H fun J H1=>QeM J nt caps g tc te σ H1 fun d H2=>D.nx (σ.set i (some (.ref d))) H2
theorem Qgs {i:Nat} {y:Str} {py spos:Pos} (hN:X.N.Nodup) (hi':X.N[i]?=some y) (hy:X.env.scope.names.lookup y=some .local) (hc:X.calm=true) (ck:CompOkC X.N X.env.scope scope N' nt caps) (hi:PI X tg iter wi)
    (hg:∀ pins cl C s H fp,PG (Xk X (ownC scope) pins N' (Zn X.env.scope scope) cl C s H fp) tg g)
    (ht:∀ pins cl C s H fp,PIfs (Xk X (ownC scope) pins N' (Zn X.env.scope scope) cl C s H fp) ifs tc)
    (he:∀ pins cl C s H fp,PE (Xk X (ownC scope) pins N' (Zn X.env.scope scope) cl C s H fp) elt te)
    (hsw:swapsWith (.ListComp elt [⟨tg,iter,ifs,0⟩] scope pos) (some (.Name y py)) spos.line X.env=pure true:=by rfl)
    (hs:∀ x,foldedSetIterable iter X.env x=pure x:=by intro _;rfl) (hrel:relabel scope X.env=Zn X.env.scope scope:=by rfl) :
    PS X (.Assign [.Name y py] (.ListComp elt [⟨tg,iter,ifs,0⟩] scope pos) spos) (sSetComp i wi nt caps g tc te):=by
  intro pins s σ H D I h
  rw [exec_Assign_Name_used _ _ _ _ hsw]
  refine wpAny_bind (wpAny_standAt (wpAny_bind ?_))
  show wpAny _ X.A (do let _ ← comprehension (.ListComp elt [⟨tg,iter,ifs,0⟩] scope pos) scope X.env _ (newList []) false (eval iter X.env) (some (assign (.Name y py) X.env))) _ _ s
  refine wpAny_bind (wpAny_mono (wpAny_comprehension_free (use:=some (assign (.Name y py) X.env)) (Q:=fun _ s'=>SP X pins D .next s') rfl hs (Qbp (QdK I ck)) ck.kind ck.locs
    (thn (hi pins s σ H _ I h) fun xv s₁ h₁=>thn h₁ fun itv s₂ h₂ => ?_)) (fun _ s' hq=>wpAny_pure (wpAny_pure hq)) fun _ _ e=>e)
  obtain ⟨it,fp,tn,J,H2,e,I2,T,st2,f2,rd⟩:=h₂
  subst e
  refine Qfh (RR:=fun acc C=>compPost (model X.prog X.w) X.A X.xe (some (assign (.Name y py) X.env)) (fun _ s'=>SP X pins D .next s') acc C) I2 hc ck hrel T st2 f2 hg ht he rd ?_
  intro d C s' H' I' hm f q
  obtain ⟨m,hm⟩:=hm
  show wpAny _ X.A (assign (.Name y py) X.env (.ref d)) _ _ s'
  refine wpAny_assign_Name (QeN I' hN hi' (.inl hy) (show RelV (.ref d) (.ref d) from rfl) (fun s'' I'' hs'' => ?_) (.inr hy))
  obtain ⟨a,sb,ha⟩:=hs''
  have hCa:C≠a:=by
    rcases ha with ha | ha
    · rw [ha];exact f.2.1
    · exact fun z=>f.2.2.2.2.1 _ _ ha z.symm
  exact ⟨m,hm.sameBut sb hCa,fun h' hs'=>⟨_,H',FpOk.turn I'' f hs',q⟩⟩
end
end L2.PM

noncomputable section
namespace L2.PM
open PySem PySem.Spec PyProof.Rows

inductive PV where
  | non | bl (b:Bool) | int (i:Int) | str (x:Str) | tup (xs:List PV) | lst (xs:List PV) | obj (C:Addr) (ks:List Str) (ps:List PV) | opq (a:Addr)

mutual
noncomputable def Rep (K:PySem.W.Frag) (F:Hp):PV→V→Prop
  | .non,v=>v = .non
  | .bl b,v=>v = .bl b
  | .int i,v=>v = .int i
  | .str x,v=>v = .str x
  | .tup xs,v=>∃ a vs,v = .ref a∧SqT K F a vs∧RepL K F xs vs
  | .lst xs,v=>∃ a vs,v = .ref a∧SqL K F a vs∧RepL K F xs vs
  | .obj C ks ps,v=>∃ a dx vs,v = .ref a∧F a=some (.ins C dx (ks.zip vs))∧F dx=some (.own a)∧ks.length=vs.length∧RepL K F ps vs
  | .opq a,v=>v = .ref a
noncomputable def RepL (K:PySem.W.Frag) (F:Hp):List PV→List V→Prop
  | [],vs=>vs=[]
  | x :: xs,vs=>∃ v r,vs=v :: r∧Rep K F x v∧RepL K F xs r
end

theorem _root_.L2.Same.seqT {K:PySem.W.Frag} {H H':Hp} {a:Addr} {xs:List V} (e:Same H H') (h:SqT K H a xs):SqT K H' a xs:=by
  rcases h with (h | ⟨o,h⟩) | h
  · exact .inl (.inl (e _ _ h))
  · exact .inl (.inr ⟨o,e _ _ h⟩)
  · exact .inr h

section
variable {K:PySem.W.Frag} {F F':Hp}
mutual
theorem Rep.mono (e:Same F F'):∀ {p:PV} {v:V},Rep K F p v→Rep K F' p v
  | .non,_,h=>h
  | .bl _,_,h=>h
  | .int _,_,h=>h
  | .str _,_,h=>h
  | .tup xs,_,h=>by
    unfold Rep at h ⊢
    obtain ⟨a,vs,h1,h2,h3⟩:=h
    exact ⟨a,vs,h1,e.seqT h2,RepL.mono e h3⟩
  | .lst xs,_,h=>by
    unfold Rep at h ⊢
    obtain ⟨a,vs,h1,h2,h3⟩:=h
    exact ⟨a,vs,h1,e.seq h2,RepL.mono e h3⟩
  | .obj C ks ps,_,h=>by
    unfold Rep at h ⊢
    obtain ⟨a,dx,vs,h1,h2,h3,h4,h5⟩:=h
    exact ⟨a,dx,vs,h1,e _ _ h2,e _ _ h3,h4,RepL.mono e h5⟩
  | .opq _,_,h=>h
theorem RepL.mono (e:Same F F'):∀ {ps:List PV} {vs:List V},RepL K F ps vs→RepL K F' ps vs
  | [],_,h=>h
  | x :: xs,_,h=>by
    unfold RepL at h ⊢
    obtain ⟨v,r,h1,h2,h3⟩:=h
    exact ⟨v,r,h1,Rep.mono e h2,RepL.mono e h3⟩
end
theorem RepL.nil:RepL K F [] []:=by unfold RepL;rfl
theorem RepL.cons {p:PV} {v:V} {ps:List PV} {vs:List V} (h:Rep K F p v) (t:RepL K F ps vs):RepL K F (p :: ps) (v :: vs):=by
  unfold RepL
  exact ⟨v,vs,rfl,h,t⟩
theorem RepL.length:∀ {ps:List PV} {vs:List V},RepL K F ps vs→vs.length=ps.length
  | [],_,h=>by unfold RepL at h;subst h;rfl
  | x :: xs,_,h=>by
    unfold RepL at h
    obtain ⟨v,r,rfl,_,h3⟩:=h
    simp [RepL.length h3]
theorem RepL.get:∀ {ps:List PV} {vs:List V} {i:Nat} {p:PV},RepL K F ps vs→ps[i]?=some p→∃ v,vs[i]?=some v∧Rep K F p v
  | [],_,_,_,_,e=>by simp at e
  | x :: xs,_,i,p,h,e=>by
    unfold RepL at h
    obtain ⟨v,r,rfl,h2,h3⟩:=h
    cases i with
    | zero=>simp at e;subst e;exact ⟨v,rfl,h2⟩
    | succ i =>
      obtain ⟨u,e1,e2⟩:=RepL.get (i:=i) h3 (by simpa using e)
      exact ⟨u,by simpa using e1,e2⟩
theorem RepL.back {ps:List PV} {vs:List V} {i:Nat} {v:V} (h:RepL K F ps vs) (e:vs[i]?=some v):∃ p,ps[i]?=some p∧Rep K F p v:=by
  cases q:ps[i]? with
  | none =>
    have h1:ps.length≤i:=List.getElem?_eq_none_iff.mp q
    have h2:i < vs.length:=(List.getElem?_eq_some_iff.mp e).1
    rw [h.length] at h2
    omega
  | some p =>
    obtain ⟨u,e1,e2⟩:=h.get q
    rw [e] at e1
    cases e1
    exact ⟨p,rfl,e2⟩
theorem RepL.append:∀ {ps qs:List PV} {vs us:List V},RepL K F ps vs→RepL K F qs us→RepL K F (ps++qs) (vs++us)
  | [],_,_,_,h,t=>by unfold RepL at h;subst h;exact t
  | x :: xs,_,_,_,h,t=>by
    unfold RepL at h
    obtain ⟨v,r,rfl,h2,h3⟩:=h
    exact .cons h2 (RepL.append h3 t)
theorem RepL.snoc {ps:List PV} {vs:List V} {p:PV} {v:V} (h:RepL K F ps vs) (t:Rep K F p v):RepL K F (ps++[p]) (vs++[v]):=h.append (.cons t .nil)
theorem RepL.take:∀ {ps:List PV} {vs:List V} (n:Nat),RepL K F ps vs→RepL K F (ps.take n) (vs.take n)
  | _,_,0,_=>by simpa using RepL.nil
  | [],_,n + 1,h=>by unfold RepL at h;subst h;exact .nil
  | x :: xs,_,n + 1,h=>by
    unfold RepL at h
    obtain ⟨v,r,rfl,h2,h3⟩:=h
    exact .cons h2 (RepL.take n h3)
theorem RepL.drop:∀ {ps:List PV} {vs:List V} (n:Nat),RepL K F ps vs→RepL K F (ps.drop n) (vs.drop n)
  | _,_,0,h=>by simpa using h
  | [],_,n + 1,h=>by unfold RepL at h;subst h;exact .nil
  | x :: xs,_,n + 1,h=>by
    unfold RepL at h
    obtain ⟨v,r,rfl,h2,h3⟩:=h
    simpa using RepL.drop n h3
theorem RepL.set:∀ {ps:List PV} {vs:List V} (i:Nat) {p:PV} {v:V},RepL K F ps vs→Rep K F p v→RepL K F (ps.set i p) (vs.set i v)
  | [],_,_,_,_,h,_=>by unfold RepL at h;subst h;exact .nil
  | x :: xs,_,0,_,_,h,q=>by
    unfold RepL at h
    obtain ⟨v,r,rfl,h2,h3⟩:=h
    exact .cons q h3
  | x :: xs,_,i + 1,_,_,h,q=>by
    unfold RepL at h
    obtain ⟨v,r,rfl,h2,h3⟩:=h
    exact .cons h2 (RepL.set i h3 q)
theorem RepL.reverse {ps:List PV} {vs:List V} (h:RepL K F ps vs):RepL K F ps.reverse vs.reverse:=by
  induction ps generalizing vs with
  | nil=>unfold RepL at h;subst h;exact .nil
  | cons x xs ih =>
    unfold RepL at h
    obtain ⟨v,r,rfl,h2,h3⟩:=h
    rw [List.reverse_cons,List.reverse_cons]
    exact (ih h3).append (.cons h2 .nil)
end

structure Grow (F H F' H':Hp):Prop where
  ext:Same F F'
  sub:Same F' H'
  same:Same H H'
  new:∀ a o,F' a=some o→F a=some o∨H a=none
theorem Grow.refl {F H:Hp} (h:Same F H):Grow F H F H:=⟨Same.refl _,h,Same.refl _,fun _ _ e => .inl e⟩
theorem Grow.trans {F H F1 H1 F2 H2:Hp} (a:Grow F H F1 H1) (b:Grow F1 H1 F2 H2):Grow F H F2 H2 :=
  ⟨a.ext.trans b.ext,b.sub,a.same.trans b.same,fun c o e=>by
    rcases b.new c o e with z | z
    · exact a.new c o z
    · exact .inr (a.same.free z)⟩
theorem Grow.laid {F H:Hp} {p:Addr} {o:HO} (h:Same F H) (n:H p=none):Grow F H (upd F p o) (upd H p o):=by
  have nF:F p=none:=by
    cases q:F p with
    | none=>rfl
    | some u=>rw [h p u q] at n;cases n
  refine ⟨fun a u e => ?_,fun a u e => ?_,fun a u e => ?_,fun a u e => ?_⟩
  · rw [Qt (Qu e nF)];exact e
  · by_cases z:a=p
    · subst z;rw [Qv] at e ⊢;exact e
    · rw [Qt z] at e ⊢;exact h a u e
  · rw [Qt (Qu e n)];exact e
  · by_cases z:a=p
    · subst z;exact .inr n
    · rw [Qt z] at e;exact .inl e
theorem Grow.side {F H:Hp} {p:Addr} {o:HO} (h:Same F H) (n:H p=none):Grow F H F (upd H p o):=by
  refine ⟨Same.refl _,fun a u e => ?_,fun a u e => ?_,fun a u e => .inl e⟩
  · rw [Qt (Qu (h a u e) n)];exact h a u e
  · rw [Qt (Qu e n)];exact e

inductive Slot where
  | un | fz (p:PV) | ow (xs:List PV)
noncomputable abbrev PEnv:=List Slot
noncomputable def Slot.val:Slot→Option PV
  | .un=>none
  | .fz p=>some p
  | .ow xs=>some (.lst xs)
noncomputable def getV (γ:PEnv) (i:Nat):Option PV:=(γ[i]?).bind Slot.val
noncomputable def ERep (K:PySem.W.Frag) (F:Hp) (σ:St) (γ:PEnv) (ms:List Nat):Prop:=∀ i∈ms,∀ p,getV γ i=some p→∃ v,σ[i]?=some (some v)∧Rep K F p v
theorem ERep.mono {K:PySem.W.Frag} {F F':Hp} {σ:St} {γ:PEnv} {ms:List Nat} (h:ERep K F σ γ ms) (e:Same F F'):ERep K F' σ γ ms:=fun i hi p hp=>by
  obtain ⟨v,h1,h2⟩:=h i hi p hp
  exact ⟨v,h1,h2.mono e⟩
theorem ERep.left {K:PySem.W.Frag} {F:Hp} {σ:St} {γ:PEnv} {ms ns:List Nat} (h:ERep K F σ γ (ms++ns)):ERep K F σ γ ms:=fun i hi=>h i (List.mem_append_left _ hi)
theorem ERep.right {K:PySem.W.Frag} {F:Hp} {σ:St} {γ:PEnv} {ms ns:List Nat} (h:ERep K F σ γ (ms++ns)):ERep K F σ γ ns:=fun i hi=>h i (List.mem_append_right _ hi)

noncomputable def Wv (K:PySem.W.Frag) (F H:Hp) (r:PV) (Q:VK):Prop:=∀ v H' F',Grow F H F' H'→Rep K F' r v→Q v H'
noncomputable def Wo (K:PySem.W.Frag) (F H:Hp) (xs:List PV) (Q:VK):Prop:=∀ a vs H' F',Grow F H F' H'→H a=none→F' a=none→H' a=some (.lst vs)→RepL K F' xs vs→Q (.ref a) H'
theorem Wv.go {K:PySem.W.Frag} {F H F' H':Hp} {r:PV} {Q:VK} (w:Wv K F H r Q) (g:Grow F H F' H'):Wv K F' H' r Q:=fun v H2 F2 g2=>w v H2 F2 (g.trans g2)
theorem Wo.go {K:PySem.W.Frag} {F H F' H':Hp} {r:List PV} {Q:VK} (w:Wo K F H r Q) (g:Grow F H F' H'):Wo K F' H' r Q:=fun a vs H2 F2 g2 n=>w a vs H2 F2 (g.trans g2) (g.same.free n)
theorem Wv.of_lst {K:PySem.W.Frag} {F H:Hp} {xs:List PV} {Q:VK} (w:Wv K F H (.lst xs) Q):Wo K F H xs Q:=by
  intro a vs H' F' g n nF e r
  have gx:Same F' (upd F' a (.lst vs)):=fun b u q=>by rw [Qt (Qu q nF)];exact q
  refine w (.ref a) H' (upd F' a (.lst vs)) ⟨g.ext.trans gx,fun b u q => ?_,g.same,fun b u q => ?_⟩ ?_
  · by_cases z:b=a
    · subst z;rw [Qv] at q;rw [e];exact q
    · rw [Qt z] at q;exact g.sub b u q
  · by_cases z:b=a
    · subst z;exact .inr n
    · rw [Qt z] at q;exact g.new b u q
  · unfold Rep
    exact ⟨a,vs,rfl,.of Qv,r.mono gx⟩
theorem Wv.here {K:PySem.W.Frag} {F H:Hp} {r:PV} {Q:VK} {v:V} (w:Wv K F H r Q) (h:Same F H) (q:Rep K F r v):Q v H:=w v H F (.refl h) q

noncomputable abbrev MEx:=PEnv→Option PV
noncomputable def tM (K:PySem.W.Frag) (ms:List Nat) (m:MEx):TE:=fun σ H Q=>∃ F γ r,Same F H∧ERep K F σ γ ms∧m γ=some r∧Wv K F H r Q
noncomputable def tMO (K:PySem.W.Frag) (ms:List Nat) (m:PEnv→Option (List PV)):TE:=fun σ H Q=>∃ F γ r,Same F H∧ERep K F σ γ ms∧m γ=some r∧Wo K F H r Q
noncomputable def tMT (K:PySem.W.Frag) (ms:List Nat) (m:PEnv→Option Bool):TT:=fun σ H Q=>∃ F γ r,Same F H∧ERep K F σ γ ms∧m γ=some r∧∀ H' F',Grow F H F' H'→Q r H'
noncomputable def tMA (K:PySem.W.Frag) (ms:List Nat) (m:PEnv→Option (List PV)):TA:=fun σ H Q=>∃ F γ r,Same F H∧ERep K F σ γ ms∧m γ=some r∧∀ vs H' F',Grow F H F' H'→RepL K F' r vs→Q vs H'
noncomputable def EM (X:Cx) (ms:List Nat) (e:Expr) (m:MEx):Prop:=PE X e (tM X.K ms m)
noncomputable def EO (X:Cx) (ms:List Nat) (e:Expr) (m:PEnv→Option (List PV)):Prop:=PE X e (tMO X.K ms m)
noncomputable def TM (X:Cx) (ms:List Nat) (e:Expr) (m:PEnv→Option Bool):Prop:=PT X e (tMT X.K ms m)
noncomputable def AM (X:Cx) (ms:List Nat) (es:List Expr) (m:PEnv→Option (List PV)):Prop:=PA X es (tMA X.K ms m)

section
variable {X:Cx} {e a b:Expr} {es:List Expr} {ms ns:List Nat} {m m1 m2:MEx} {pos:Pos}
theorem _root_.L2.PE.imp {t t':TE} (h:PE X e t) (i:∀ σ H Q,t' σ H Q→t σ H Q):PE X e t':=fun pins s σ H Q I q=>h pins s σ H Q I (i σ H Q q)
theorem _root_.L2.PT.imp {t t':TT} (h:PT X e t) (i:∀ σ H Q,t' σ H Q→t σ H Q):PT X e t':=fun pins s σ H Q I q=>h pins s σ H Q I (i σ H Q q)
theorem _root_.L2.PA.imp {t t':TA} (h:PA X es t) (i:∀ σ H Q,t' σ H Q→t σ H Q):PA X es t':=fun pos pins s σ H Q I q=>h pos pins s σ H Q I (i σ H Q q)
theorem _root_.L2.PS.imp {st:Stmt} {t t':TS} (h:PS X st t) (i:∀ D σ H,t' D σ H→t D σ H):PS X st t':=fun pins s σ H D I q=>h pins s σ H D I (i D σ H q)

noncomputable def mLst (m:PEnv→Option (List PV)):MEx:=fun γ=>(m γ).map PV.lst
theorem EO.em {m:PEnv→Option (List PV)} (h:EO X ms e m):EM X ms e (mLst m):=PE.imp h fun σ H Q ⟨F,γ,r,h1,h2,h3,w⟩=>by
  unfold mLst at h3
  cases q:m γ with
  | none=>rw [q] at h3;cases h3
  | some xs =>
    rw [q] at h3
    cases h3
    exact ⟨F,γ,xs,h1,h2,q,w.of_lst⟩

noncomputable def mVar (i:Nat):MEx:=fun γ=>getV γ i
noncomputable def mC (p:PV):MEx:=fun _=>some p
theorem Qa (i:Nat) {x:Str} (h:PE X (.Name x pos) (tVar i)):EM X [i] (.Name x pos) (mVar i):=PE.imp h fun σ H Q ⟨F,γ,r,h1,h2,h3,w⟩=>by
  obtain ⟨v,e1,e2⟩:=h2 i (by simp) r h3
  exact ⟨v,e1,w.here h1 e2⟩
theorem Qi {i j pos}:EM X [] (.Constant (.int i) j pos) (mC (.int i)):=PE.imp pe_int fun σ H Q ⟨F,γ,r,h1,h2,h3,w⟩=>by
  cases h3;exact w.here h1 (by unfold Rep;rfl)
theorem Ym {i j pos}:EM X [] (.Constant (.bool i) j pos) (mC (.bl i)):=PE.imp pe_bl fun σ H Q ⟨F,γ,r,h1,h2,h3,w⟩=>by
  cases h3;exact w.here h1 (by unfold Rep;rfl)
theorem QeI {j pos}:EM X [] (.Constant .none j pos) (mC .non):=PE.imp pe_non fun σ H Q ⟨F,γ,r,h1,h2,h3,w⟩=>by
  cases h3;exact w.here h1 (by unfold Rep;rfl)
theorem QaM {i j pos}:EM X [] (.Constant (.str i) j pos) (mC (.str i)):=PE.imp pe_str fun σ H Q ⟨F,γ,r,h1,h2,h3,w⟩=>by
  cases h3;exact w.here h1 (by unfold Rep;rfl)

noncomputable def rM2 (K:PySem.W.Frag) (f:PV→PV→Option PV):R2:=fun x y H Q=>∃ F p q r,Same F H∧Rep K F p x∧Rep K F q y∧f p q=some r∧Wv K F H r Q
noncomputable def rM2O (K:PySem.W.Frag) (f:PV→PV→Option (List PV)):R2:=fun x y H Q=>∃ F p q r,Same F H∧Rep K F p x∧Rep K F q y∧f p q=some r∧Wo K F H r Q
noncomputable def bin2 (f:PV→PV→Option α) (m1 m2:MEx):PEnv→Option α:=fun γ=>(m1 γ).bind fun x=>(m2 γ).bind fun y=>f x y
theorem QfW {K:PySem.W.Frag} {f:PV→PV→Option PV} {σ:St} {H:Hp} {Q:VK} (h:tM K (ms++ns) (bin2 f m1 m2) σ H Q):tOp (rM2 K f) (tM K ms m1) (tM K ns m2) σ H Q:=by
  obtain ⟨F,γ,r,h1,h2,h3,w⟩:=h
  unfold bin2 at h3
  cases e1:m1 γ with
  | none=>rw [e1] at h3;cases h3
  | some x =>
    cases e2:m2 γ with
    | none=>rw [e1,e2] at h3;cases h3
    | some y =>
      rw [e1,e2] at h3
      refine ⟨F,γ,x,h1,h2.left,e1,fun vx H1 F1 g1 r1=>⟨F1,γ,y,g1.sub,h2.right.mono g1.ext,e2,fun vy H2 F2 g2 r2 => ?_⟩⟩
      exact ⟨F2,x,y,r,g2.sub,r1.mono g2.ext,r2,h3,w.go (g1.trans g2)⟩
theorem tOpO_of {K:PySem.W.Frag} {f:PV→PV→Option (List PV)} {σ:St} {H:Hp} {Q:VK} (h:tMO K (ms++ns) (bin2 f m1 m2) σ H Q):tOp (rM2O K f) (tM K ms m1) (tM K ns m2) σ H Q:=by
  obtain ⟨F,γ,r,h1,h2,h3,w⟩:=h
  unfold bin2 at h3
  cases e1:m1 γ with
  | none=>rw [e1] at h3;cases h3
  | some x =>
    cases e2:m2 γ with
    | none=>rw [e1,e2] at h3;cases h3
    | some y =>
      rw [e1,e2] at h3
      refine ⟨F,γ,x,h1,h2.left,e1,fun vx H1 F1 g1 r1=>⟨F1,γ,y,g1.sub,h2.right.mono g1.ext,e2,fun vy H2 F2 g2 r2 => ?_⟩⟩
      exact ⟨F2,x,y,r,g2.sub,r1.mono g2.ext,r2,h3,w.go (g1.trans g2)⟩
noncomputable def OpM (X:Cx) (g:Value→Value→Sem Value) (f:PV→PV→Option PV):Prop:=OpR X g (rM2 X.K f)
noncomputable def OpO (X:Cx) (g:Value→Value→Sem Value) (f:PV→PV→Option (List PV)):Prop:=OpR X g (rM2O X.K f)
theorem Qr {op:Operator} {f:PV→PV→Option PV} (ho:OpM X (binaryOp op) f) (ha:EM X ms a m1) (hb:EM X ns b m2):EM X (ms++ns) (.BinOp a op b pos) (bin2 f m1 m2) :=
  PE.imp (pe_op ho ha hb) fun _ _ _ h=>QfW h
theorem Qkt {op:Operator} {f:PV→PV→Option (List PV)} (ho:OpO X (binaryOp op) f) (ha:EM X ms a m1) (hb:EM X ns b m2):EO X (ms++ns) (.BinOp a op b pos) (bin2 f m1 m2) :=
  PE.imp (pe_op ho ha hb) fun _ _ _ h=>tOpO_of h
theorem Qgj {op:CmpOp} {f:PV→PV→Option PV} (ho:OpM X (compareOp op) f) (ha:EM X ms a m1) (hb:EM X ns b m2) (hm:behindInMarks op b=false):EM X (ms++ns) (.Compare a [op] [b] pos) (bin2 f m1 m2) :=
  PE.imp (pe_cmpR ho ha hb hm) fun _ _ _ h=>QfW h
theorem QY {f:PV→PV→Option PV} (ho:IxR X (rM2 X.K f)) (ha:EM X ms a m1) (hb:EM X ns b m2) (hs:Qjm b):EM X (ms++ns) (.Subscript a b pos) (bin2 f m1 m2) :=
  PE.imp (pe_ix ho ha hb hs) fun _ _ _ h=>QfW h

noncomputable def isB:PV→Option Bool
  | .bl b=>some b
  | _=>none
noncomputable def truB (m:MEx):PEnv→Option Bool:=fun γ=>(m γ).bind isB
theorem QgN {K:PySem.W.Frag} {t:TE} {σ:St} {H:Hp} {Q:Bool→Hp→Prop} (ht:∀ Q,tM K ms m σ H Q→t σ H Q) (h:tMT K ms (truB m) σ H Q):tTest t σ H Q:=by
  obtain ⟨F,γ,r,h1,h2,h3,w⟩:=h
  unfold truB at h3
  cases e1:m γ with
  | none=>rw [e1] at h3;cases h3
  | some x =>
    rw [e1] at h3
    cases x with
    | bl b =>
      obtain rfl:b=r:=Option.some.inj h3
      refine ht _ ⟨F,γ,.bl b,h1,h2,e1,fun v H' F' g q => ?_⟩
      unfold Rep at q
      exact ⟨b,q,w H' F' g⟩
    | _=>cases h3
theorem QG {op:CmpOp} {f:PV→PV→Option PV} (ho:OpM X (compareOp op) f) (ha:EM X ms a m1) (hb:EM X ns b m2) (hm:behindInMarks op b=false):TM X (ms++ns) (.Compare a [op] [b] pos) (truB (bin2 f m1 m2)) :=
  PT.imp (pt_cmpR ho ha hb hm) fun _ _ _ h=>QgN (fun _=>QfW) h
end
end L2.PM

noncomputable section
namespace L2.PM
open PySem PySem.Spec PyProof.Rows

noncomputable abbrev LIM:Nat:=1000000
theorem Yz:LIM≤sizeLine:=by decide
theorem Zo {α:Type} {c:Prop} [Decidable c] {a r:α} (h:(if c then some a else none)=some r):c∧a=r:=by
  by_cases k:c
  · rw [if_pos k] at h;exact ⟨k,Option.some.inj h⟩
  · rw [if_neg k] at h;cases h

section
variable {X:Cx}
noncomputable def iop (C:Int→Int→Bool) (g:Int→Int→PV):PV→PV→Option PV
  | .int i,.int j=>if C i j=true then some (g i j) else none
  | _,_=>none
theorem Qje {C:Int→Int→Bool} {g:Int→Int→PV} {p q r:PV} (h:iop C g p q=some r):∃ i j,p = .int i∧q = .int j∧C i j=true∧r=g i j:=by
  cases p <;> cases q <;> first
    | (exfalso;cases h;done)
    | (rename_i i j
       have h:(if C i j=true then some (g i j) else none)=some r:=h
       obtain ⟨c,e⟩:=Zo h
       exact ⟨i,j,rfl,rfl,c,e.symm⟩)
theorem Qis {f:Value→Value→Sem Value} {C':Int→Int→Prop} {C:Int→Int→Bool} {g:Int→Int→PV} {gv:Int→Int→V} (ho:OpR X f (rI C' gv)) (hc:∀ i j,C i j=true→C' i j) (hg:∀ i j K F,Rep K F (g i j) (gv i j)):OpM X f (iop C g):=by
  intro pins s σ H x y v u Q I rx ry h
  obtain ⟨F,p,q,r,h1,h2,h3,h4,w⟩:=h
  obtain ⟨i,j,rfl,rfl,c,rfl⟩:=Qje h4
  unfold Rep at h2 h3
  exact ho pins s σ H x y v u Q I rx ry ⟨i,j,h2,h3,hc i j c,w.here h1 (hg i j _ _)⟩
theorem Qcp {f:Value→Value→Sem Value} {g:Int→Int→PV} {gv:Int→Int→V} (ho:OpR X f (rI0 gv)) (hg:∀ i j K F,Rep K F (g i j) (gv i j)):OpM X f (iop (fun _ _=>true) g):=by
  intro pins s σ H x y v u Q I rx ry h
  obtain ⟨F,p,q,r,h1,h2,h3,h4,w⟩:=h
  obtain ⟨i,j,rfl,rfl,c,rfl⟩:=Qje h4
  unfold Rep at h2 h3
  exact ho pins s σ H x y v u Q I rx ry ⟨i,j,h2,h3,w.here h1 (hg i j _ _)⟩
theorem QV {K:PySem.W.Frag} {F:Hp} (i:Int):Rep K F (.int i) (.int i):=by unfold Rep;rfl
theorem ZS {K:PySem.W.Frag} {F:Hp} (i:Bool):Rep K F (.bl i) (.bl i):=by unfold Rep;rfl
theorem QiR {K:PySem.W.Frag} {F:Hp} (i:Str):Rep K F (.str i) (.str i):=by unfold Rep;rfl
theorem QiS {K:PySem.W.Frag} {F:Hp}:Rep K F .non .non:=by unfold Rep;rfl
noncomputable def pSub:=iop (fun _ _=>true) fun i j => .int (i - j)
noncomputable def cls (p:Prop):Bool := @decide p (Classical.propDecidable p)
theorem QcH {p:Prop} (h:cls p=true):p := @of_decide_eq_true p (Classical.propDecidable p) h
theorem QeK {p:Prop} (h:p):cls p=true := @decide_eq_true p (Classical.propDecidable p) h
noncomputable def cMul (i j:Int):Bool:=cls (-(2 ^ 64) < i∧i < 2 ^ 64)||cls (-(2 ^ 64) < j∧j < 2 ^ 64)
noncomputable def cDiv (_ j:Int):Bool:=cls (0 < j∧j < 2 ^ 200)
noncomputable def cPos (_ j:Int):Bool:=decide (0 < j)
noncomputable def cNn (_ j:Int):Bool:=decide (0≤j)
noncomputable def cPow (i j:Int):Bool:=cls (0≤j∧j≤1000000∧i.natAbs < 2 ^ 64)
noncomputable def pMul:=iop cMul fun i j => .int (i * j)
noncomputable def pDiv:=iop cDiv fun i j => .int (i / j)
noncomputable def pMod:=iop cPos fun i j => .int (i % j)
noncomputable def pShl:=iop cPow fun i j => .int (i * 2 ^ j.toNat)
noncomputable def pShr:=iop cNn fun i j => .int (i / 2 ^ j.toNat)
noncomputable def pAnd:=iop (fun _ _=>true) fun i j => .int (Builtin.bitAnd i j)
noncomputable def pOr:=iop (fun _ _=>true) fun i j => .int (Builtin.bitOr i j)
noncomputable def pLt:=iop (fun _ _=>true) fun i j => .bl (decide (i < j))
noncomputable def pLe:=iop (fun _ _=>true) fun i j => .bl (decide (i≤j))
noncomputable def pGt:=iop (fun _ _=>true) fun i j => .bl (decide (j < i))
theorem Qgc:OpM X (binaryOp .Sub) pSub:=Qcp op_sub fun _ _ _ _=>QV _
theorem cMul_ok {i j:Int} (h:cMul i j=true):CMul i j:=by
  unfold cMul at h
  rw [Bool.or_eq_true] at h
  exact h.imp QcH QcH
theorem Xz:OpM X (binaryOp .Mult) pMul:=Qis op_mul (fun _ _ h=>cMul_ok h) fun _ _ _ _=>QV _
theorem div_log {j:Int} (h0:0 < j) (h:j < 2 ^ 200):j.natAbs.log2 < 9000:=by
  have h1:j.natAbs < 2 ^ 200:=by omega
  have h2:j.natAbs.log2 < 200:=(Nat.log2_lt (by omega)).mpr h1
  omega
theorem op_fdivL:OpR X (binaryOp .FloorDiv) (rI (fun _ j=>0 < j∧j < 2 ^ 200) fun i j => .int (i / j)):=opI fun i j _ _ _ _ _ hc q=>by
  have h1:(0:Int) < j:=hc.1
  exact floordiv_int (by omega) (by rw [Int.fdiv_eq_ediv_of_nonneg i (by omega)];exact q) (.inl (PyProof.noPylong_of_log2 (div_log h1 hc.2)))
theorem om_div:OpM X (binaryOp .FloorDiv) pDiv:=Qis op_fdivL (fun _ _ h=>QcH h) fun _ _ _ _=>QV _
theorem ZN:OpM X (binaryOp .Mod) pMod:=Qis op_mod (fun _ _ h=>of_decide_eq_true h) fun _ _ _ _=>QV _
theorem QaJ:OpM X (binaryOp .LShift) pShl:=Qis op_shl (fun i j h=>QcH (p:=0≤j∧j≤1000000∧i.natAbs < 2 ^ 64) h) fun _ _ _ _=>QV _
theorem QiB:OpM X (binaryOp .RShift) pShr:=Qis op_shr (fun _ _ h=>of_decide_eq_true h) fun _ _ _ _=>QV _
theorem QbF:OpM X (binaryOp .BitAnd) pAnd:=Qcp op_and fun _ _ _ _=>QV _
theorem om_or:OpM X (binaryOp .BitOr) pOr:=Qcp op_or fun _ _ _ _=>QV _
theorem om_ior:OpM X (inplaceOp .BitOr) pOr:=Qcp iop_or fun _ _ _ _=>QV _
theorem Qfu:OpM X (compareOp .Lt) pLt:=Qcp op_lt fun _ _ _ _=>ZS _
theorem om_le:OpM X (compareOp .LtE) pLe:=Qcp op_le fun _ _ _ _=>ZS _
theorem Qit:OpM X (compareOp .Gt) pGt:=Qcp op_gt fun _ _ _ _=>ZS _
theorem op_catS:OpR X (binaryOp .Add) (fun x y H Q=>∃ l b xs zs,x = .ref l∧y = .ref b∧SqL X.K H l xs∧SqL X.K H b zs∧xs.length + zs.length≤sizeLine∧∀ p,H p=none→Q (.ref p) (upd H p (.lst (xs++zs)))):=by
  intro pins s σ H x y v u Q I rx ry h
  obtain ⟨l,b,xs,zs,rfl,rfl,hH,hB,hz,q⟩:=h
  cases rx
  cases ry
  obtain ⟨its,r,⟨⟨cls,dd,data,sl⟩,n,e,c,_,d⟩,_⟩:=I.list hH
  obtain ⟨its2,r2,⟨⟨cls2,dd2,data2,sl2⟩,n2,e2,c2,_,d2⟩,_⟩:=I.list hB
  simp only at c d c2 d2
  subst c d c2 d2
  have hsz:its.toArray.size + its2.toArray.size≤sizeLine:=by rw [List.size_toArray,List.size_toArray,← r.length,← r2.length];exact hz
  have ea:its.toArray++its2.toArray=(its++its2).toArray:=by simp
  refine concat_meets ⟨_,e,rfl⟩ ⟨_,e2,rfl⟩ noFill_list_add seq_list_add PySem.F.slot_list_add PySem.F.entry_list_add (PySem.F.args_list_add_2 _ _)
    (list_addW l b its.toArray its2.toArray n n2 dd dd2 sl sl2 hsz) ⟨e,e2,?_⟩
  rw [ea]
  exact ⟨.ref _,_,I.lnew (t':=s.toks) (r.append r2) (by rw [List.length_append];omega),rfl,q _ I.fresh⟩
noncomputable def pCat:PV→PV→Option (List PV)
  | .lst a,.lst b=>if a.length + b.length≤LIM then some (a++b) else none
  | _,_=>none
theorem Qgb:OpO X (binaryOp .Add) pCat:=by
  intro pins s σ H x y v u Q I rx ry h
  obtain ⟨F,p,q,r,h1,h2,h3,h4,w⟩:=h
  cases p <;> cases q <;> first
    | (exfalso;cases h4;done)
    | skip
  rename_i xs ys
  have h4:(if xs.length + ys.length≤LIM then some (xs++ys) else none)=some r:=h4
  obtain ⟨c,rfl⟩:=Zo h4
  unfold Rep at h2 h3
  obtain ⟨a,vs,rfl,sa,ra⟩:=h2
  obtain ⟨b,us,rfl,sb,rb⟩:=h3
  refine op_catS pins s σ H _ _ v u Q I rx ry ⟨a,b,vs,us,rfl,rfl,h1.seq sa,h1.seq sb,by rw [ra.length,rb.length];exact Nat.le_trans c Yz,fun p hp => ?_⟩
  have nF:F p=none:=h1.free hp
  exact w p _ _ F (.side h1 hp) hp nF Qv (ra.append rb)
noncomputable def pAdd:PV→PV→Option PV
  | .int i,.int j=>some (.int (i + j))
  | .str a,.str b=>if a.length + b.length≤LIM then some (.str (a++b)) else none
  | _,_=>none
theorem Zq:OpM X (binaryOp .Add) pAdd:=by
  intro pins s σ H x y v u Q I rx ry h
  obtain ⟨F,p,q,r,h1,h2,h3,h4,w⟩:=h
  cases p <;> cases q <;> first
    | (exfalso;cases h4;done)
    | skip
  · cases h4
    unfold Rep at h2 h3
    exact op_add pins s σ H x y v u Q I rx ry ⟨_,_,h2,h3,w.here h1 (QV _)⟩
  · rename_i a b
    have h4:(if a.length + b.length≤LIM then some (PV.str (a++b)) else none)=some r:=h4
    obtain ⟨c,rfl⟩:=Zo h4
    unfold Rep at h2 h3
    exact QhN pins s σ H x y v u Q I rx ry ⟨_,_,h2,h3,Nat.le_trans c Yz,w.here h1 (QiR _)⟩
end
end L2.PM

noncomputable section
namespace L2.PM
open PySem PySem.Spec PyProof.Rows

mutual
noncomputable def peq:PV→PV→Bool
  | .non,.non=>true
  | .bl a,.bl b=>a==b
  | .bl a,.int b=>(if a then 1 else 0)==b
  | .int a,.bl b=>a==(if b then 1 else 0)
  | .int a,.int b=>a==b
  | .str a,.str b=>a==b
  | .tup xs,.tup ys=>peqL xs ys
  | .lst xs,.lst ys=>peqL xs ys
  | .obj C ks ps,.obj D ls qs=>(C==D&&ks==ls)&&peqL ps qs
  | .opq a,.opq b=>a==b
  | _,_=>false
noncomputable def peqL:List PV→List PV→Bool
  | [],[]=>true
  | x :: xs,y :: ys=>peq x y&&peqL xs ys
  | _,_=>false
end
mutual
noncomputable def dep:PV→Nat
  | .tup xs=>depL xs + 1
  | .lst xs=>depL xs + 1
  | .obj _ _ _=>1000
  | .opq _=>1000
  | _=>0
noncomputable def depL:List PV→Nat
  | []=>0
  | x :: xs=>max (dep x) (depL xs)
end
theorem Qba:∀ {xs:List PV} {j:Nat} {p:PV},xs[j]?=some p→dep p≤depL xs
  | [],_,_,e=>by simp at e
  | x :: xs,0,p,e=>by
    simp at e;subst e
    unfold depL
    exact Nat.le_max_left _ _
  | x :: xs,j + 1,p,e=>by
    have:=Qba (xs:=xs) (j:=j) (by simpa using e)
    unfold depL
    exact Nat.le_trans this (Nat.le_max_right _ _)
mutual
theorem QgW:∀ p:PV,peq p p=true
  | .non=>rfl
  | .bl a=>by show (a==a)=true;simp
  | .int a=>by show (a==a)=true;simp
  | .str a=>by show (a==a)=true;simp
  | .tup xs=>Xg xs
  | .lst xs=>Xg xs
  | .obj C ks ps=>by show ((C==C&&ks==ks)&&peqL ps ps)=true;rw [Xg ps];simp
  | .opq a=>by show (a==a)=true;simp
theorem Xg:∀ xs:List PV,peqL xs xs=true
  | []=>by first | rfl | simp [peqL]
  | x :: xs=>by
    first | rw [show peqL (x :: xs) (y :: ys)=(peq x y&&peqL xs ys) from rfl] | rw [show peqL (x :: xs) (x :: xs)=(peq x x&&peqL xs xs) from rfl]
    rw [QgW x,Xg xs]
    rfl
end
noncomputable def eAt (xs ys:List PV) (j:Nat):Bool:=match xs[j]?,ys[j]? with
  | some p,some q=>peq p q
  | _,_=>true
theorem Qdz (n:Nat) (e:Nat→Bool):(List.range (n + 1)).all e=(e 0&&(List.range n).all fun j=>e (j + 1)):=by
  rw [List.range_succ_eq_map,List.all_cons,List.all_map]
  rfl
theorem Qak:∀ (xs ys:List PV),((List.range (min xs.length ys.length)).all (eAt xs ys)&&(xs.length==ys.length))=peqL xs ys
  | [],[]=>by first | rfl | simp [peqL]
  | [],y :: ys=>by first | rfl | simp [peqL]
  | x :: xs,[]=>by first | rfl | simp [peqL]
  | x :: xs,y :: ys=>by
    have ih:=Qak xs ys
    first | rw [show peqL (x :: xs) (y :: ys)=(peq x y&&peqL xs ys) from rfl] | rw [show peqL (x :: xs) (x :: xs)=(peq x x&&peqL xs xs) from rfl]
    rw [← ih]
    have e1:min (x :: xs).length (y :: ys).length=min xs.length ys.length + 1:=by
      simp only [List.length_cons];omega
    rw [e1,Qdz]
    have e2:eAt (x :: xs) (y :: ys) 0=peq x y:=by simp [eAt]
    have e3:(fun j=>eAt (x :: xs) (y :: ys) (j + 1))=eAt xs ys:=by
      funext j
      simp [eAt]
    have e4:((x :: xs).length==(y :: ys).length)=(xs.length==ys.length):=by
      rw [Bool.eq_iff_iff];simp
    rw [e2,e3,e4,Bool.and_assoc]

section
variable {X:Cx} {pins:List (Addr×Obj)} {σ:St} {H F:Hp} {s:Shared}
mutual
theorem Rep.inj (I:Inv X pins σ H s) (hF:Same F H):∀ {p q:PV} {v:V},dep p < 1000→dep q < 1000→Rep X.K F p v→Rep X.K F q v→p=q
  | .non,q,v,_,dq,h,k=>by
    unfold Rep at h;subst h
    cases q <;> unfold Rep at k <;> first | rfl | (cases k;done) | (obtain ⟨_,_,k,_⟩:=k;cases k;done) | (obtain ⟨_,_,_,k,_⟩:=k;cases k;done)
  | .bl b,q,v,_,dq,h,k=>by
    unfold Rep at h;subst h
    cases q <;> unfold Rep at k <;> first | (cases k;done) | (cases k;rfl) | (obtain ⟨_,_,k,_⟩:=k;cases k;done) | (obtain ⟨_,_,_,k,_⟩:=k;cases k;done)
  | .int b,q,v,_,dq,h,k=>by
    unfold Rep at h;subst h
    cases q <;> unfold Rep at k <;> first | (cases k;done) | (cases k;rfl) | (obtain ⟨_,_,k,_⟩:=k;cases k;done) | (obtain ⟨_,_,_,k,_⟩:=k;cases k;done)
  | .str b,q,v,_,dq,h,k=>by
    unfold Rep at h;subst h
    cases q <;> unfold Rep at k <;> first | (cases k;done) | (cases k;rfl) | (obtain ⟨_,_,k,_⟩:=k;cases k;done) | (obtain ⟨_,_,_,k,_⟩:=k;cases k;done)
  | .tup xs,q,v,dp,dq,h,k=>by
    unfold Rep at h
    obtain ⟨a,vs,rfl,h2,h3⟩:=h
    cases q with
    | tup ys =>
      unfold Rep at k
      obtain ⟨b,us,e,k2,k3⟩:=k
      cases e
      have e:=I.tuple_inj (hF.seqT h2) (hF.seqT k2)
      subst e
      unfold dep at dp dq
      rw [RepL.inj I hF (by omega) (by omega) h3 k3]
    | lst ys =>
      unfold Rep at k
      obtain ⟨b,us,e,k2,k3⟩:=k
      cases e
      obtain ⟨its,_,p1,_⟩:=I.tuple (hF.seqT h2)
      obtain ⟨its2,_,p2,_⟩:=I.list (hF.seq k2)
      exact absurd rfl (PySem.SeqAt.ne_of_list_tuple p2.isList p1)
    | obj C ks ps=>unfold dep at dq;omega
    | opq b=>unfold dep at dq;omega
    | _=>unfold Rep at k;cases k
  | .lst xs,q,v,dp,dq,h,k=>by
    unfold Rep at h
    obtain ⟨a,vs,rfl,h2,h3⟩:=h
    cases q with
    | lst ys =>
      unfold Rep at k
      obtain ⟨b,us,e,k2,k3⟩:=k
      cases e
      have e:=I.list_inj (hF.seq h2) (hF.seq k2)
      subst e
      unfold dep at dp dq
      rw [RepL.inj I hF (by omega) (by omega) h3 k3]
    | tup ys =>
      unfold Rep at k
      obtain ⟨b,us,e,k2,k3⟩:=k
      cases e
      obtain ⟨its,_,p1,_⟩:=I.list (hF.seq h2)
      obtain ⟨its2,_,p2,_⟩:=I.tuple (hF.seqT k2)
      exact absurd rfl (PySem.SeqAt.ne_of_list_tuple p1.isList p2)
    | obj C ks ps=>unfold dep at dq;omega
    | opq b=>unfold dep at dq;omega
    | _=>unfold Rep at k;cases k
  | .obj C ks ps,q,v,dp,dq,h,k=>by unfold dep at dp;omega
  | .opq a,q,v,dp,dq,h,k=>by unfold dep at dp;omega
theorem RepL.inj (I:Inv X pins σ H s) (hF:Same F H):∀ {ps qs:List PV} {vs:List V},depL ps < 1000→depL qs < 1000→RepL X.K F ps vs→RepL X.K F qs vs→ps=qs
  | [],qs,vs,dp,dq,h,k=>by
    unfold RepL at h;subst h
    cases qs with
    | nil=>rfl
    | cons q qs=>unfold RepL at k;obtain ⟨_,_,k,_⟩:=k;cases k
  | p :: ps,qs,vs,dp,dq,h,k=>by
    unfold RepL at h
    obtain ⟨v,r,rfl,h2,h3⟩:=h
    cases qs with
    | nil=>unfold RepL at k;cases k
    | cons q qs =>
      unfold RepL at k
      obtain ⟨v',r',e,k2,k3⟩:=k
      cases e
      unfold depL at dp dq
      rw [Rep.inj I hF (by omega) (by omega) h2 k2,RepL.inj I hF (by omega) (by omega) h3 k3]
end

theorem eqAt_rep (I:Inv X pins σ H s) (hF:Same F H):∀ (n:Nat) (A:Around) (p q:PV) (v u:V) (x y:Value),dep p≤n→n≤900→dep q < 1000→A.units + n < cLine→Rep X.K F p v→Rep X.K F q u→RelV v x→RelV u y→SeqAt.EqAt A s x y (peq p q):=by
  intro n
  induction n with
  | zero =>
    intro A p q v u x y hd hn hdq hu hp hq rx ry
    cases p with
    | tup xs=>unfold dep at hd;omega
    | lst xs=>unfold dep at hd;omega
    | obj C ks ps=>unfold dep at hd;omega
    | opq b=>unfold dep at hd;omega
    | non =>
      unfold Rep at hp;subst hp;cases rx
      cases q with
      | obj D ls qs=>unfold dep at hdq;omega
      | opq b=>unfold dep at hdq;omega
      | non=>unfold Rep at hq;subst hq;cases ry;exact SeqAt.EqAt.same _
      | bl b=>unfold Rep at hq;subst hq;cases ry;exact SeqAt.EqAt.none_bool b
      | int b=>unfold Rep at hq;subst hq;obtain ⟨t,rfl⟩:=ry;exact SeqAt.EqAt.none_int b t
      | str b=>unfold Rep at hq;subst hq;obtain ⟨t,rfl⟩:=ry;exact SeqAt.EqAt.none_str b t
      | tup ys =>
        unfold Rep at hq;obtain ⟨b,us,rfl,k2,k3⟩:=hq;cases ry
        obtain ⟨its,_,p1,_⟩:=I.tuple (hF.seqT k2)
        exact SeqAt.EqAt.none_tuple p1 (by omega)
      | lst ys =>
        unfold Rep at hq;obtain ⟨b,us,rfl,k2,k3⟩:=hq;cases ry
        obtain ⟨its,_,p1,_⟩:=I.list (hF.seq k2)
        exact SeqAt.EqAt.none_list p1.isList (by omega)
    | bl a =>
      unfold Rep at hp;subst hp;cases rx
      cases q with
      | obj D ls qs=>unfold dep at hdq;omega
      | opq b=>unfold dep at hdq;omega
      | non=>unfold Rep at hq;subst hq;cases ry;exact SeqAt.EqAt.bool_none a
      | bl b=>unfold Rep at hq;subst hq;cases ry;exact SeqAt.EqAt.bool_bool a b
      | int b=>unfold Rep at hq;subst hq;obtain ⟨t,rfl⟩:=ry;exact SeqAt.EqAt.bool_int a b t
      | str b=>unfold Rep at hq;subst hq;obtain ⟨t,rfl⟩:=ry;exact SeqAt.EqAt.bool_str a b t
      | tup ys =>
        unfold Rep at hq;obtain ⟨b,us,rfl,k2,k3⟩:=hq;cases ry
        obtain ⟨its,_,p1,_⟩:=I.tuple (hF.seqT k2)
        exact SeqAt.EqAt.bool_tuple a p1 (by omega)
      | lst ys =>
        unfold Rep at hq;obtain ⟨b,us,rfl,k2,k3⟩:=hq;cases ry
        obtain ⟨its,_,p1,_⟩:=I.list (hF.seq k2)
        exact SeqAt.EqAt.bool_list a p1.isList (by omega)
    | int a =>
      unfold Rep at hp;subst hp;obtain ⟨t',rfl⟩:=rx
      cases q with
      | obj D ls qs=>unfold dep at hdq;omega
      | opq b=>unfold dep at hdq;omega
      | non=>unfold Rep at hq;subst hq;cases ry;exact SeqAt.EqAt.int_none a t'
      | bl b=>unfold Rep at hq;subst hq;cases ry;exact SeqAt.EqAt.int_bool a t' b
      | int b=>unfold Rep at hq;subst hq;obtain ⟨t,rfl⟩:=ry;exact SeqAt.EqAt.int_int a t' b t
      | str b=>unfold Rep at hq;subst hq;obtain ⟨t,rfl⟩:=ry;exact SeqAt.EqAt.int_str a t' b t
      | tup ys =>
        unfold Rep at hq;obtain ⟨b,us,rfl,k2,k3⟩:=hq;cases ry
        obtain ⟨its,_,p1,_⟩:=I.tuple (hF.seqT k2)
        exact SeqAt.EqAt.int_tuple a t' p1 (by omega)
      | lst ys =>
        unfold Rep at hq;obtain ⟨b,us,rfl,k2,k3⟩:=hq;cases ry
        obtain ⟨its,_,p1,_⟩:=I.list (hF.seq k2)
        exact SeqAt.EqAt.int_list a t' p1.isList (by omega)
    | str a =>
      unfold Rep at hp;subst hp;obtain ⟨t',rfl⟩:=rx
      cases q with
      | obj D ls qs=>unfold dep at hdq;omega
      | opq b=>unfold dep at hdq;omega
      | non=>unfold Rep at hq;subst hq;cases ry;exact SeqAt.EqAt.str_none a t'
      | bl b=>unfold Rep at hq;subst hq;cases ry;exact SeqAt.EqAt.str_bool a t' b
      | int b=>unfold Rep at hq;subst hq;obtain ⟨t,rfl⟩:=ry;exact SeqAt.EqAt.str_int a t' b t
      | str b=>unfold Rep at hq;subst hq;obtain ⟨t,rfl⟩:=ry;exact SeqAt.EqAt.str_str a t' b t
      | tup ys =>
        unfold Rep at hq;obtain ⟨b,us,rfl,k2,k3⟩:=hq;cases ry
        obtain ⟨its,_,p1,_⟩:=I.tuple (hF.seqT k2)
        exact SeqAt.EqAt.str_tuple a t' p1 (by omega)
      | lst ys =>
        unfold Rep at hq;obtain ⟨b,us,rfl,k2,k3⟩:=hq;cases ry
        obtain ⟨its,_,p1,_⟩:=I.list (hF.seq k2)
        exact SeqAt.EqAt.str_list a t' p1.isList (by omega)
  | succ n ih =>
    intro A p q v u x y hd hn hdq hu hp hq rx ry
    by_cases hd0:dep p≤n
    · exact ih A p q v u x y hd0 (by omega) hdq (by omega) hp hq rx ry
    · have hN:A.units < cLine:=by omega
      cases p with
      | tup xs =>
        unfold Rep at hp
        obtain ⟨a,vs,rfl,h2,h3⟩:=hp
        cases rx
        have hdx:depL xs≤n:=by unfold dep at hd;omega
        obtain ⟨its,rv,p1,z1⟩:=I.tuple (hF.seqT h2)
        cases q with
        | obj D ls qs=>unfold dep at hdq;omega
        | opq b=>unfold dep at hdq;omega
        | non=>unfold Rep at hq;subst hq;cases ry;exact SeqAt.EqAt.tuple_none p1 hN
        | bl b=>unfold Rep at hq;subst hq;cases ry;exact SeqAt.EqAt.tuple_bool b p1 hN
        | int b=>unfold Rep at hq;subst hq;obtain ⟨t,rfl⟩:=ry;exact SeqAt.EqAt.tuple_int b t p1 hN
        | str b=>unfold Rep at hq;subst hq;obtain ⟨t,rfl⟩:=ry;exact SeqAt.EqAt.tuple_str b t p1 hN
        | lst ys =>
          unfold Rep at hq;obtain ⟨b,us,rfl,k2,k3⟩:=hq;cases ry
          obtain ⟨its2,_,p2,_⟩:=I.list (hF.seq k2)
          exact SeqAt.EqAt.tuple_list p1 p2.isList hN
        | tup ys =>
          unfold Rep at hq;obtain ⟨b,us,rfl,k2,k3⟩:=hq;cases ry
          obtain ⟨its2,ru,p2,z2⟩:=I.tuple (hF.seqT k2)
          change SeqAt.EqAt _ _ _ _ (peqL xs ys)
          by_cases hab:a=b
          · subst hab
            have e:=I.tuple_inj (hF.seqT h2) (hF.seqT k2)
            subst e
            rw [RepL.inj I hF (by omega) (by unfold dep at hdq;omega) h3 k3,Xg]
            exact SeqAt.EqAt.same _
          · have l1:its.toArray.size=xs.length:=by rw [List.size_toArray,← rv.length,h3.length]
            have l2:its2.toArray.size=ys.length:=by rw [List.size_toArray,← ru.length,k3.length]
            have key:=SeqAt.RcAt.tuples (A:=A) (s:=s) (e:=eAt xs ys) p1 p2 hN fun j j1 j2 => ?_
            · rw [l1,l2,Qak] at key
              exact SeqAt.EqAt.of_refs hab key
            · have j1':j < xs.length:=by rw [← l1];exact j1
              have j2':j < ys.length:=by rw [← l2];exact j2
              have e1:xs[j]?=some xs[j]:=by simp [j1']
              have e2:ys[j]?=some ys[j]:=by simp [j2']
              obtain ⟨v1,ev1,rp1⟩:=h3.get e1
              obtain ⟨v2,ev2,rp2⟩:=k3.get e2
              obtain ⟨w1,ew1,rw1⟩:=rv.get ev1
              obtain ⟨w2,ew2,rw2⟩:=ru.get ev2
              have q1:its.toArray[j]=w1:=by simpa using (List.getElem?_eq_some_iff.mp ew1).2
              have q2:its2.toArray[j]=w2:=by simpa using (List.getElem?_eq_some_iff.mp ew2).2
              have e3:eAt xs ys j=peq xs[j] ys[j]:=by unfold eAt;rw [e1,e2]
              rw [q1,q2,e3]
              exact ih A.in1 _ _ v1 v2 w1 w2 (Nat.le_trans (Qba e1) hdx) (by omega) (by have:=Qba e2;unfold dep at hdq;omega) (by show A.units + 1 + n < cLine;omega) rp1 rp2 rw1 rw2
      | lst xs =>
        unfold Rep at hp
        obtain ⟨a,vs,rfl,h2,h3⟩:=hp
        cases rx
        have hdx:depL xs≤n:=by unfold dep at hd;omega
        obtain ⟨its,rv,p1,z1⟩:=I.list (hF.seq h2)
        cases q with
        | obj D ls qs=>unfold dep at hdq;omega
        | opq b=>unfold dep at hdq;omega
        | non=>unfold Rep at hq;subst hq;cases ry;exact SeqAt.EqAt.list_none p1.isList hN
        | bl b=>unfold Rep at hq;subst hq;cases ry;exact SeqAt.EqAt.list_bool b p1.isList hN
        | int b=>unfold Rep at hq;subst hq;obtain ⟨t,rfl⟩:=ry;exact SeqAt.EqAt.list_int b t p1.isList hN
        | str b=>unfold Rep at hq;subst hq;obtain ⟨t,rfl⟩:=ry;exact SeqAt.EqAt.list_str b t p1.isList hN
        | tup ys =>
          unfold Rep at hq;obtain ⟨b,us,rfl,k2,k3⟩:=hq;cases ry
          obtain ⟨its2,_,p2,_⟩:=I.tuple (hF.seqT k2)
          exact SeqAt.EqAt.list_tuple p1.isList p2 hN
        | lst ys =>
          unfold Rep at hq;obtain ⟨b,us,rfl,k2,k3⟩:=hq;cases ry
          obtain ⟨its2,ru,p2,z2⟩:=I.list (hF.seq k2)
          change SeqAt.EqAt _ _ _ _ (peqL xs ys)
          by_cases hab:a=b
          · subst hab
            have e:=I.list_inj (hF.seq h2) (hF.seq k2)
            subst e
            rw [RepL.inj I hF (by omega) (by unfold dep at hdq;omega) h3 k3,Xg]
            exact SeqAt.EqAt.same _
          · have l1:its.toArray.size=xs.length:=by rw [List.size_toArray,← rv.length,h3.length]
            have l2:its2.toArray.size=ys.length:=by rw [List.size_toArray,← ru.length,k3.length]
            by_cases hl:xs.length=ys.length
            · have key:=SeqAt.RcAt.lists (A:=A) (s:=s) (e:=eAt xs ys) p1.isList p2.isList (by rw [l1,l2,hl]) hN fun j j1 j2 => ?_
              · have e5:=Qak xs ys
                rw [← hl,Nat.min_self,beq_self_eq_true,Bool.and_true] at e5
                rw [l1,e5] at key
                exact SeqAt.EqAt.of_refs hab key
              · have j1':j < xs.length:=by rw [← l1];exact j1
                have j2':j < ys.length:=by rw [← l2];exact j2
                have e1:xs[j]?=some xs[j]:=by simp [j1']
                have e2:ys[j]?=some ys[j]:=by simp [j2']
                obtain ⟨v1,ev1,rp1⟩:=h3.get e1
                obtain ⟨v2,ev2,rp2⟩:=k3.get e2
                obtain ⟨w1,ew1,rw1⟩:=rv.get ev1
                obtain ⟨w2,ew2,rw2⟩:=ru.get ev2
                have q1:its.toArray[j]=w1:=by simpa using (List.getElem?_eq_some_iff.mp ew1).2
                have q2:its2.toArray[j]=w2:=by simpa using (List.getElem?_eq_some_iff.mp ew2).2
                have e3:eAt xs ys j=peq xs[j] ys[j]:=by unfold eAt;rw [e1,e2]
                rw [q1,q2,e3]
                exact ih A.in1 _ _ v1 v2 w1 w2 (Nat.le_trans (Qba e1) hdx) (by omega) (by have:=Qba e2;unfold dep at hdq;omega) (by show A.units + 1 + n < cLine;omega) rp1 rp2 rw1 rw2
            · have e5:=Qak xs ys
              rw [(beq_eq_false_iff_ne (a:=xs.length) (b:=ys.length)).mpr hl,Bool.and_false] at e5
              rw [← e5]
              exact SeqAt.EqAt.of_refs hab (SeqAt.RcAt.lists_lengths p1.isList p2.isList (by rw [l1,l2];simpa using hl) hN)
      | obj C ks ps=>unfold dep at hd;omega
      | opq b=>unfold dep at hd;omega
      | _=>unfold dep at hd0;omega

mutual
noncomputable def toD:PV→PyData
  | .non => .none
  | .bl b => .bool b
  | .int i => .int i
  | .str x => .str x
  | .tup xs => .tuple (toDL xs)
  | .lst xs => .list (toDL xs)
  | .obj _ _ _ => .none
  | .opq _ => .none
noncomputable def toDL:List PV→List PyData
  | []=>[]
  | x :: xs=>toD x :: toDL xs
end
mutual
noncomputable def okS:PV→Bool
  | .str x=>PyData.strOk x
  | .tup xs=>okSL xs
  | .lst xs=>okSL xs
  | _=>true
noncomputable def okSL:List PV→Bool
  | []=>true
  | x :: xs=>okS x&&okSL xs
end
noncomputable def okv (p:PV):Bool:=decide (dep p≤50)&&okS p
mutual
theorem QdP:∀ p:PV,okS p=true→(toD p).canLay0=true
  | .non,_=>by simp [toD,PyData.canLay0]
  | .bl _,_=>by simp [toD,PyData.canLay0]
  | .int _,_=>by simp [toD,PyData.canLay0]
  | .str x,h=>by simpa [toD,PyData.canLay0,okS] using h
  | .tup xs,h=>by
    unfold toD PyData.canLay0
    exact QaQ xs (by simpa [okS] using h)
  | .lst xs,h=>by
    unfold toD PyData.canLay0
    exact QaQ xs (by simpa [okS] using h)
  | .obj _ _ _,_=>by simp [toD,PyData.canLay0]
  | .opq _,_=>by simp [toD,PyData.canLay0]
theorem QaQ:∀ xs:List PV,okSL xs=true→PyData.canLayAll0 (toDL xs)=true
  | [],_=>by simp [toDL,PyData.canLayAll0]
  | x :: xs,h=>by
    unfold okSL at h
    rw [Bool.and_eq_true] at h
    unfold toDL PyData.canLayAll0
    rw [QdP x h.1,QaQ xs h.2]
    rfl
end
mutual
theorem Qfb:∀ p:PV,(toD p).depth≤dep p + 1
  | .non=>by simp [toD,PyData.depth]
  | .bl _=>by simp [toD,PyData.depth]
  | .int _=>by simp [toD,PyData.depth]
  | .str x=>by simp [toD,PyData.depth]
  | .tup xs=>by
    have:=QbP xs
    simp only [toD,PyData.depth,dep]
    omega
  | .lst xs=>by
    have:=QbP xs
    simp only [toD,PyData.depth,dep]
    omega
  | .obj _ _ _=>by simp [toD,PyData.depth]
  | .opq _=>by simp [toD,PyData.depth]
theorem QbP:∀ xs:List PV,PyData.depthAll (toDL xs)≤depL xs + 1
  | []=>by simp [toDL,PyData.depthAll]
  | x :: xs=>by
    have h1:=Qfb x
    have h2:=QbP xs
    simp only [toDL,PyData.depthAll,depL]
    omega
end
theorem Qaj {p:PV} (h:okv p=true):SeqAt.shaped (toD p)=true:=by
  unfold okv at h
  rw [Bool.and_eq_true,decide_eq_true_iff] at h
  have h1:=Qfb p
  unfold SeqAt.shaped
  rw [QdP p h.2,Bool.true_and,decide_eq_true_iff]
  omega
mutual
theorem QfS:∀ p q:PV,dep p < 1000→dep q < 1000→PyData.eqv (toD p) (toD q)=peq p q
  | .non,q,_,hq=>by cases q <;> first | (rfl;done) | (exfalso;unfold dep at hq;omega)
  | .bl _,q,_,hq=>by cases q <;> first | (rfl;done) | (exfalso;unfold dep at hq;omega)
  | .int _,q,_,hq=>by cases q <;> first | (rfl;done) | (exfalso;unfold dep at hq;omega)
  | .str _,q,_,hq=>by cases q <;> first | (rfl;done) | (exfalso;unfold dep at hq;omega)
  | .tup xs,q,hp,hq=>by
    cases q with
    | tup ys=>exact Qeh xs ys (by unfold dep at hp;omega) (by unfold dep at hq;omega)
    | obj=>exfalso;unfold dep at hq;omega
    | opq=>exfalso;unfold dep at hq;omega
    | _=>rfl
  | .lst xs,q,hp,hq=>by
    cases q with
    | lst ys=>exact Qeh xs ys (by unfold dep at hp;omega) (by unfold dep at hq;omega)
    | obj=>exfalso;unfold dep at hq;omega
    | opq=>exfalso;unfold dep at hq;omega
    | _=>rfl
  | .obj _ _ _,q,hp,_=>by exfalso;unfold dep at hp;omega
  | .opq _,q,hp,_=>by exfalso;unfold dep at hp;omega
theorem Qeh:∀ xs ys:List PV,depL xs < 1000→depL ys < 1000→PyData.eqvAll (toDL xs) (toDL ys)=peqL xs ys
  | [],[],_,_=>rfl
  | [],_ :: _,_,_=>rfl
  | _ :: _,[],_,_=>rfl
  | x :: xs,y :: ys,h1,h2=>by
    show (PyData.eqv (toD x) (toD y)&&PyData.eqvAll (toDL xs) (toDL ys))=(peq x y&&peqL xs ys)
    unfold depL at h1 h2
    rw [QfS x y (by omega) (by omega),Qeh xs ys (by omega) (by omega)]
end
mutual
theorem Rep.reads (I:Inv X pins σ H s) (hF:Same F H):∀ {p:PV} {v:V} {u:Value},dep p < 1000→Rep X.K F p v→RelV v u→∃ as,Reads s.heap u (toD p) as
  | .non,v,u,_,h,r=>by unfold Rep at h;subst h;cases r;exact ⟨_,by unfold toD;exact .none⟩
  | .bl b,v,u,_,h,r=>by unfold Rep at h;subst h;cases r;exact ⟨_,by unfold toD;exact .bool b⟩
  | .int b,v,u,_,h,r=>by unfold Rep at h;subst h;obtain ⟨t,rfl⟩:=r;exact ⟨_,by unfold toD;exact .int b t⟩
  | .str b,v,u,_,h,r=>by unfold Rep at h;subst h;obtain ⟨t,rfl⟩:=r;exact ⟨_,by unfold toD;exact .str b t⟩
  | .tup xs,v,u,hd',h,r=>by
    unfold Rep at h
    obtain ⟨a,vs,rfl,h2,h3⟩:=h
    cases r
    obtain ⟨its,rv,⟨o,ho,hc,n,hd⟩,_⟩:=I.tuple (hF.seqT h2)
    obtain ⟨as,ra⟩:=RepL.reads I hF (by unfold dep at hd';omega) h3 rv
    unfold toD
    exact ⟨_,.tuple ho hc hd (by simpa using ra)⟩
  | .lst xs,v,u,hd',h,r=>by
    unfold Rep at h
    obtain ⟨a,vs,rfl,h2,h3⟩:=h
    cases r
    obtain ⟨its,rv,⟨o,n,ho,hc,_,hd⟩,_⟩:=I.list (hF.seq h2)
    obtain ⟨as,ra⟩:=RepL.reads I hF (by unfold dep at hd';omega) h3 rv
    unfold toD
    exact ⟨_,.list ho hc hd (by simpa using ra)⟩
  | .obj _ _ _,v,u,hd',_,_=>by exfalso;unfold dep at hd';omega
  | .opq _,v,u,hd',_,_=>by exfalso;unfold dep at hd';omega
theorem RepL.reads (I:Inv X pins σ H s) (hF:Same F H):∀ {ps:List PV} {vs:List V} {us:List Value},depL ps < 1000→RepL X.K F ps vs→Vals vs us→∃ as,ReadsAll s.heap us (toDL ps) as
  | [],vs,us,_,h,r=>by
    unfold RepL at h;subst h;cases r
    exact ⟨[],by unfold toDL;exact .nil⟩
  | p :: ps,vs,us,hd',h,r=>by
    unfold depL at hd'
    unfold RepL at h
    obtain ⟨v,t,rfl,h2,h3⟩:=h
    cases r with
    | cons r1 r2 =>
      obtain ⟨a1,q1⟩:=Rep.reads I hF (by omega) h2 r1
      obtain ⟨a2,q2⟩:=RepL.reads I hF (by omega) h3 r2
      unfold toDL
      exact ⟨_,.cons q1 q2⟩
end
theorem QaK {p:PV} (h:okv p=true):dep p < 1000:=by
  unfold okv at h
  rw [Bool.and_eq_true,decide_eq_true_iff] at h
  omega
noncomputable def pEq (p q:PV):Option PV:=if okv p=true∧okv q=true then some (.bl (peq p q)) else none
noncomputable def pNe (p q:PV):Option PV:=if okv p=true∧okv q=true then some (.bl (!peq p q)) else none
theorem QaO (hu:X.A.units + 64 < cLine):OpM X (compareOp .Eq) pEq:=by
  intro pins s σ H x y v u Q I rx ry h
  obtain ⟨F,p,q,r,h1,h2,h3,h4,w⟩:=h
  obtain ⟨⟨c1,c2⟩,rfl⟩:=Zo h4
  obtain ⟨as,ra⟩:=Rep.reads I h1 (QaK c1) h2 rx
  obtain ⟨bs,rb⟩:=Rep.reads I h1 (QaK c2) h3 ry
  refine eq_dataH ra rb (Qaj c1) (Qaj c2) hu ?_
  rw [QfS _ _ (QaK c1) (QaK c2)]
  exact ⟨.bl _,H,I,rfl,w.here h1 (ZS _)⟩
theorem Qdo (hu:X.A.units + 64 < cLine):OpM X (compareOp .NotEq) pNe:=by
  intro pins s σ H x y v u Q I rx ry h
  obtain ⟨F,p,q,r,h1,h2,h3,h4,w⟩:=h
  obtain ⟨⟨c1,c2⟩,rfl⟩:=Zo h4
  obtain ⟨as,ra⟩:=Rep.reads I h1 (QaK c1) h2 rx
  obtain ⟨bs,rb⟩:=Rep.reads I h1 (QaK c2) h3 ry
  refine ne_dataH ra rb (Qaj c1) (Qaj c2) hu ?_
  rw [QfS _ _ (QaK c1) (QaK c2)]
  exact ⟨.bl _,H,I,rfl,w.here h1 (ZS _)⟩
end
end L2.PM

noncomputable section
namespace L2.PM
open PySem PySem.Spec PyProof.Rows

section
variable {X:Cx} {e a b c:Expr} {es:List Expr} {ms ns ls:List Nat} {m m1 m2 m3:MEx} {pos:Pos}
theorem Qjl:∀ {its:List Value} {xs:List PV} (f:PV→Bool),its.length=xs.length→∀ g:Value→Bool,(∀ (j:Nat) (u:Value) (p:PV),its[j]?=some u→xs[j]?=some p→g u=f p)→its.any g=xs.any f
  | [],[],_,_,_,_=>rfl
  | [],_ :: _,_,h,_,_=>by simp at h
  | _ :: _,[],_,h,_,_=>by simp at h
  | u :: us,p :: ps,f,h,g,k=>by
    rw [List.any_cons,List.any_cons,k 0 u p rfl rfl,Qjl f (by simpa using h) g fun j u p h1 h2=>k (j + 1) u p (by simpa using h1) (by simpa using h2)]
open Classical in
noncomputable def gOf (its:List Value) (xs:List PV) (x:PV) (u:Value):Bool:=if h:∃ (j:Nat) (p:PV),its[j]?=some u∧xs[j]?=some p then peq (Classical.choose (Classical.choose_spec h)) x else false
noncomputable def pIn:PV→PV→Option PV
  | x,.lst xs=>if okv x=true∧xs.all okv=true then some (.bl (xs.any fun y=>peq y x)) else none
  | x,.tup xs=>if okv x=true∧xs.all okv=true then some (.bl (xs.any fun y=>peq y x)) else none
  | _,_=>none
noncomputable def Xy (x y:PV):Option PV:=(pIn x y).bind fun r=>match r with
  | .bl b=>some (.bl (!b))
  | _=>none
theorem okv_dep {p:PV} (h:okv p=true):dep p≤50:=by
  unfold okv at h
  rw [Bool.and_eq_true,decide_eq_true_iff] at h
  exact h.1
theorem Qge {pins:List (Addr×Obj)} {σ:St} {H F:Hp} {s:Shared} {A:Around} (I:Inv X pins σ H s) (hF:Same F H) (hu:A.units + 60 < cLine) {x:PV} {xv:V} {xu:Value} {xs:List PV} {vs:List V} {its:List Value}
    (ok:xs.all okv=true) (okx:okv x=true) (hx:Rep X.K F x xv) (rx:RelV xv xu) (hxs:RepL X.K F xs vs) (rv:Vals vs its) :
    (∀ u∈its,SeqAt.EqAt A s u xu (gOf its xs x u))∧its.any (gOf its xs x)=xs.any fun y=>peq y x:=by
  have len:its.length=xs.length:=by rw [← rv.length,hxs.length]
  have inj:∀ (j k:Nat) (u:Value) (p q:PV),its[j]?=some u→xs[j]?=some p→its[k]?=some u→xs[k]?=some q→p=q:=fun j k u p q h1 h2 h3 h4=>by
    obtain ⟨v1,e1,r1⟩:=hxs.get h2
    obtain ⟨v2,e2,r2⟩:=hxs.get h4
    obtain ⟨w1,f1,t1⟩:=rv.get e1
    obtain ⟨w2,f2,t2⟩:=rv.get e2
    rw [h1] at f1;rw [h3] at f2
    cases f1;cases f2
    have ev:=t1.inj t2
    subst ev
    have hd:∀ (j:Nat) (p:PV),xs[j]?=some p→dep p < 1000:=fun j p h=>by
      have z:=List.all_eq_true.mp ok p (List.mem_of_getElem? h)
      unfold okv at z
      rw [Bool.and_eq_true,decide_eq_true_iff] at z
      omega
    exact Rep.inj I hF (hd _ _ h2) (hd _ _ h4) r1 r2
  have val:∀ (j:Nat) (u:Value) (p:PV),its[j]?=some u→xs[j]?=some p→gOf its xs x u=peq p x:=fun j u p h1 h2=>by
    have h:∃ (j:Nat) (p:PV),its[j]?=some u∧xs[j]?=some p:=⟨j,p,h1,h2⟩
    unfold gOf
    rw [dif_pos h]
    have hs:=Classical.choose_spec (Classical.choose_spec h)
    rw [inj _ _ u _ _ hs.1 hs.2 h1 h2]
  refine ⟨fun u hu' => ?_,Qjl (fun y=>peq y x) len _ fun j u p h1 h2=>val j u p h1 h2⟩
  obtain ⟨j,hj⟩:=List.mem_iff_getElem?.mp hu'
  have hjl:j < xs.length:=by rw [← len];exact (List.getElem?_eq_some_iff.mp hj).1
  have e1:xs[j]?=some xs[j]:=by simp [hjl]
  rw [val j u _ hj e1]
  obtain ⟨v1,f1,r1⟩:=hxs.get e1
  obtain ⟨w1,g1,t1⟩:=rv.get f1
  rw [hj] at g1;cases g1
  have okj:okv xs[j]=true:=List.all_eq_true.mp ok _ (List.getElem_mem hjl)
  exact eqAt_rep I hF 50 A _ _ v1 xv _ _ (okv_dep okj) (by omega) (QaK okx) (by omega) r1 hx t1 rx
theorem QiX {x y r:PV} (h:pIn x y=some r):∃ xs,(y = .lst xs∨y = .tup xs)∧okv x=true∧xs.all okv=true∧r = .bl (xs.any fun y=>peq y x):=by
  cases y with
  | lst xs =>
    have h:(if okv x=true∧xs.all okv=true then some (PV.bl (xs.any fun y=>peq y x)) else none)=some r:=h
    obtain ⟨⟨c1,c2⟩,rfl⟩:=Zo h
    exact ⟨xs,.inl rfl,c1,c2,rfl⟩
  | tup xs =>
    have h:(if okv x=true∧xs.all okv=true then some (PV.bl (xs.any fun y=>peq y x)) else none)=some r:=h
    obtain ⟨⟨c1,c2⟩,rfl⟩:=Zo h
    exact ⟨xs,.inr rfl,c1,c2,rfl⟩
  | _=>cases h
theorem om_in (hu:X.A.units + 64 < cLine):OpM X (compareOp .In) pIn:=by
  intro pins s σ H x y v u Q I rx ry h
  obtain ⟨F,p,q,r,h1,h2,h3,h4,w⟩:=h
  obtain ⟨xs,hk,c1,c2,rfl⟩:=QiX h4
  have hu1:X.A.in1.units + 60 < cLine:=by show X.A.units + 1 + 60 < cLine;omega
  rcases hk with rfl | rfl
  · unfold Rep at h3
    obtain ⟨a,vs,rfl,k2,k3⟩:=h3
    cases ry
    obtain ⟨its,rv,pl,_⟩:=I.list (h1.seq k2)
    obtain ⟨he,hany⟩:=Qge (A:=X.A.in1) I h1 hu1 c2 c1 h2 rx k3 rv
    refine SeqAt.in_listAt (gOf its xs p) pl.isList (fun y hy=>he y (by simpa using hy)) ⟨.bl _,H,I,rfl,?_⟩
    rw [show its.toArray.any (gOf its xs p)=its.any (gOf its xs p) by simp,hany]
    exact w.here h1 (ZS _)
  · unfold Rep at h3
    obtain ⟨a,vs,rfl,k2,k3⟩:=h3
    cases ry
    obtain ⟨its,rv,pl,_⟩:=I.tuple (h1.seqT k2)
    obtain ⟨he,hany⟩:=Qge (A:=X.A.in1) I h1 hu1 c2 c1 h2 rx k3 rv
    refine SeqAt.in_tupleAt (gOf its xs p) pl (fun y hy=>he y (by simpa using hy)) ⟨.bl _,H,I,rfl,?_⟩
    rw [show its.toArray.any (gOf its xs p)=its.any (gOf its xs p) by simp,hany]
    exact w.here h1 (ZS _)
theorem Qcu (hu:X.A.units + 64 < cLine):OpM X (compareOp .NotIn) Xy:=by
  intro pins s σ H x y v u Q I rx ry h
  obtain ⟨F,p,q,r,h1,h2,h3,h4,w⟩:=h
  unfold Xy at h4
  cases e:pIn p q with
  | none=>rw [e] at h4;cases h4
  | some r0 =>
    rw [e] at h4
    obtain ⟨xs,hk,c1,c2,rfl⟩:=QiX e
    have h4:some (PV.bl (!(xs.any fun y=>peq y p)))=some r:=h4
    cases h4
    have hu1:X.A.in1.units + 60 < cLine:=by show X.A.units + 1 + 60 < cLine;omega
    rcases hk with rfl | rfl
    · unfold Rep at h3
      obtain ⟨a,vs,rfl,k2,k3⟩:=h3
      cases ry
      obtain ⟨its,rv,pl,_⟩:=I.list (h1.seq k2)
      obtain ⟨he,hany⟩:=Qge (A:=X.A.in1) I h1 hu1 c2 c1 h2 rx k3 rv
      refine SeqAt.notIn_listAt (gOf its xs p) pl.isList (fun y hy=>he y (by simpa using hy)) ⟨.bl _,H,I,rfl,?_⟩
      rw [show its.toArray.any (gOf its xs p)=its.any (gOf its xs p) by simp,hany]
      exact w.here h1 (ZS _)
    · unfold Rep at h3
      obtain ⟨a,vs,rfl,k2,k3⟩:=h3
      cases ry
      obtain ⟨its,rv,pl,_⟩:=I.tuple (h1.seqT k2)
      obtain ⟨he,hany⟩:=Qge (A:=X.A.in1) I h1 hu1 c2 c1 h2 rx k3 rv
      refine SeqAt.notIn_tupleAt (gOf its xs p) pl (fun y hy=>he y (by simpa using hy)) ⟨.bl _,H,I,rfl,?_⟩
      rw [show its.toArray.any (gOf its xs p)=its.any (gOf its xs p) by simp,hany]
      exact w.here h1 (ZS _)
noncomputable def isN:PV→Bool
  | .non=>true
  | _=>false
noncomputable def pIs:PV→PV→Option PV
  | p,.non=>some (.bl (isN p))
  | .bl a,.bl b=>some (.bl (a==b))
  | _,_=>none
noncomputable def QfZ:PV→PV→Option PV
  | p,.non=>some (.bl (!isN p))
  | .bl a,.bl b=>some (.bl (a != b))
  | _,_=>none
theorem op_isB:OpR X (compareOp .Is) (fun x y H Q=>∃ a b,x = .bl a∧y = .bl b∧Q (.bl (a==b)) H):=by
  intro pins s σ H x y v u Q I rx ry h
  obtain ⟨a,b,rfl,rfl,q⟩:=h
  cases rx
  cases ry
  exact is_bool (Qgg I q rfl)
theorem op_notB:OpR X (compareOp .IsNot) (fun x y H Q=>∃ a b,x = .bl a∧y = .bl b∧Q (.bl (a != b)) H):=by
  intro pins s σ H x y v u Q I rx ry h
  obtain ⟨a,b,rfl,rfl,q⟩:=h
  cases rx
  cases ry
  exact isnot_bool (Qgg I q rfl)
theorem Qjd {K:PySem.W.Frag} {F:Hp} {p:PV} {v:V} (h:Rep K F p v):decide (v = .non)=isN p:=by
  cases p <;> unfold Rep at h <;> first
    | (subst h;simp [isN];done)
    | (obtain ⟨a,vs,rfl,_⟩:=h;simp [isN];done)
    | (obtain ⟨a,dx,vs,rfl,_⟩:=h;simp [isN])
theorem om_is:OpM X (compareOp .Is) pIs:=by
  intro pins s σ H x y v u Q I rx ry h
  obtain ⟨F,p,q,r,h1,h2,h3,h4,w⟩:=h
  cases q with
  | non =>
    have h4:some (PV.bl (isN p))=some r:=h4
    cases h4
    unfold Rep at h3
    exact op_isN pins s σ H x y v u Q I rx ry ⟨h3,by rw [Qjd h2];exact w.here h1 (ZS _)⟩
  | bl b =>
    cases p with
    | bl a =>
      cases h4
      unfold Rep at h2 h3
      exact op_isB pins s σ H x y v u Q I rx ry ⟨a,b,h2,h3,w.here h1 (ZS _)⟩
    | _=>cases h4
  | _=>cases p <;> cases h4
theorem QgX:OpM X (compareOp .IsNot) QfZ:=by
  intro pins s σ H x y v u Q I rx ry h
  obtain ⟨F,p,q,r,h1,h2,h3,h4,w⟩:=h
  cases q with
  | non =>
    have h4:some (PV.bl (!isN p))=some r:=h4
    cases h4
    unfold Rep at h3
    exact op_notN pins s σ H x y v u Q I rx ry ⟨h3,by rw [Qjd h2];exact w.here h1 (ZS _)⟩
  | bl b =>
    cases p with
    | bl a =>
      cases h4
      unfold Rep at h2 h3
      exact op_notB pins s σ H x y v u Q I rx ry ⟨a,b,h2,h3,w.here h1 (ZS _)⟩
    | _=>cases h4
  | _=>cases p <;> cases h4
noncomputable def pIx:PV→PV→Option PV
  | .lst xs,.int i=>atI xs i
  | .tup xs,.int i=>atI xs i
  | .str z,.int i=>if z.length≤LIM then (atI z.cps.toList i).map fun c => .str ⟨#[c]⟩ else none
  | _,_=>none
theorem Qjk {K:PySem.W.Frag} {F:Hp} {xs:List PV} {vs:List V} {i:Int} {r:PV} (h:RepL K F xs vs) (e:atI xs i=some r):∃ v,atI vs i=some v∧Rep K F r v:=by
  unfold atI at e ⊢
  rw [h.length]
  cases q:ixN xs.length i with
  | none=>rw [q] at e;cases e
  | some j =>
    rw [q] at e
    exact h.get e
theorem QX:IxR X (rM2 X.K pIx):=by
  intro value slice pins s σ H x y v u Q I rx ry h hs
  obtain ⟨F,p,q,r,h1,h2,h3,h4,w⟩:=h
  cases p <;> cases q <;> first
    | (exfalso;cases h4;done)
    | skip
  · rename_i z i
    have h4:(if z.length≤LIM then (atI z.cps.toList i).map fun c=>PV.str ⟨#[c]⟩ else none)=some r:=h4
    by_cases c:z.length≤LIM
    · rw [if_pos c] at h4
      cases e:atI z.cps.toList i with
      | none=>rw [e] at h4;cases h4
      | some k =>
        rw [e] at h4
        cases h4
        unfold Rep at h2 h3
        exact ix_str value slice pins s σ H x y v u Q I rx ry ⟨z,i,k,h2,h3,Nat.le_trans c Yz,e,w.here h1 (QiR _)⟩ hs
    · rw [if_neg c] at h4;cases h4
  · rename_i xs i
    have h4:atI xs i=some r:=h4
    unfold Rep at h2 h3
    obtain ⟨a,vs,rfl,k2,k3⟩:=h2
    obtain ⟨rv,e1,e2⟩:=Qjk k3 h4
    exact ix_tup value slice pins s σ H _ y v u Q I rx ry ⟨a,vs,i,rv,rfl,h3,h1.seqT k2,e1,w.here h1 e2⟩ hs
  · rename_i xs i
    have h4:atI xs i=some r:=h4
    unfold Rep at h2 h3
    obtain ⟨a,vs,rfl,k2,k3⟩:=h2
    obtain ⟨rv,e1,e2⟩:=Qjk k3 h4
    exact ix_list value slice pins s σ H _ y v u Q I rx ry ⟨a,vs,i,rv,rfl,h3,h1.seq k2,e1,w.here h1 e2⟩ hs
end
end L2.PM

noncomputable section
namespace L2.PM
open PySem PySem.Spec PyProof.Rows

section
variable {X:Cx} {e a b c:Expr} {es:List Expr} {ms ns ls:List Nat} {m m1 m2 m3:MEx} {pos p2:Pos}

theorem Qg {α β:Type} {x:Option α} {f:α→Option β} {r:β} (h:x.bind f=some r):∃ y,x=some y∧f y=some r:=by
  cases x with
  | none=>cases h
  | some y=>exact ⟨y,rfl,h⟩
theorem Yl {α β:Type} {x:Option α} {f:α→β} {r:β} (h:x.map f=some r):∃ y,x=some y∧f y=r:=by
  cases x with
  | none=>cases h
  | some y=>exact ⟨y,rfl,Option.some.inj h⟩

noncomputable def OM (X:Cx) (ms:List Nat) (e:Option Expr) (m:PEnv→Option (Option Int)):Prop :=
  PO X e fun σ H Q=>∃ F γ r,Same F H∧ERep X.K F σ γ ms∧m γ=some r∧∀ H' F',Grow F H F' H'→Q r H'
noncomputable def mNo:PEnv→Option (Option Int):=fun _=>some none
noncomputable def pInt:PV→Option (Option Int)
  | .int i=>some (some i)
  | _=>none
noncomputable def mSo (m:MEx):PEnv→Option (Option Int):=fun γ=>(m γ).bind pInt
theorem om_none:OM X [] none mNo:=fun pins s σ H Q I ⟨F,γ,r,h1,h2,h3,w⟩=>po_none pins s σ H Q I (by
  cases h3
  exact w H F (.refl h1))
theorem QfM (h:EM X ms e m):OM X ms (some e) (mSo m):=fun pins s σ H Q I ⟨F,γ,r,h1,h2,h3,w⟩=>po_some h pins s σ H Q I (by
  obtain ⟨p,e1,e2⟩:=Qg h3
  refine ⟨F,γ,p,h1,h2,e1,fun v H' F' g q => ?_⟩
  cases p with
  | int i =>
    unfold Rep at q
    cases e2
    exact ⟨i,q,w H' F' g⟩
  | _=>cases e2)
noncomputable def cutP (xs:List α) (lo hi:Option Int):List α:=(xs.drop (HT.sIx xs.length 0 lo)).take (HT.sIx xs.length xs.length hi - HT.sIx xs.length 0 lo)
noncomputable def pCut:PV→Option Int→Option Int→Option (List PV)
  | .lst xs,lo,hi=>some (cutP xs lo hi)
  | _,_,_=>none
noncomputable def sl3 (f:PV→Option Int→Option Int→Option α) (m:MEx) (ml mh:PEnv→Option (Option Int)):PEnv→Option α:=fun γ=>(m γ).bind fun x=>(ml γ).bind fun l=>(mh γ).bind fun h=>f x l h
variable {lo hi:Option Expr} {ml mh:PEnv→Option (Option Int)}
theorem eo_cut (he:EM X ms e m) (hl:OM X ns lo ml) (hh:OM X ls hi mh):EO X (ms++(ns++ls)) (.Subscript e (.Slice lo hi none p2) pos) (sl3 pCut m ml mh):=by
  refine PE.imp (pe_slice sl_list he hl hh) fun σ H Q ⟨F,γ,r,h1,h2,h3,w⟩ => ?_
  obtain ⟨x,e1,h3⟩:=Qg h3
  obtain ⟨l,e2,h3⟩:=Qg h3
  obtain ⟨h,e3,h3⟩:=Qg h3
  refine ⟨F,γ,x,h1,h2.left,e1,fun vx H1 F1 g1 r1=>⟨F1,γ,l,g1.sub,h2.right.left.mono g1.ext,e2,fun H2 F2 g2=>⟨F2,γ,h,g2.sub,h2.right.right.mono (g1.ext.trans g2.ext),e3,fun H3 F3 g3 => ?_⟩⟩⟩
  have g:=g1.trans (g2.trans g3)
  cases x with
  | lst xs =>
    cases h3
    unfold Rep at r1
    obtain ⟨a,vs,rfl,k2,k3⟩:=r1
    have gg:=g2.ext.trans g3.ext
    refine ⟨a,vs,rfl,g3.sub.seq (gg.seq k2),fun p hp => ?_⟩
    have nF:F3 p=none:=g3.sub.free hp
    refine w p _ _ F3 (g.trans (.side g3.sub hp)) (g.same.free hp) nF Qv ?_
    unfold cutV cutP
    rw [k3.length]
    exact ((k3.drop _).take _).mono gg
  | _=>cases h3
variable {t1 t2:PEnv→Option Bool} {rest:List Expr}
noncomputable def WM (X:Cx) (ms:List Nat) (e:Expr) (m:PEnv→Option Bool):Prop:=PW X e (tMT X.K ms m)
theorem WM.tm {e:Expr} (h:WM X ms e t1):TM X ms e t1:=PW.pt h
theorem _root_.L2.PW.imp {t t':TT} (h:PW X e t) (i:∀ σ H Q,t' σ H Q→t σ H Q):PW X e t':=fun whole pins s σ H Q I q=>h whole pins s σ H Q I (i σ H Q q)
theorem Xn (h:TM X ms a t1):WM X ms (.BoolOp .And [a] pos) t1:=pw_and1 h
theorem Xi (h:TM X ms a t1):WM X ms (.BoolOp .Or [a] pos) t1:=pw_or1 h
noncomputable def bAnd (t1 t2:PEnv→Option Bool):PEnv→Option Bool:=fun γ=>(t1 γ).bind fun x=>if x=true then t2 γ else some false
noncomputable def bOr (t1 t2:PEnv→Option Bool):PEnv→Option Bool:=fun γ=>(t1 γ).bind fun x=>if x=true then some true else t2 γ
noncomputable def bNot (t1:PEnv→Option Bool):PEnv→Option Bool:=fun γ=>(t1 γ).map not
theorem QaH (h1:TM X ms a t1) (h2:WM X ns (.BoolOp .And (b :: rest) pos) t2):WM X (ms++ns) (.BoolOp .And (a :: b :: rest) pos) (bAnd t1 t2) :=
  PW.imp (pw_and h1 h2) fun σ H Q ⟨F,γ,r,k1,k2,k3,w⟩=>by
    obtain ⟨x,e1,k3⟩:=Qg k3
    refine ⟨F,γ,x,k1,k2.left,e1,fun H1 F1 g1 => ?_⟩
    cases x with
    | true =>
      rw [if_pos rfl] at k3 ⊢
      exact ⟨F1,γ,r,g1.sub,k2.right.mono g1.ext,k3,fun H2 F2 g2=>w H2 F2 (g1.trans g2)⟩
    | false =>
      rw [if_neg Bool.false_ne_true] at k3 ⊢
      cases k3
      exact w H1 F1 g1
theorem Xa (h1:TM X ms a t1) (h2:WM X ns (.BoolOp .Or (b :: rest) pos) t2):WM X (ms++ns) (.BoolOp .Or (a :: b :: rest) pos) (bOr t1 t2) :=
  PW.imp (pw_or h1 h2) fun σ H Q ⟨F,γ,r,k1,k2,k3,w⟩=>by
    obtain ⟨x,e1,k3⟩:=Qg k3
    refine ⟨F,γ,x,k1,k2.left,e1,fun H1 F1 g1 => ?_⟩
    cases x with
    | false =>
      rw [if_neg Bool.false_ne_true] at k3 ⊢
      exact ⟨F1,γ,r,g1.sub,k2.right.mono g1.ext,k3,fun H2 F2 g2=>w H2 F2 (g1.trans g2)⟩
    | true =>
      rw [if_pos rfl] at k3 ⊢
      cases k3
      exact w H1 F1 g1
theorem ZB (h:TM X ms a t1):TM X ms (.UnaryOp .Not a pos) (bNot t1) :=
  PT.imp (pt_not h) fun σ H Q ⟨F,γ,r,k1,k2,k3,w⟩=>by
    obtain ⟨x,e1,k3⟩:=Yl k3
    subst k3
    exact ⟨F,γ,x,k1,k2,e1,w⟩
noncomputable def tru:PV→Option Bool
  | .non=>some false
  | .bl b=>some b
  | .int i=>some (i != 0)
  | .str y=>if y.length≤LIM then some ((y.length:Int) != 0) else none
  | .tup xs=>some (!xs.isEmpty)
  | .lst xs=>some (!xs.isEmpty)
  | .obj _ _ _=>none
  | .opq _=>none
noncomputable def mTru (m:MEx):PEnv→Option Bool:=fun γ=>(m γ).bind tru
theorem Qdc {K:PySem.W.Frag} {F:Hp} {xs:List PV} {vs:List V} (h:RepL K F xs vs):vs.isEmpty=xs.isEmpty:=by
  have:=h.length
  cases vs <;> cases xs <;> simp_all
theorem tru_rep {K:PySem.W.Frag} {F H:Hp} {p:PV} {v:V} {k:Bool} (hs:Same F H) (h:Rep K F p v) (e:tru p=some k):TruV K v H k:=by
  cases p <;> unfold Rep at h
  · subst h;cases e;rfl
  · subst h;cases e;rfl
  · subst h;cases e;rfl
  · subst h
    rename_i y
    have e:(if y.length≤LIM then some ((y.length:Int) != 0) else none)=some k:=e
    obtain ⟨c,rfl⟩:=Zo e
    exact ⟨Nat.le_trans c Yz,rfl⟩
  · obtain ⟨a,vs,rfl,k2,k3⟩:=h
    cases e
    exact .inr (.inl ⟨vs,hs.seqT k2,by rw [Qdc k3]⟩)
  · obtain ⟨a,vs,rfl,k2,k3⟩:=h
    cases e
    exact .inl ⟨vs,hs.seq k2,by rw [Qdc k3]⟩
  · cases e
  · cases e
theorem Qq (h:EM X ms e m) (he:∀ whole,isTrue e X.env whole=(do let v ← whole;standAt e.pos;holding [v] (truthy v)):=by intro _;rfl):TM X ms e (mTru m) :=
  PT.imp (pt_truth h he) fun σ H Q ⟨F,γ,r,k1,k2,k3,w⟩=>by
    obtain ⟨p,e1,e2⟩:=Qg k3
    exact ⟨F,γ,p,k1,k2,e1,fun v H' F' g q=>⟨r,tru_rep g.sub q e2,w H' F' g⟩⟩
noncomputable def vAnd (m1 m2:MEx):MEx:=fun γ=>(m1 γ).bind fun x=>(isB x).bind fun k=>if k=true then m2 γ else some (.bl false)
noncomputable def vNot (m1:MEx):MEx:=fun γ=>(m1 γ).bind fun x=>(isB x).map fun k => .bl (!k)
theorem QfQ {K:PySem.W.Frag} {F:Hp} {p:PV} {v:V} {k:Bool} (h:Rep K F p v) (e:isB p=some k):v = .bl k:=by
  cases p with
  | bl b=>unfold Rep at h;cases e;exact h
  | _=>cases e
theorem QiF {op} (h:EM X ms a m):EM X ms (.BoolOp op [a] pos) m:=pe_one h
theorem QiG (h1:EM X ms a m1) (h2:EM X ns (.BoolOp .And (b :: rest) pos) m2):EM X (ms++ns) (.BoolOp .And (a :: b :: rest) pos) (vAnd m1 m2) :=
  PE.imp (pe_and h1 h2) fun σ H Q ⟨F,γ,r,k1,k2,k3,w⟩=>by
    obtain ⟨x,e1,k3⟩:=Qg k3
    obtain ⟨k,e2,k3⟩:=Qg k3
    refine ⟨F,γ,x,k1,k2.left,e1,fun v H1 F1 g1 q=>⟨k,QfQ q e2,?_⟩⟩
    cases k with
    | true =>
      rw [if_pos rfl] at k3 ⊢
      exact ⟨F1,γ,r,g1.sub,k2.right.mono g1.ext,k3,w.go g1⟩
    | false =>
      rw [if_neg Bool.false_ne_true] at k3 ⊢
      cases k3
      exact (w.go g1).here g1.sub (ZS _)
theorem em_not (h1:EM X ms a m1):EM X ms (.UnaryOp .Not a pos) (vNot m1) :=
  PE.imp (pe_not h1) fun σ H Q ⟨F,γ,r,k1,k2,k3,w⟩=>by
    obtain ⟨x,e1,k3⟩:=Qg k3
    obtain ⟨k,e2,k3⟩:=Yl k3
    subst k3
    exact ⟨F,γ,x,k1,k2,e1,fun v H1 F1 g1 q=>⟨k,QfQ q e2,(w.go g1).here g1.sub (ZS _)⟩⟩
noncomputable def ch3 (f g:PV→PV→Option PV) (m1 m2 m3:MEx):MEx:=fun γ=>(m1 γ).bind fun x=>(m2 γ).bind fun y=>(f x y).bind fun z=>(isB z).bind fun k=>if k=true then (m3 γ).bind fun w=>g y w else some (.bl false)
theorem Qjs {K:PySem.W.Frag} {f g:PV→PV→Option PV} {σ:St} {H:Hp} {Q:VK} (h:tM K (ms++(ns++ls)) (ch3 f g m1 m2 m3) σ H Q):tChain (rM2 K f) (rM2 K g) (tM K ms m1) (tM K ns m2) (tM K ls m3) σ H Q:=by
  obtain ⟨F,γ,r,h1,h2,h3,w⟩:=h
  obtain ⟨x,e1,h3⟩:=Qg h3
  obtain ⟨y,e2,h3⟩:=Qg h3
  obtain ⟨z,e3,h3⟩:=Qg h3
  obtain ⟨k,e4,h3⟩:=Qg h3
  refine ⟨F,γ,x,h1,h2.left,e1,fun vx H1 F1 g1 r1=>⟨F1,γ,y,g1.sub,h2.right.left.mono g1.ext,e2,fun vy H2 F2 g2 r2=>⟨F2,x,y,z,g2.sub,r1.mono g2.ext,r2,e3,fun vz H3 F3 g3 r3=>⟨k,QfQ r3 e4,?_⟩⟩⟩⟩
  have gg:=g1.trans (g2.trans g3)
  cases k with
  | true =>
    rw [if_pos rfl] at h3 ⊢
    obtain ⟨u,e5,h3⟩:=Qg h3
    exact ⟨F3,γ,u,g3.sub,h2.right.right.mono gg.ext,e5,fun vw H4 F4 g4 r4=>⟨F4,y,u,r,g4.sub,r2.mono (g3.ext.trans g4.ext),r4,h3,w.go (gg.trans g4)⟩⟩
  | false =>
    rw [if_neg Bool.false_ne_true] at h3 ⊢
    cases h3
    exact (w.go gg).here gg.sub (ZS _)
theorem tm_chain {op op':CmpOp} {f g:PV→PV→Option PV} (ho:OpM X (compareOp op) f) (ho':OpM X (compareOp op') g) (ha:EM X ms a m1) (hb:EM X ns b m2) (hc:EM X ls c m3)
    (hm:lastMarks [op,op'] [b,c]=false:=by with_unfolding_all rfl):TM X (ms++(ns++ls)) (.Compare a [op,op'] [b,c] pos) (truB (ch3 f g m1 m2 m3)) :=
  PT.imp (pt_chain ho ho' ha hb hc hm) fun _ _ _ h=>QgN (fun _=>Qjs) h
noncomputable def un1 (f:PV→Option PV) (m:MEx):MEx:=fun γ=>(m γ).bind f
noncomputable def pNeg:PV→Option PV
  | .int i=>some (.int (-i))
  | _=>none
noncomputable def pInv:PV→Option PV
  | .int i=>some (.int (Builtin.bitNot i))
  | _=>none
theorem Qgi (h:EM X ms a m):EM X ms (.UnaryOp .USub a pos) (un1 pNeg m) :=
  PE.imp (pe_un un_neg h) fun σ H Q ⟨F,γ,r,k1,k2,k3,w⟩=>by
    obtain ⟨x,e1,k3⟩:=Qg k3
    refine ⟨F,γ,x,k1,k2,e1,fun v H1 F1 g1 q => ?_⟩
    cases x with
    | int i=>unfold Rep at q;cases k3;exact ⟨i,q,(w.go g1).here g1.sub (QV _)⟩
    | _=>cases k3
theorem em_inv (h:EM X ms a m):EM X ms (.UnaryOp .Invert a pos) (un1 pInv m) :=
  PE.imp (pe_un un_inv h) fun σ H Q ⟨F,γ,r,k1,k2,k3,w⟩=>by
    obtain ⟨x,e1,k3⟩:=Qg k3
    refine ⟨F,γ,x,k1,k2,e1,fun v H1 F1 g1 q => ?_⟩
    cases x with
    | int i=>unfold Rep at q;cases k3;exact ⟨i,q,(w.go g1).here g1.sub (QV _)⟩
    | _=>cases k3

variable {ma:PEnv→Option (List PV)}
noncomputable def aNil:PEnv→Option (List PV):=fun _=>some []
noncomputable def Qe (m:MEx) (ma:PEnv→Option (List PV)):PEnv→Option (List PV):=fun γ=>(m γ).bind fun x=>(ma γ).map (x :: ·)
theorem Qf:AM X [] [] aNil:=PA.imp QfX fun σ H Q ⟨F,γ,r,k1,k2,k3,w⟩=>by
  cases k3
  exact w [] H F (.refl k1) .nil
theorem Qb (h:EM X ms e m) (hr:AM X ns es ma) (hs:starEach (e :: es) X.env=(false,eval e X.env) :: starEach es X.env:=by rfl):AM X (ms++ns) (e :: es) (Qe m ma) :=
  PA.imp (Qby h hr hs) fun σ H Q ⟨F,γ,r,k1,k2,k3,w⟩=>by
    obtain ⟨x,e1,k3⟩:=Qg k3
    obtain ⟨xs,e2,k3⟩:=Yl k3
    subst k3
    refine ⟨F,γ,x,k1,k2.left,e1,fun v H1 F1 g1 q1=>⟨F1,γ,xs,g1.sub,k2.right.mono g1.ext,e2,fun vs H2 F2 g2 q2 => ?_⟩⟩
    exact w (v :: vs) H2 F2 (g1.trans g2) (.cons (q1.mono g2.ext) q2)
noncomputable def mLim (m:PEnv→Option (List PV)):PEnv→Option (List PV):=fun γ=>(m γ).bind fun xs=>if xs.length≤LIM then some xs else none
noncomputable def mTup (m:PEnv→Option (List PV)):MEx:=fun γ=>(m γ).bind fun xs=>if xs.length≤LIM then some (.tup xs) else none
theorem ZH {x1} (h:AM X ms es ma):EM X ms (.Tuple es x1 pos) (mTup ma) :=
  PE.imp (pe_tup h) fun σ H Q ⟨F,γ,r,k1,k2,k3,w⟩=>by
    obtain ⟨xs,e1,k3⟩:=Qg k3
    obtain ⟨c,rfl⟩:=Zo k3
    refine ⟨F,γ,xs,k1,k2,e1,fun vs H1 F1 g1 q1=>⟨by rw [q1.length];exact Nat.le_trans c Yz,fun p hp => ?_⟩⟩
    refine w _ _ _ (g1.trans (.laid g1.sub hp)) ?_
    unfold Rep
    exact ⟨p,vs,rfl,.of Qv,q1.mono (Grow.laid g1.sub hp).ext⟩
theorem Xj (h:AM X ms es ma):EO X ms (.List es pos) (mLim ma) :=
  PE.imp (pe_lst h) fun σ H Q ⟨F,γ,r,k1,k2,k3,w⟩=>by
    obtain ⟨xs,e1,k3⟩:=Qg k3
    obtain ⟨c,rfl⟩:=Zo k3
    refine ⟨F,γ,xs,k1,k2,e1,fun vs H1 F1 g1 q1=>⟨by rw [q1.length];exact Nat.le_trans c Yz,fun p hp => ?_⟩⟩
    exact w p vs _ F1 (g1.trans (.side g1.sub hp)) (g1.same.free hp) (g1.sub.free hp) Qv q1

noncomputable def rMA (K:PySem.W.Frag) (g:List PV→Option PV):List V→Hp→VK→Prop:=fun vs H Q=>∃ F ps r,Same F H∧RepL K F ps vs∧g ps=some r∧Wv K F H r Q
noncomputable def rMAO (K:PySem.W.Frag) (g:List PV→Option (List PV)):List V→Hp→VK→Prop:=fun vs H Q=>∃ F ps r,Same F H∧RepL K F ps vs∧g ps=some r∧Wo K F H r Q
noncomputable def QgJ (X:Cx) (f:Value) (g:List PV→Option PV):Prop:=Xv X f (rMA X.K g)
noncomputable def CallO (X:Cx) (f:Value) (g:List PV→Option (List PV)):Prop:=Xv X f (rMAO X.K g)
noncomputable def Qk (g:List PV→Option α) (ma:PEnv→Option (List PV)):PEnv→Option α:=fun γ=>(ma γ).bind g
theorem tCB_of {K:PySem.W.Frag} {g:List PV→Option PV} {σ:St} {H:Hp} {Q:VK} (h:tM K ms (Qk g ma) σ H Q):tCB (rMA K g) (tMA K ms ma) σ H Q:=by
  obtain ⟨F,γ,r,k1,k2,k3,w⟩:=h
  obtain ⟨xs,e1,k3⟩:=Qg k3
  exact ⟨F,γ,xs,k1,k2,e1,fun vs H1 F1 g1 q1=>⟨F1,xs,r,g1.sub,q1,k3,w.go g1⟩⟩
theorem tCBO_of {K:PySem.W.Frag} {g:List PV→Option (List PV)} {σ:St} {H:Hp} {Q:VK} (h:tMO K ms (Qk g ma) σ H Q):tCB (rMAO K g) (tMA K ms ma) σ H Q:=by
  obtain ⟨F,γ,r,k1,k2,k3,w⟩:=h
  obtain ⟨xs,e1,k3⟩:=Qg k3
  exact ⟨F,γ,xs,k1,k2,e1,fun vs H1 F1 g1 q1=>⟨F1,xs,r,g1.sub,q1,k3,w.go g1⟩⟩
variable {x:Str} {p:Pos} {id T:String}
theorem Za {g:List PV→Option PV} (hc:QgJ X (.builtin id) g) (hg:Gl X x) (hm:X.mg x=none) (hv:bootBuiltins x=some (.builtin id)) (ha:AM X ms (e :: es) ma) (hn:x ≠ "__name__":=by decide) (hdb:(x==("__debug__":Str))=false:=by decide)
    (he:starEach (e :: es) X.env=(false,eval e X.env) :: starEach es X.env:=by rfl) (hpl:(backTo pos (starEach es X.env)).any (·.1)=false:=by rfl):EM X ms (.Call (.Name x p) (e :: es) [] pos) (Qk g ma) :=
  PE.imp (Qct hc hg hm hv ha hn hdb he hpl) fun _ _ _ h=>tCB_of h
theorem Xh {g:List PV→Option PV} (hc:QgJ X (.type T) g) (hg:Gl X x) (hm:X.mg x=none) (hv:bootBuiltins x=some (.type T)) (ha:AM X ms (e :: es) ma) (hn:x ≠ "__name__":=by decide) (hdb:(x==("__debug__":Str))=false:=by decide)
    (he:starEach (e :: es) X.env=(false,eval e X.env) :: starEach es X.env:=by rfl) (hpl:(backTo pos (starEach es X.env)).any (·.1)=false:=by rfl):EM X ms (.Call (.Name x p) (e :: es) [] pos) (Qk g ma) :=
  PE.imp (QcM hc hg hm hv ha hn hdb he hpl) fun _ _ _ h=>tCB_of h
theorem QjY {g:List PV→Option (List PV)} (hc:CallO X (.type T) g) (hg:Gl X x) (hm:X.mg x=none) (hv:bootBuiltins x=some (.type T)) (ha:AM X ms (e :: es) ma) (hn:x ≠ "__name__":=by decide) (hdb:(x==("__debug__":Str))=false:=by decide)
    (he:starEach (e :: es) X.env=(false,eval e X.env) :: starEach es X.env:=by rfl) (hpl:(backTo pos (starEach es X.env)).any (·.1)=false:=by rfl):EO X ms (.Call (.Name x p) (e :: es) [] pos) (Qk g ma) :=
  PE.imp (QcM hc hg hm hv ha hn hdb he hpl) fun _ _ _ h=>tCBO_of h

noncomputable def spM (K:PySem.W.Frag) (n:Nat) (g:List PV→Option PV):Sp:=fun vs H Q _=>vs.length=n∧rMA K g vs H Q
noncomputable def spO (K:PySem.W.Frag) (n:Nat) (g:List PV→Option (List PV)):Sp:=fun vs H Q _=>vs.length=n∧rMAO K g vs H Q
theorem tCall_of {K:PySem.W.Frag} {n:Nat} {g:List PV→Option PV} {E:XK} {σ:St} {H:Hp} {Q:VK} (hn:∀ ps r,g ps=some r→ps.length=n) (h:tM K ms (Qk g ma) σ H Q):Qgn (spM K n g) [] E (tMA K ms ma) σ H Q:=by
  obtain ⟨F,γ,r,k1,k2,k3,w⟩:=h
  obtain ⟨xs,e1,k3⟩:=Qg k3
  refine ⟨F,γ,xs,k1,k2,e1,fun vs H1 F1 g1 q1 => ?_⟩
  dsimp only
  rw [List.append_nil]
  exact ⟨by rw [q1.length];exact hn _ _ k3,F1,xs,r,g1.sub,q1,k3,w.go g1⟩
theorem Qjt {K:PySem.W.Frag} {n:Nat} {g:List PV→Option (List PV)} {E:XK} {σ:St} {H:Hp} {Q:VK} (hn:∀ ps r,g ps=some r→ps.length=n) (h:tMO K ms (Qk g ma) σ H Q):Qgn (spO K n g) [] E (tMA K ms ma) σ H Q:=by
  obtain ⟨F,γ,r,k1,k2,k3,w⟩:=h
  obtain ⟨xs,e1,k3⟩:=Qg k3
  refine ⟨F,γ,xs,k1,k2,e1,fun vs H1 F1 g1 q1 => ?_⟩
  dsimp only
  rw [List.append_nil]
  exact ⟨by rw [q1.length];exact hn _ _ k3,F1,xs,r,g1.sub,q1,k3,w.go g1⟩
variable {CX:CXT} {k n:Nat} {f:Addr} {fd:FuncData} {ps:List Str}
theorem em_call {g:List PV→Option PV} (F:FnOk X.prog X.w X.K X.mg X.base CX0 k f fd ps (spM X.K n g)) (hn:∀ ps r,g ps=some r→ps.length=n) (hr:Room k X.A) (hg:Gl X x) (hm:X.mg x=some (.ref f)) (hk:PySem.W.keepIn X.K (.ref f)=true) (hb:YR X.K fd ps [])
    (ha:AM X ms (e :: es) ma) (hdb:(x==("__debug__":Str))=false:=by decide) (he:starEach (e :: es) X.env=(false,eval e X.env) :: starEach es X.env:=by rfl) (hpl:(backTo pos (starEach es X.env)).any (·.1)=false:=by rfl) :
    EM X ms (.Call (.Name x p) (e :: es) [] pos) (Qk g ma) :=
  PE.imp (QfL (E:=E0) F hr hg hm hk hb .nil Qgt ha hdb he hpl) fun _ _ _ h=>tCall_of hn h
theorem eo_call {g:List PV→Option (List PV)} (F:FnOk X.prog X.w X.K X.mg X.base CX0 k f fd ps (spO X.K n g)) (hn:∀ ps r,g ps=some r→ps.length=n) (hr:Room k X.A) (hg:Gl X x) (hm:X.mg x=some (.ref f)) (hk:PySem.W.keepIn X.K (.ref f)=true) (hb:YR X.K fd ps [])
    (ha:AM X ms (e :: es) ma) (hdb:(x==("__debug__":Str))=false:=by decide) (he:starEach (e :: es) X.env=(false,eval e X.env) :: starEach es X.env:=by rfl) (hpl:(backTo pos (starEach es X.env)).any (·.1)=false:=by rfl) :
    EO X ms (.Call (.Name x p) (e :: es) [] pos) (Qk g ma) :=
  PE.imp (QfL (E:=E0) F hr hg hm hk hb .nil Qgt ha hdb he hpl) fun _ _ _ h=>Qjt hn h
end
end L2.PM

noncomputable section
namespace L2.PM
open PySem PySem.Spec PyProof.Rows

inductive Out where
  | nx (γ:PEnv) | rt (p:PV) | ro (xs:List PV) | bk (γ:PEnv) | ct (γ:PEnv)
noncomputable abbrev MSt:=PEnv→Option Out
noncomputable def flat:PV→Bool
  | .tup _=>false
  | .lst _=>false
  | .obj _ _ _=>false
  | _=>true
theorem Rep.flat {K:PySem.W.Frag} {F F':Hp} {p:PV} {v:V} (f:flat p=true) (h:Rep K F p v):Rep K F' p v:=by
  cases p <;> unfold Rep at h ⊢ <;> first | exact h | (cases f;done)
theorem RepL.flat {K:PySem.W.Frag} {F F':Hp}:∀ {ps:List PV} {vs:List V},ps.all PM.flat=true→RepL K F ps vs→RepL K F' ps vs
  | [],_,_,h=>by unfold RepL at h ⊢;exact h
  | p :: ps,_,f,h=>by
    rw [List.all_cons,Bool.and_eq_true] at f
    unfold RepL at h
    obtain ⟨v,r,rfl,h2,h3⟩:=h
    exact .cons (h2.flat f.1) (RepL.flat f.2 h3)

structure SR (K:PySem.W.Frag) (B F₀ F:Hp) (σ:St) (H:Hp) (γ:PEnv):Prop where
  sub:Same F H
  base:Same B H
  f0:Same F₀ F
  fb:∀ a o,F a=some o→F₀ a=some o∨B a=none
  len:σ.length=γ.length
  fz:∀ (i:Nat) p,γ[i]?=some (.fz p)→∃ v,σ[i]?=some (some v)∧Rep K F p v
  ow:∀ (i:Nat) xs,γ[i]?=some (.ow xs)→∃ a vs,σ[i]?=some (some (.ref a))∧H a=some (.lst vs)∧RepL K F xs vs∧F a=none∧B a=none
  dj:∀ (i j:Nat) xs ys a,i≠j→γ[i]?=some (.ow xs)→γ[j]?=some (.ow ys)→σ[i]?=some (some (.ref a))→σ[j]?≠some (some (.ref a))

noncomputable def frz1 (γ:PEnv) (i:Nat):PEnv:=match γ[i]? with
  | some (.ow xs)=>γ.set i (.fz (.lst xs))
  | _=>γ
noncomputable def frz (ms:List Nat) (γ:PEnv):PEnv:=ms.foldl frz1 γ
theorem QjT (γ:PEnv) (i j:Nat):getV (frz1 γ i) j=getV γ j:=by
  unfold frz1
  split
  · rename_i xs h
    unfold getV
    by_cases e:i=j
    · subst e
      have hi:i < γ.length:=(List.getElem?_eq_some_iff.mp h).1
      rw [List.getElem?_set_self hi,h]
      rfl
    · rw [List.getElem?_set_ne e]
  · rfl
theorem Qeg:∀ (ms:List Nat) (γ:PEnv) (j:Nat),getV (frz ms γ) j=getV γ j
  | [],_,_=>rfl
  | i :: ms,γ,j=>by
    show getV (frz ms (frz1 γ i)) j=_
    rw [Qeg ms,QjT]

section
variable {K:PySem.W.Frag} {B F₀ F F' H H':Hp} {σ:St} {γ:PEnv}
theorem SR.frz1 (S:SR K B F₀ F σ H γ) (i:Nat):∃ F1,SR K B F₀ F1 σ H (frz1 γ i)∧Same F F1:=by
  unfold PM.frz1
  split
  · rename_i xs h
    obtain ⟨a,vs,h1,h2,h3,h4,h5⟩:=S.ow i xs h
    have hi:i < γ.length:=(List.getElem?_eq_some_iff.mp h).1
    have gx:Same F (upd F a (.lst vs)):=fun b u q=>by rw [Qt (Qu q h4)];exact q
    refine ⟨upd F a (.lst vs),⟨fun b u q => ?_,S.base,S.f0.trans gx,fun b u q => ?_,by simpa using S.len,fun j p e => ?_,fun j ys e => ?_,fun j k ys zs c hjk e1 e2 e3 => ?_⟩,gx⟩
    · by_cases z:b=a
      · subst z;rw [Qv] at q;rw [h2];exact q
      · rw [Qt z] at q;exact S.sub b u q
    · by_cases z:b=a
      · subst z;exact .inr h5
      · rw [Qt z] at q;exact S.fb b u q
    · by_cases e':i=j
      · subst e'
        rw [List.getElem?_set_self hi] at e
        cases e
        refine ⟨.ref a,h1,?_⟩
        unfold Rep
        exact ⟨a,vs,rfl,.of Qv,h3.mono gx⟩
      · rw [List.getElem?_set_ne e'] at e
        obtain ⟨v,k1,k2⟩:=S.fz j p e
        exact ⟨v,k1,k2.mono gx⟩
    · by_cases e':i=j
      · subst e'
        rw [List.getElem?_set_self hi] at e
        cases e
      · rw [List.getElem?_set_ne e'] at e
        obtain ⟨c,us,k1,k2,k3,k4,k5⟩:=S.ow j ys e
        have hca:c≠a:=fun z=>by
          subst z
          exact S.dj i j xs ys c e' h e h1 k1
        exact ⟨c,us,k1,k2,k3.mono gx,by rw [Qt hca];exact k4,k5⟩
    · have f:∀ (n:Nat) (zs:List PV),(γ.set i (.fz (.lst xs)))[n]?=some (.ow zs)→γ[n]?=some (.ow zs):=fun n zs q=>by
        by_cases e':i=n
        · subst e'
          rw [List.getElem?_set_self hi] at q
          cases q
        · rw [List.getElem?_set_ne e'] at q;exact q
      exact S.dj j k ys zs c hjk (f j ys e1) (f k zs e2) e3
  · exact ⟨F,S,Same.refl _⟩
theorem SR.frz:∀ (ms:List Nat) {F:Hp} {γ:PEnv},SR K B F₀ F σ H γ→∃ F1,SR K B F₀ F1 σ H (frz ms γ)∧Same F F1
  | [],F,_,S=>⟨F,S,Same.refl _⟩
  | i :: ms,F,γ,S=>by
    obtain ⟨F1,S1,e1⟩:=S.frz1 i
    obtain ⟨F2,S2,e2⟩:=SR.frz ms S1
    exact ⟨F2,S2,e1.trans e2⟩
theorem QjV {γ:PEnv} {i j:Nat} (h:∀ xs,γ[j]?≠some (.ow xs)):∀ xs,(PM.frz1 γ i)[j]?≠some (.ow xs):=fun xs=>by
  unfold PM.frz1
  split
  · rename_i ys e
    by_cases e':i=j
    · subst e'
      exact absurd e (h ys)
    · rw [List.getElem?_set_ne e'];exact h xs
  · exact h xs
theorem QjU {γ:PEnv} {i:Nat}:∀ xs,(PM.frz1 γ i)[i]?≠some (.ow xs):=fun xs=>by
  unfold PM.frz1
  split
  · rename_i ys e
    have hi:i < γ.length:=(List.getElem?_eq_some_iff.mp e).1
    rw [List.getElem?_set_self hi]
    intro z;cases z
  · rename_i h
    exact h xs
theorem Qhi:∀ (ms:List Nat) {γ:PEnv} {j:Nat},(∀ xs,γ[j]?≠some (.ow xs))→∀ xs,(PM.frz ms γ)[j]?≠some (.ow xs)
  | [],_,_,h=>h
  | i :: ms,γ,j,h=>Qhi ms (γ:=PM.frz1 γ i) (QjV h)
theorem Qjf:∀ (ms:List Nat) {γ:PEnv} {j:Nat},j∈ms→∀ xs,(PM.frz ms γ)[j]?≠some (.ow xs)
  | [],_,_,h=>by cases h
  | i :: ms,γ,j,h=>by
    rcases List.mem_cons.mp h with rfl | h
    · exact Qhi ms (γ:=PM.frz1 γ j) QjU
    · exact Qjf ms (γ:=PM.frz1 γ i) h
theorem SR.erep (S:SR K B F₀ F σ H γ) {ms:List Nat} (h:∀ i∈ms,∀ xs,γ[i]?≠some (.ow xs)):ERep K F σ γ ms:=fun i hi p e=>by
  unfold getV at e
  cases q:γ[i]? with
  | none=>rw [q] at e;cases e
  | some t =>
    cases t with
    | un=>rw [q] at e;cases e
    | fz p' =>
      rw [q] at e
      cases e
      exact S.fz i p q
    | ow xs=>exact absurd q (h i hi xs)
theorem SR.see (S:SR K B F₀ F σ H γ) (ms:List Nat):∃ F1,SR K B F₀ F1 σ H (PM.frz ms γ)∧Same F F1∧ERep K F1 σ γ ms:=by
  obtain ⟨F1,S1,e1⟩:=SR.frz ms S
  refine ⟨F1,S1,e1,fun i hi p e => ?_⟩
  exact S1.erep (ms:=ms) (fun j hj=>Qjf ms hj) i hi p (by rw [Qeg];exact e)
theorem SR.same (S:SR K B F₀ F σ H γ) (e:Same H H'):SR K B F₀ F σ H' γ :=
  ⟨S.sub.trans e,S.base.trans e,S.f0,S.fb,S.len,S.fz,fun i xs h=>by
    obtain ⟨a,vs,h1,h2,h3⟩:=S.ow i xs h
    exact ⟨a,vs,h1,e _ _ h2,h3⟩,S.dj⟩
theorem SR.grow (S:SR K B F₀ F σ H γ) (g:Grow F H F' H'):SR K B F₀ F' σ H' γ:=by
  refine ⟨g.sub,S.base.trans g.same,S.f0.trans g.ext,fun a o e => ?_,S.len,fun i p h => ?_,fun i xs h => ?_,S.dj⟩
  · rcases g.new a o e with z | z
    · exact S.fb a o z
    · exact .inr (S.base.free z)
  · obtain ⟨v,h1,h2⟩:=S.fz i p h
    exact ⟨v,h1,h2.mono g.ext⟩
  · obtain ⟨a,vs,h1,h2,h3,h4,h5⟩:=S.ow i xs h
    refine ⟨a,vs,h1,g.same _ _ h2,h3.mono g.ext,?_,h5⟩
    cases q:F' a with
    | none=>rfl
    | some o =>
      rcases g.new a o q with z | z
      · rw [h4] at z;cases z
      · rw [h2] at z;cases z
theorem SR.setFz (S:SR K B F₀ F σ H γ) (i:Nat) {p:PV} {v:V} (r:Rep K F p v):SR K B F₀ F (σ.set i (some v)) H (γ.set i (.fz p)):=by
  have f:∀ (n:Nat) (zs:List PV),(γ.set i (.fz p))[n]?=some (.ow zs)→i≠n∧γ[n]?=some (.ow zs):=fun n zs q=>by
    by_cases e':i=n
    · subst e'
      by_cases hi:i < γ.length
      · rw [List.getElem?_set_self hi] at q;cases q
      · rw [List.getElem?_eq_none (by simpa using hi)] at q;cases q
    · rw [List.getElem?_set_ne e'] at q;exact ⟨e',q⟩
  refine ⟨S.sub,S.base,S.f0,S.fb,by simpa using S.len,fun j q e => ?_,fun j ys e => ?_,fun j k ys zs c hjk e1 e2 e3 => ?_⟩
  · by_cases e':i=j
    · subst e'
      by_cases hi:i < γ.length
      · rw [List.getElem?_set_self hi] at e
        cases e
        exact ⟨v,by rw [List.getElem?_set_self (by rw [S.len];exact hi)],r⟩
      · rw [List.getElem?_eq_none (by simpa using hi)] at e;cases e
    · rw [List.getElem?_set_ne e'] at e
      obtain ⟨u,h1,h2⟩:=S.fz j q e
      exact ⟨u,by rw [List.getElem?_set_ne e'];exact h1,h2⟩
  · obtain ⟨ne,e⟩:=f j ys e
    obtain ⟨a,vs,h1,h2⟩:=S.ow j ys e
    exact ⟨a,vs,by rw [List.getElem?_set_ne ne];exact h1,h2⟩
  · obtain ⟨n1,e1⟩:=f j ys e1
    obtain ⟨n2,e2⟩:=f k zs e2
    rw [List.getElem?_set_ne n1] at e3
    rw [List.getElem?_set_ne n2]
    exact S.dj j k ys zs c hjk e1 e2 e3
theorem SR.setOw (S:SR K B F₀ F σ H γ) (i:Nat) {xs:List PV} {a:Addr} {vs:List V} (hH:H a=some (.lst vs)) (r:RepL K F xs vs) (nF:F a=none) (nB:B a=none)
    (nd:∀ (j:Nat) ys,i≠j→γ[j]?=some (.ow ys)→σ[j]?≠some (some (.ref a))):SR K B F₀ F (σ.set i (some (.ref a))) H (γ.set i (.ow xs)):=by
  refine ⟨S.sub,S.base,S.f0,S.fb,by simpa using S.len,fun j q e => ?_,fun j ys e => ?_,fun j k ys zs c hjk e1 e2 e3 e4 => ?_⟩
  · by_cases e':i=j
    · subst e'
      by_cases hi:i < γ.length
      · rw [List.getElem?_set_self hi] at e;cases e
      · rw [List.getElem?_eq_none (by simpa using hi)] at e;cases e
    · rw [List.getElem?_set_ne e'] at e
      obtain ⟨u,h1,h2⟩:=S.fz j q e
      exact ⟨u,by rw [List.getElem?_set_ne e'];exact h1,h2⟩
  · by_cases e':i=j
    · subst e'
      by_cases hi:i < γ.length
      · rw [List.getElem?_set_self hi] at e
        cases e
        exact ⟨a,vs,by rw [List.getElem?_set_self (by rw [S.len];exact hi)],hH,r,nF,nB⟩
      · rw [List.getElem?_eq_none (by simpa using hi)] at e;cases e
    · rw [List.getElem?_set_ne e'] at e
      obtain ⟨b,us,h1,h2⟩:=S.ow j ys e
      exact ⟨b,us,by rw [List.getElem?_set_ne e'];exact h1,h2⟩
  · by_cases z1:i=j
    · subst z1
      by_cases hi:i < γ.length
      · rw [List.getElem?_set_self (by rw [S.len];exact hi)] at e3
        cases e3
        rw [List.getElem?_set_ne hjk] at e2 e4
        exact nd k zs hjk e2 e4
      · rw [List.getElem?_eq_none (by simpa using hi)] at e1;cases e1
    · rw [List.getElem?_set_ne z1] at e1 e3
      by_cases z2:i=k
      · subst z2
        by_cases hi:i < γ.length
        · rw [List.getElem?_set_self (by rw [S.len];exact hi)] at e4
          cases e4
          exact nd j ys z1 e1 e3
        · rw [List.getElem?_eq_none (by simpa using hi)] at e2;cases e2
      · rw [List.getElem?_set_ne z2] at e2 e4
        exact S.dj j k ys zs c hjk e1 e2 e3 e4
theorem SR.write (S:SR K B F₀ F σ H γ) {i:Nat} {xs ys:List PV} {a:Addr} {us:List V} (hi:γ[i]?=some (.ow xs)) (ha:σ[i]?=some (some (.ref a))) (r:RepL K F ys us) :
    SR K B F₀ F σ (upd H a (.lst us)) (γ.set i (.ow ys)):=by
  obtain ⟨a',vs,h1,h2,h3,h4,h5⟩:=S.ow i xs hi
  rw [ha] at h1
  cases h1
  have hil:i < γ.length:=(List.getElem?_eq_some_iff.mp hi).1
  have stay:∀ b o,H b=some o→b≠a→upd H a (.lst us) b=some o:=fun b o e n=>by rw [Qt n];exact e
  refine ⟨fun b o e=>stay b o (S.sub b o e) (Qu e h4),fun b o e=>stay b o (S.base b o e) (Qu e h5),S.f0,S.fb,by simpa using S.len,fun j q e => ?_,fun j zs e => ?_,fun j k ws zs c hjk e1 e2 e3 e4 => ?_⟩
  · by_cases e':i=j
    · subst e'
      rw [List.getElem?_set_self hil] at e;cases e
    · rw [List.getElem?_set_ne e'] at e;exact S.fz j q e
  · by_cases e':i=j
    · subst e'
      rw [List.getElem?_set_self hil] at e
      cases e
      exact ⟨a,us,ha,Qv,r,h4,h5⟩
    · rw [List.getElem?_set_ne e'] at e
      obtain ⟨b,ts,k1,k2,k3⟩:=S.ow j zs e
      have hb:b≠a:=fun z=>by
        subst z
        exact S.dj i j xs zs b e' hi e ha k1
      exact ⟨b,ts,k1,stay _ _ k2 hb,k3⟩
  · have f:∀ (n:Nat) (ws:List PV),(γ.set i (.ow ys))[n]?=some (.ow ws)→∃ ws',γ[n]?=some (.ow ws'):=fun n ws q=>by
      by_cases e':i=n
      · subst e';exact ⟨xs,hi⟩
      · rw [List.getElem?_set_ne e'] at q;exact ⟨ws,q⟩
    obtain ⟨ws',e1⟩:=f j ws e1
    obtain ⟨zs',e2⟩:=f k zs e2
    exact S.dj j k _ _ c hjk e1 e2 e3 e4
theorem SR.up (S:SR K B F₀ F σ H γ) {F1:Hp} (e1:Same F₀ F1) (e:Same F1 F):SR K B F1 F σ H γ :=
  ⟨S.sub,S.base,e,fun a o q=>(S.fb a o q).imp (fun z=>e1 a o z) id,S.len,S.fz,S.ow,S.dj⟩
theorem SR.down {F1:Hp} (S:SR K B F1 F σ H γ) (e1:Same F₀ F1) (fb1:∀ a o,F1 a=some o→F₀ a=some o∨B a=none):SR K B F₀ F σ H γ :=
  ⟨S.sub,S.base,e1.trans S.f0,fun a o q=>(S.fb a o q).elim (fun z=>fb1 a o z) .inr,S.len,S.fz,S.ow,S.dj⟩
theorem Grow.down {F1:Hp} (g:Grow F1 B F' H') (e1:Same F₀ F1) (fb1:∀ a o,F1 a=some o→F₀ a=some o∨B a=none):Grow F₀ B F' H' :=
  ⟨e1.trans g.ext,g.sub,g.same,fun a o q=>(g.new a o q).elim (fun z=>fb1 a o z) .inr⟩
theorem SR.gr (S:SR K B F₀ F σ H γ):Grow F₀ B F H:=⟨S.f0,S.sub,S.base,S.fb⟩
end

noncomputable def OutOk (K:PySem.W.Frag) (B F₀:Hp) (D:Ends):Out→Prop
  | .nx γ=>∀ σ H F,SR K B F₀ F σ H γ→D.nx σ H
  | .rt p=>∀ v H F,Grow F₀ B F H→Rep K F p v→D.rt v H
  | .ro xs=>∀ a vs H F,Grow F₀ B F H→B a=none→F a=none→H a=some (.lst vs)→RepL K F xs vs→D.rt (.ref a) H
  | .bk γ=>∀ σ H F,SR K B F₀ F σ H γ→D.bk σ H
  | .ct γ=>∀ σ H F,SR K B F₀ F σ H γ→D.ct σ H
noncomputable def tMS (K:PySem.W.Frag) (m:MSt):TS:=fun D σ H=>∃ B F₀ F γ o,SR K B F₀ F σ H γ∧m γ=some o∧OutOk K B F₀ D o
noncomputable def SM (X:Cx) (st:Stmt) (m:MSt):Prop:=PS X st (tMS X.K m)
noncomputable def SMs (X:Cx) (sts:List Stmt) (m:MSt):Prop:=PSs X sts (tMS X.K m)

section
variable {X:Cx} {e a b c:Expr} {st:Stmt} {sts:List Stmt} {ms ns ls:List Nat} {m m1 m2 m3:MEx} {s1 s2:MSt} {pos p2:Pos}
theorem _root_.L2.PSs.imp {t t':TS} (h:PSs X sts t) (i:∀ D σ H,t' D σ H→t D σ H):PSs X sts t':=fun pins s σ H D I q=>h pins s σ H D I (i D σ H q)
noncomputable def sNx:MSt:=fun γ=>some (.nx γ)
noncomputable def sSeq (s1 s2:MSt):MSt:=fun γ=>(s1 γ).bind fun o=>match o with
  | .nx γ'=>s2 γ'
  | o=>some o
theorem QE:SMs X [] sNx:=PSs.imp pss_nil fun D σ H ⟨B,F₀,F,γ,o,S,e,ok⟩=>by
  cases e
  exact ok σ H F S
theorem Qj (h:SM X st s1):SMs X [st] s1:=QiU h
theorem Qh (h:SM X st s1) (hr:SMs X sts s2):SMs X (st :: sts) (sSeq s1 s2):=PSs.imp (QgV h hr) fun D σ H ⟨B,F₀,F,γ,o,S,e,ok⟩=>by
  obtain ⟨o1,e1,e2⟩:=Qg e
  refine ⟨B,F₀,F,γ,o1,S,e1,?_⟩
  cases o1 with
  | nx γ'=>exact fun σ' H' F' S'=>⟨B,F₀,F',γ',o,S',e2,ok⟩
  | rt p=>cases e2;exact ok
  | ro xs=>cases e2;exact ok
  | bk γ'=>cases e2;exact ok
  | ct γ'=>cases e2;exact ok
noncomputable def sBk:MSt:=fun γ=>some (.bk γ)
noncomputable def sCt:MSt:=fun γ=>some (.ct γ)
noncomputable def sRet (m:MEx):MSt:=fun γ=>(m γ).map .rt
noncomputable def sRetO (m:PEnv→Option (List PV)):MSt:=fun γ=>(m γ).map .ro
noncomputable def Qbs (i:Nat):MSt:=fun γ=>match γ[i]? with
  | some (.ow xs)=>some (.ro xs)
  | some (.fz p)=>some (.rt p)
  | _=>none
theorem Qw (h:EM X ms e m):SM X (.Return (some e) pos) (sRet m):=PS.imp (QiA h) fun D σ H ⟨B,F₀,F,γ,o,S,e,ok⟩=>by
  obtain ⟨r,e1,e2⟩:=Yl e
  subst e2
  obtain ⟨F1,S1,x1,er⟩:=S.see ms
  exact ⟨F1,γ,r,S1.sub,er,e1,fun v H' F' g q=>ok v H' F' (S1.grow g).gr q⟩
theorem sm_retO {m:PEnv→Option (List PV)} (h:EO X ms e m):SM X (.Return (some e) pos) (sRetO m):=PS.imp (QiA h) fun D σ H ⟨B,F₀,F,γ,o,S,e,ok⟩=>by
  obtain ⟨r,e1,e2⟩:=Yl e
  subst e2
  obtain ⟨F1,S1,x1,er⟩:=S.see ms
  exact ⟨F1,γ,r,S1.sub,er,e1,fun a vs H' F' g n nF hH q=>ok a vs H' F' (S1.grow g).gr (S1.base.free n) nF hH q⟩
theorem Qat (i:Nat) {x:Str} (h:PE X (.Name x p2) (tVar i)):SM X (.Return (some (.Name x p2)) pos) (Qbs i):=PS.imp (QiA h) fun D σ H ⟨B,F₀,F,γ,o,S,e,ok⟩=>by
  unfold Qbs at e
  split at e
  · rename_i xs h
    cases e
    obtain ⟨a,vs,h1,h2,h3,h4,h5⟩:=S.ow i xs h
    exact ⟨.ref a,h1,ok a vs H F S.gr h5 h4 h2 h3⟩
  · rename_i p h
    cases e
    obtain ⟨v,h1,h2⟩:=S.fz i p h
    exact ⟨v,h1,ok v H F S.gr h2⟩
  · cases e
noncomputable def sIf (t:PEnv→Option Bool) (s1 s2:MSt):MSt:=fun γ=>(t γ).bind fun k=>if k=true then s1 γ else s2 γ
theorem Zi {t:PEnv→Option Bool} {xs ys:List Stmt} (hc:TM X ms c t) (ha:SMs X xs s1) (hb:SMs X ys s2):SM X (.If c xs ys pos) (sIf t s1 s2):=PS.imp (ps_if hc ha hb) fun D σ H ⟨B,F₀,F,γ,o,S,e,ok⟩=>by
  obtain ⟨k,e1,e2⟩:=Qg e
  obtain ⟨F1,S1,x1,er⟩:=S.see ms
  refine ⟨F1,γ,k,S1.sub,er,e1,fun H' F' g => ?_⟩
  cases k with
  | true=>rw [if_pos rfl] at e2 ⊢;exact ⟨B,F₀,F,γ,o,S.same g.same,e2,ok⟩
  | false=>rw [if_neg Bool.false_ne_true] at e2 ⊢;exact ⟨B,F₀,F,γ,o,S.same g.same,e2,ok⟩
noncomputable def ZD (k:Bool) (ms:List Nat) (γ:PEnv):PEnv:=if k=true then γ else frz ms γ
noncomputable def sSet (ms:List Nat) (i:Nat) (m:MEx):MSt:=fun γ=>(m γ).map fun r => .nx ((ZD (flat r) ms γ).set i (.fz r))
noncomputable def Yv (ms:List Nat) (i:Nat) (m:PEnv→Option (List PV)):MSt:=fun γ=>(m γ).map fun xs => .nx ((ZD (xs.all flat) ms γ).set i (.ow xs))
theorem SR.val {K:PySem.W.Frag} {B F₀ F F1 F' H H':Hp} {σ:St} {γ:PEnv} {r:PV} {v:V} (S:SR K B F₀ F σ H γ) (S1:SR K B F₀ F1 σ H (PM.frz ms γ)) (g:Grow F1 H F' H') (q:Rep K F' r v) :
    ∃ F2,SR K B F₀ F2 σ H' (ZD (flat r) ms γ)∧Rep K F2 r v:=by
  unfold ZD
  cases f:flat r with
  | true=>rw [if_pos rfl];exact ⟨F,S.same g.same,q.flat f⟩
  | false=>rw [if_neg Bool.false_ne_true];exact ⟨F',S1.grow g,q⟩
theorem SR.valO {K:PySem.W.Frag} {B F₀ F F1 F' H H':Hp} {σ:St} {γ:PEnv} {r:List PV} {vs:List V} (S:SR K B F₀ F σ H γ) (x1:Same F F1) (S1:SR K B F₀ F1 σ H (PM.frz ms γ)) (g:Grow F1 H F' H') (q:RepL K F' r vs) :
    ∃ F2,SR K B F₀ F2 σ H' (ZD (r.all flat) ms γ)∧RepL K F2 r vs∧Same F2 F':=by
  unfold ZD
  cases f:r.all flat with
  | true=>rw [if_pos rfl];exact ⟨F,S.same g.same,q.flat f,x1.trans g.ext⟩
  | false=>rw [if_neg Bool.false_ne_true];exact ⟨F',S1.grow g,q,Same.refl _⟩
theorem QF {i:Nat} {x:Str} (hN:X.N.Nodup) (hi:X.N[i]?=some x) (hx:Loc X.env.scope x) (h:EM X ms e m) (hs:swapsWith e (some (.Name x p2)) pos.line X.env=pure false:=by rfl) (hf:X.fn x=true∨X.env.scope.names.lookup x=some .local:=by first | exact .inl rfl | exact .inr rfl | assumption) :
    SM X (.Assign [.Name x p2] e pos) (sSet ms i m):=PS.imp (ps_set hN hi hx h hs hf) fun D σ H ⟨B,F₀,F,γ,o,S,e,ok⟩=>by
  obtain ⟨r,e1,e2⟩:=Yl e
  subst e2
  obtain ⟨F1,S1,x1,er⟩:=S.see ms
  refine ⟨F1,γ,r,S1.sub,er,e1,fun v H' F' g q => ?_⟩
  obtain ⟨F2,S2,q2⟩:=S.val S1 g q
  exact ok _ _ F2 (S2.setFz i q2)
theorem SR.setNew {K:PySem.W.Frag} {B F₀ F F1 F' H H':Hp} {σ:St} {γ:PEnv} {r:List PV} {vs:List V} {a:Addr} (S:SR K B F₀ F σ H γ) (x1:Same F F1) (S1:SR K B F₀ F1 σ H (PM.frz ms γ)) (g:Grow F1 H F' H') (n:H a=none) (nF:F' a=none) (hH:H' a=some (.lst vs)) (q:RepL K F' r vs) (i:Nat) :
    ∃ F2,SR K B F₀ F2 (σ.set i (some (.ref a))) H' ((ZD (r.all flat) ms γ).set i (.ow r)):=by
  obtain ⟨F2,S2,q2,x2⟩:=S.valO x1 S1 g q
  have own:∀ (j:Nat) ys,(ZD (r.all flat) ms γ)[j]?=some (.ow ys)→σ[j]?≠some (some (.ref a)):=fun j ys e1 e2=>by
    have key:∀ {F:Hp} {γ:PEnv},SR K B F₀ F σ H γ→γ[j]?=some (.ow ys)→False:=fun {F γ} T e1=>by
      obtain ⟨b,us,h1,h2,_⟩:=T.ow j ys e1
      rw [e2] at h1
      cases h1
      rw [n] at h2;cases h2
    unfold ZD at e1
    split at e1
    · exact key S e1
    · exact key S1 e1
  exact ⟨F2,S2.setOw i hH q2 (x2.free nF) (S.base.free n) fun j ys _ e1=>own j ys e1⟩
theorem YU {i:Nat} {x:Str} {m:PEnv→Option (List PV)} (hN:X.N.Nodup) (hi:X.N[i]?=some x) (hx:Loc X.env.scope x) (h:EO X ms e m) (hs:swapsWith e (some (.Name x p2)) pos.line X.env=pure false:=by rfl) (hf:X.fn x=true∨X.env.scope.names.lookup x=some .local:=by first | exact .inl rfl | exact .inr rfl | assumption) :
    SM X (.Assign [.Name x p2] e pos) (Yv ms i m):=PS.imp (ps_set hN hi hx h hs hf) fun D σ H ⟨B,F₀,F,γ,o,S,e,ok⟩=>by
  obtain ⟨r,e1,e2⟩:=Yl e
  subst e2
  obtain ⟨F1,S1,x1,er⟩:=S.see ms
  refine ⟨F1,γ,r,S1.sub,er,e1,fun a vs H' F' g n nF hH q => ?_⟩
  obtain ⟨F2,S2⟩:=S.setNew x1 S1 g n nF hH q i
  exact ok _ _ F2 S2
end
end L2.PM

noncomputable section
namespace L2.PM
open PySem PySem.Spec PyProof.Rows

theorem _root_.L2.PG.imp {X:Cx} {e:Expr} {t t':TG} (h:PG X e t) (i:∀ v σ H Q,t' v σ H Q→t v σ H Q):PG X e t':=fun pins s σ H v u Q I r q=>h pins s σ H v u Q I r (i v σ H Q q)
theorem Qig (k:Bool) (ms:List Nat) (γ:PEnv) (j:Nat):getV (ZD k ms γ) j=getV γ j:=by
  unfold ZD
  split
  · rfl
  · exact Qeg ms γ j
theorem ERep.of_getV {K:PySem.W.Frag} {F:Hp} {σ:St} {γ γ':PEnv} {ms:List Nat} (h:ERep K F σ γ ms) (e:∀ j,getV γ j=getV γ' j):ERep K F σ γ' ms:=fun i hi p hp=>h i hi p (by rw [e];exact hp)
theorem QeW:∀ (ms:List Nat) {γ:PEnv} {j:Nat},j∉ms→(frz ms γ)[j]?=γ[j]?
  | [],_,_,_=>rfl
  | i :: ms,γ,j,h=>by
    show (frz ms (frz1 γ i))[j]?=_
    rw [QeW ms (fun z=>h (List.mem_cons_of_mem _ z))]
    unfold frz1
    split
    · rw [List.getElem?_set_ne (fun z=>h (by simp [z]))]
    · rfl
theorem QeU {k:Bool} {ms:List Nat} {γ:PEnv} {i:Nat} {xs:List PV} (h:γ[i]?=some (.ow xs)) (c:(k || !ms.contains i)=true):(ZD k ms γ)[i]?=some (.ow xs):=by
  unfold ZD
  cases k with
  | true=>rw [if_pos rfl];exact h
  | false =>
    rw [if_neg Bool.false_ne_true]
    have:i∉ms:=by simpa using c
    rw [QeW ms this];exact h

section
variable {X:Cx} {e a b c:Expr} {st:Stmt} {sts:List Stmt} {ms ns ls:List Nat} {m m1 m2 m3 mi mv:MEx} {s1 s2:MSt} {pos p2 p3:Pos}

noncomputable def sAug (i:Nat) (f:PV→PV→Option PV) (m:MEx):MSt:=fun γ=>(getV γ i).bind fun x=>(m γ).bind fun y=>(f x y).bind fun r=>if flat r=true then some (.nx (γ.set i (.fz r))) else none
theorem sm_aug {i:Nat} {x:Str} {op:Operator} {f:PV→PV→Option PV} (hN:X.N.Nodup) (hi:X.N[i]?=some x) (hx:Loc X.env.scope x) (h:EM X ms e m) (ho:OpM X (inplaceOp op) f)
    (hf:X.fn x=true∨X.env.scope.names.lookup x=some .local:=by first | exact .inl rfl | exact .inr rfl | assumption):SM X (.AugAssign (.Name x p2) op e pos) (sAug i f m) :=
  PS.imp (ps_aug (ti:=rM2 X.K f) hN hi hx h ho hf) fun D σ H ⟨B,F₀,F,γ,o,S,e,ok⟩=>by
    obtain ⟨x,e1,e⟩:=Qg e
    obtain ⟨y,e2,e⟩:=Qg e
    obtain ⟨r,e3,e⟩:=Qg e
    obtain ⟨fl,rfl⟩:=Zo e
    obtain ⟨F1,S1,x1,er⟩:=S.see (i :: ms)
    obtain ⟨xv,h1,h2⟩:=er i (by simp) x e1
    refine ⟨xv,h1,F1,γ,y,S1.sub,fun j hj=>er j (List.mem_cons_of_mem _ hj),e2,fun yv H' F' g q=>⟨F',x,y,r,g.sub,h2.mono g.ext,q,e3,fun zv H2 F2 g2 q2 => ?_⟩⟩
    exact ok _ _ F ((S.same (g.same.trans g2.same)).setFz i (q2.flat fl))

noncomputable def tMG (K:PySem.W.Frag) (ts:List Nat) (g:PV→PEnv→Option PEnv):TG:=fun v σ H Q=>∃ B F₀ F γ p γ',SR K B F₀ F σ H γ∧Rep K F p v∧g p γ=some γ' ∧
  ∀ σ',SR K B F₀ F σ' H γ'→σ'.length=σ.length→(∀ n,n∉ts→σ'[n]?=σ[n]?)→Q σ' H
noncomputable def GM (X:Cx) (ts:List Nat) (tg:Expr) (g:PV→PEnv→Option PEnv):Prop:=PG X tg (tMG X.K ts g)
noncomputable def gSet (i:Nat):PV→PEnv→Option PEnv:=fun p γ=>some (γ.set i (.fz p))
noncomputable def XC (i j:Nat):PV→PEnv→Option PEnv:=fun p γ=>match p with
  | .tup [x,y]=>some ((γ.set i (.fz x)).set j (.fz y))
  | _=>none
noncomputable def gSet3 (i j k:Nat):PV→PEnv→Option PEnv:=fun p γ=>match p with
  | .tup [x,y,z]=>some (((γ.set i (.fz x)).set j (.fz y)).set k (.fz z))
  | _=>none
theorem QO {i:Nat} {x:Str} (h:PG X (.Name x pos) (Qiv i)):GM X [i] (.Name x pos) (gSet i):=PG.imp h fun v σ H Q ⟨B,F₀,F,γ,p,γ',S,r,e,w⟩=>by
  cases e
  refine w _ (S.setFz i r) (by simp) fun n hn => ?_
  rw [List.getElem?_set_ne (fun z=>hn (by simp [z]))]
theorem QbA {i j:Nat} {x y:Expr} {kt:Nat} (h:PG X (.Tuple [x,y] kt pos) (gTup X.K 2 (gCons (Qiv i) (gCons (Qiv j) gNil)))):GM X [i,j] (.Tuple [x,y] kt pos) (XC i j) :=
  PG.imp h fun v σ H Q ⟨B,F₀,F,γ,p,γ',S,r,e,w⟩=>by
    unfold XC at e
    split at e
    · rename_i x y
      cases e
      unfold Rep at r
      obtain ⟨a,vs,rfl,k2,k3⟩:=r
      unfold RepL at k3
      obtain ⟨v1,r1,rfl,q1,k3⟩:=k3
      unfold RepL at k3
      obtain ⟨v2,r2,rfl,q2,k3⟩:=k3
      unfold RepL at k3
      subst k3
      refine ⟨a,_,rfl,S.sub.seqT k2,rfl,v1,_,rfl,v2,_,rfl,rfl,?_⟩
      refine w _ ((S.setFz i q1).setFz j q2) (by simp) fun n hn => ?_
      rw [List.getElem?_set_ne (fun z=>hn (by simp [z])),List.getElem?_set_ne (fun z=>hn (by simp [z]))]
    · cases e
noncomputable def sApp (ms:List Nat) (i:Nat) (m:MEx):MSt:=fun γ=>match γ[i]? with
  | some (.ow xs)=>(m γ).bind fun r=>if xs.length < LIM∧(flat r || !ms.contains i)=true then some (.nx ((ZD (flat r) ms γ).set i (.ow (xs++[r])))) else none
  | _=>none
theorem tyV_list {K:PySem.W.Frag} {H:Hp} {a:Addr} {vs:List V} (h:SqL K H a vs):tyV K "list" (.ref a) H := .inl ⟨rfl,vs,h⟩
theorem Qcm {i:Nat} {x:Str} {apos cpos:Pos} (hx:PE X (.Name x p2) (tVar i)) (h:EM X ms e m) (ps:PS X (.Expr (.Call (.Attribute (.Name x p2) "append" apos) [e] [] cpos) pos) (tDrop (tBM X.K "list" QiT (tVar i) (tMA X.K ms (Qe m aNil))))) :
    SM X (.Expr (.Call (.Attribute (.Name x p2) "append" apos) [e] [] cpos) pos) (sApp ms i m):=PS.imp ps fun D σ H ⟨B,F₀,F,γ,o,S,e,ok⟩=>by
  unfold sApp at e
  split at e
  · rename_i xs hi
    obtain ⟨r,e1,e⟩:=Qg e
    obtain ⟨⟨hl,c⟩,rfl⟩:=Zo e
    obtain ⟨a,vs,h1,h2,_⟩:=S.ow i xs hi
    obtain ⟨F1,S1,x1,er⟩:=S.see ms
    refine ⟨.ref a,h1,tyV_list (.of h2),F1,γ,[r],S1.sub,er,by simp [Qe,aNil,e1],fun us H' F' g q => ?_⟩
    unfold RepL at q
    obtain ⟨v,t,rfl,q,qt⟩:=q
    unfold RepL at qt
    subst qt
    obtain ⟨F2,S2,q2⟩:=S.val S1 g q
    have hi2:=QeU (k:=flat r) hi c
    obtain ⟨a2,vs2,k1,k2,k3,_⟩:=S2.ow i xs hi2
    rw [h1] at k1
    cases k1
    refine ⟨a,vs2,v,rfl,rfl,k2,?_,?_⟩
    · rw [k3.length];exact Nat.lt_of_lt_of_le hl Yz
    · exact ok _ _ F2 (S2.write hi2 h1 (k3.snoc q2))
  · cases e
noncomputable def Qco (ms:List Nat) (i:Nat) (mv mi:MEx):MSt:=fun γ=>match γ[i]? with
  | some (.ow xs)=>(mv γ).bind fun r=>(mi γ).bind fun k=>match k with
    | .int j=>(ixN xs.length j).bind fun n=>if (flat r || !ms.contains i)=true then some (.nx ((ZD (flat r) ms γ).set i (.ow (xs.set n r)))) else none
    | _=>none
  | _=>none
theorem QgP {i:Nat} {x:Str} (hx:PE X (.Name x p2) (tVar i)) (hv:EM X ms e mv) (hi:EM X ns b mi) (hs:swapsWithSole [.Subscript (.Name x p2) b p3] e pos.line X.env=pure false:=by rfl) (hw:swappedStores [.Subscript (.Name x p2) b p3] e X.env=pure none:=by rfl)
    (h1:(assignEach [.Subscript (.Name x p2) b p3] X.env).map (·.2)=[assign (.Subscript (.Name x p2) b p3) X.env]:=by rfl)
    (ha:∀ v,assign (.Subscript (.Name x p2) b p3) X.env v=(do
      let ov ← holding [v] (eval (.Name x p2) X.env)
      let iv ← holding [v,ov] (eval b X.env)
      standAt p3
      holding [v,ov,iv] (setItem ov iv v)
      release [v,ov,iv] []):=by intro _;rfl):SM X (.Assign [.Subscript (.Name x p2) b p3] e pos) (Qco ms i mv mi):=PS.imp (ps_asg hv (pg_sub hx hi set_list ha) hs hw h1) fun D σ H ⟨B,F₀,F,γ,o,S,e,ok⟩=>by
  unfold Qco at e
  split at e
  · rename_i xs hi
    obtain ⟨r,e1,e⟩:=Qg e
    obtain ⟨k,e2,e⟩:=Qg e
    split at e
    · rename_i j
      obtain ⟨n,e3,e⟩:=Qg e
      obtain ⟨c,rfl⟩:=Zo e
      obtain ⟨F1,S1,x1,er⟩:=S.see ms
      refine ⟨F1,γ,r,S1.sub,er,e1,fun v H' F' g q => ?_⟩
      obtain ⟨F2,S2,q2⟩:=S.val S1 g q
      have hi2:=QeU (k:=flat r) hi c
      obtain ⟨a,vs,k1,_⟩:=S2.ow i xs hi2
      obtain ⟨F3,S3,x3,er3⟩:=S2.see ns
      refine ⟨.ref a,k1,F3,γ,.int j,S3.sub,er3.of_getV (Qig _ _ _),e2,fun kv H2 F4 g2 qk => ?_⟩
      unfold Rep at qk
      have S4:=S2.same g2.same
      obtain ⟨a4,vs4,l1,l2,l3,_⟩:=S4.ow i xs hi2
      rw [k1] at l1
      cases l1
      refine ⟨a,vs4,j,n,rfl,qk,l2,by rw [l3.length];exact e3,?_⟩
      exact ok _ _ F2 (S4.write hi2 k1 (l3.set n q2))
    · cases e
  · cases e

structure ItRep (K:PySem.W.Frag) (J:It) (F:Hp) (xs:List PV):Prop where
  go:∀ i H,i < xs.length→Same F H→J.go i H
  yld:∀ i H x H',i < xs.length→Same F H→J.yld i H x H'→∃ p,xs[i]?=some p∧∀ F1,Same F F1→Same F1 H→∃ F2,Grow F1 H F2 H'∧Rep K F2 p x
  stop:∀ H,Same F H→J.stop xs.length H
noncomputable def tMI (K:PySem.W.Frag) (ms:List Nat) (m:PEnv→Option (List PV)):TI:=fun σ H R=>∃ F γ xs,Same F H∧ERep K F σ γ ms∧m γ=some xs∧∀ J H' F',Grow F H F' H'→ItRep K J F' xs→R J H'
noncomputable def IM (X:Cx) (ms:List Nat) (tg iter:Expr) (m:PEnv→Option (List PV)):Prop:=PI X tg iter (tMI X.K ms m)
theorem _root_.L2.PI.imp {tg:Expr} {t t':TI} (h:PI X tg e t) (i:∀ σ H R,t' σ H R→t σ H R):PI X tg e t':=fun pins s σ H R I q=>h pins s σ H R I (i σ H R q)
noncomputable def iLst (m:MEx):PEnv→Option (List PV):=fun γ=>(m γ).bind fun p=>match p with
  | .lst xs=>some xs
  | _=>none
noncomputable def iTpl (m:MEx):PEnv→Option (List PV):=fun γ=>(m γ).bind fun p=>match p with
  | .tup xs=>some xs
  | _=>none
theorem XB {tg:Expr} (h:EM X ms e m):IM X ms tg e (iLst m):=PI.imp (pi_list h) fun σ H R ⟨F,γ,xs,h1,h2,h3,w⟩=>by
  obtain ⟨p,e1,e2⟩:=Qg h3
  refine ⟨F,γ,p,h1,h2,e1,fun v H' F' g q => ?_⟩
  cases p with
  | lst ys =>
    cases e2
    unfold Rep at q
    obtain ⟨a,vs,rfl,k2,k3⟩:=q
    refine ⟨a,rfl,⟨vs,g.sub.seq k2⟩,w _ _ _ g ?_⟩
    refine ⟨fun i H hi e => ?_,fun i H x H' hi e y => ?_,fun H e => ?_⟩
    · have hv:i < vs.length:=by rw [k3.length];exact hi
      exact ⟨vs,vs[i],e.seq k2,by simp [hv]⟩
    · obtain ⟨rfl,y⟩:=y
      obtain ⟨p,e2,e3⟩:=k3.back (y vs (e.seq k2))
      exact ⟨p,e2,fun F1 x1 x2=>⟨F1,.refl x2,e3.mono x1⟩⟩
    · exact ⟨vs,e.seq k2,by rw [k3.length];exact Nat.le_refl _⟩
  | _=>cases e2
theorem Qdy {tg:Expr} (h:EM X ms e m):IM X ms tg e (iTpl m):=PI.imp (pi_tup h) fun σ H R ⟨F,γ,xs,h1,h2,h3,w⟩=>by
  obtain ⟨p,e1,e2⟩:=Qg h3
  refine ⟨F,γ,p,h1,h2,e1,fun v H' F' g q => ?_⟩
  cases p with
  | tup ys =>
    cases e2
    unfold Rep at q
    obtain ⟨a,vs,rfl,k2,k3⟩:=q
    refine ⟨a,rfl,⟨vs,g.sub.seqT k2⟩,w _ _ _ g ?_⟩
    refine ⟨fun i H hi e => ?_,fun i H x H' hi e y => ?_,fun H e => ?_⟩
    · have hv:i < vs.length:=by rw [k3.length];exact hi
      exact ⟨vs,vs[i],e.seqT k2,by simp [hv]⟩
    · obtain ⟨rfl,y⟩:=y
      obtain ⟨p,e2,e3⟩:=k3.back (y vs (e.seqT k2))
      exact ⟨p,e2,fun F1 x1 x2=>⟨F1,.refl x2,e3.mono x1⟩⟩
    · exact ⟨vs,e.seqT k2,by rw [k3.length];exact Nat.le_refl _⟩
  | _=>cases e2
noncomputable def rngL (lo hi:Int):List PV:=(List.range (hi - lo).toNat).map fun k => .int (lo + (k:Nat))
theorem Qeb (lo hi:Int):(rngL lo hi).length=(hi - lo).toNat:=by simp [rngL]
theorem Qjc {K:PySem.W.Frag} {F:Hp} (lo hi:Int):ItRep K (Itr lo (hi - lo).toNat) F (rngL lo hi):=by
  refine ⟨fun i H hi' e => ?_,fun i H x H' hi' e y => ?_,fun H e => ?_⟩
  · rw [Qeb] at hi';exact hi'
  · obtain ⟨rfl,rfl⟩:=y
    rw [Qeb] at hi'
    exact ⟨.int (lo + i),by simp [rngL,hi'],fun F1 x1 x2=>⟨F1,.refl x2,QV _⟩⟩
  · show (hi - lo).toNat≤_
    rw [Qeb];exact Nat.le_refl _
noncomputable def rOk (j:Int):Bool:=cls (-(2 ^ 62)≤j∧j < 2 ^ 62)
theorem Qbw {j:Int} (h:rOk j=true) : -(2 ^ 62)≤j∧j < 2 ^ 62:=QcH h
theorem Qiz {j:Int} (h1 : -(2 ^ 62)≤j) (h2:j < 2 ^ 62):rOk j=true:=QeK ⟨h1,h2⟩
noncomputable def iRg1 (m:MEx):PEnv→Option (List PV):=fun γ=>(m γ).bind fun p=>match p with
  | .int j=>if rOk j=true then some (rngL 0 j) else none
  | _=>none
theorem XS {tg:Expr} (hg:Gl X "range") (hm:X.mg "range"=none) (ha:AM X ms [a] (Qe m aNil)) (hs:starEach [a] X.env=[(false,eval a X.env)]:=by rfl):IM X ms tg (.Call (.Name "range" p2) [a] [] pos) (iRg1 m) :=
  PI.imp (QeQ hg hm ha hs) fun σ H R ⟨F,γ,xs,h1,h2,h3,w⟩=>by
    obtain ⟨p,e1,e2⟩:=Qg h3
    refine ⟨F,γ,[p],h1,h2,by simp [Qe,aNil,e1],fun vs H' F' g q => ?_⟩
    unfold RepL at q
    obtain ⟨v,t,rfl,q,qt⟩:=q
    unfold RepL at qt
    subst qt
    cases p with
    | int j =>
      obtain ⟨c,rfl⟩:=Zo e2
      obtain ⟨c1,c2⟩:=Qbw c
      unfold Rep at q
      subst q
      refine ⟨j,rfl,c1,c2,w _ _ _ g ?_⟩
      have:=Qjc (K:=X.K) (F:=F') 0 j
      simpa using this
    | _=>cases e2
noncomputable def forL (g:PV→PEnv→Option PEnv) (b:MSt):List PV→PEnv→Option Out
  | [],γ=>some (.nx γ)
  | x :: xs,γ=>(g x γ).bind fun γ1=>(b γ1).bind fun o=>match o with
    | .nx γ2=>forL g b xs γ2
    | .ct γ2=>forL g b xs γ2
    | .bk γ2=>some (.nx γ2)
    | .rt p=>some (.rt p)
    | .ro ys=>some (.ro ys)
noncomputable def sFor (ms:List Nat) (mi:PEnv→Option (List PV)) (g:PV→PEnv→Option PEnv) (b:MSt):MSt:=fun γ=>(mi γ).bind fun xs=>forL g b xs (frz ms γ)
theorem Qhj {K:PySem.W.Frag} {g:PV→PEnv→Option PEnv} {ts:List Nat} {sb:MSt} {D:Ends} {B F₀ F' H':Hp} {J:It} {xs:List PV} {γ1:PEnv} {σ:St} {o:Out} (S1:SR K B F₀ F' σ H' γ1) (it:ItRep K J F' xs) (e2:forL g sb xs γ1=some o) (ok:OutOk K B F₀ D o) :
    ∃ W:Nat→Nat→St→Hp→Prop,(∃ m,W 0 m σ H')∧∀ i m σ H,W i m σ H →
      (J.stop i H∧D.nx σ H)∨(J.go i H∧∃ N:St→Hp→Prop,(∀ σ' H',N σ' H'→∃ m',m' < m∧W (i + 1) m' σ' H')∧∀ x H',J.yld i H x H'→tMG K ts g x σ H' fun σ2 H2=>tMS K sb { D with nx:=N,ct:=N,bk:=D.nx } σ2 H2):=by
  refine ⟨fun i m σ H=>m=xs.length - i∧i≤xs.length∧∃ F γ,SR K B F₀ F σ H γ∧Same F' F∧forL g sb (xs.drop i) γ=some o,⟨xs.length,by simp,Nat.zero_le _,F',γ1,S1,Same.refl _,by simpa using e2⟩,?_⟩
  rintro i m σ2 H2 ⟨rfl,hi,F2,γ2,S2,x2,e2⟩
  by_cases hlt:i < xs.length
  · refine .inr ⟨it.go i H2 hlt (x2.trans S2.sub),fun σ H=>∃ F γ,SR K B F₀ F σ H γ∧Same F' F∧forL g sb (xs.drop (i + 1)) γ=some o,fun σ' H' q=>⟨xs.length - (i + 1),by omega,rfl,hlt,q⟩,fun x H3 y => ?_⟩
    obtain ⟨p,e3,hy⟩:=it.yld i H2 x H3 hlt (x2.trans S2.sub) y
    obtain ⟨F3,g3,r3⟩:=hy F2 x2 S2.sub
    have S3:=S2.grow g3
    have ed:xs.drop i=p :: xs.drop (i + 1):=by
      have q:=(List.getElem?_eq_some_iff.mp e3)
      obtain ⟨q1,q2⟩:=q
      rw [← q2]
      exact List.drop_eq_getElem_cons q1
    rw [ed] at e2
    unfold forL at e2
    obtain ⟨γ4,e4,e2⟩:=Qg e2
    obtain ⟨ob,e5,e2⟩:=Qg e2
    refine ⟨B,F₀,F3,γ2,p,γ4,S3,r3,e4,fun σ4 S4 _ _ => ?_⟩
    have x3:Same F' F3:=x2.trans g3.ext
    refine ⟨B,F',F3,γ4,ob,S4.up S1.f0 x3,e5,?_⟩
    cases ob with
    | nx γ5=>exact fun σ H F S=>⟨F,γ5,S.down S1.f0 S1.fb,S.f0,e2⟩
    | ct γ5=>exact fun σ H F S=>⟨F,γ5,S.down S1.f0 S1.fb,S.f0,e2⟩
    | bk γ5 =>
      cases e2
      exact fun σ H F S=>ok σ H F (S.down S1.f0 S1.fb)
    | rt p =>
      cases e2
      exact fun v H F gr r=>ok v H F (gr.down S1.f0 S1.fb) r
    | ro ys =>
      cases e2
      exact fun a vs H F gr n nF hH r=>ok a vs H F (gr.down S1.f0 S1.fb) n nF hH r
  · have e:i=xs.length:=by omega
    subst e
    rw [List.drop_length] at e2
    cases e2
    exact .inl ⟨it.stop H2 (x2.trans S2.sub),ok σ2 H2 F2 S2⟩
theorem Qad {tg iter:Expr} {ts:List Nat} {mi:PEnv→Option (List PV)} {g:PV→PEnv→Option PEnv} {sb:MSt} {body:List Stmt} (hp:PassesOwn (model X.prog X.w) X.A X.env X.xe) (hc:X.calm=true) (hi:IM X ms tg iter mi) (hg:GM X ts tg g) (hb:SMs X body sb)
    (hs:∀ x,foldedSetIterable iter X.env x=pure x:=by intro _;rfl):SM X (.For tg iter body [] pos) (sFor ms mi g sb):=PS.imp (ps_for hp hc hi hg hb hs) fun D σ H ⟨B,F₀,F,γ,o,S,e,ok⟩=>by
  obtain ⟨xs,e1,e2⟩:=Qg e
  obtain ⟨F1,S1,x1,er⟩:=S.see ms
  exact ⟨F1,γ,xs,S1.sub,er,e1,fun J H' F' gr it=>Qhj (S1.grow gr) it e2 ok⟩
noncomputable def Qgp (mi:PEnv→Option (List PV)) (g:PV→PEnv→Option PEnv) (b:MSt):MSt:=fun γ=>(mi γ).bind fun xs=>forL g b xs γ
noncomputable def IMR (X:Cx) (ms:List Nat) (tg iter:Expr) (m:PEnv→Option (List PV)):Prop:=PI X tg iter fun σ H R=>∃ F γ xs,Same F H∧ERep X.K F σ γ ms∧m γ=some xs∧∀ J H',Same H H'→(∀ F,ItRep X.K J F xs)→R J H'
theorem QdW {tg iter:Expr} {ts:List Nat} {mi:PEnv→Option (List PV)} {g:PV→PEnv→Option PEnv} {sb:MSt} {body:List Stmt} (hp:PassesOwn (model X.prog X.w) X.A X.env X.xe) (hc:X.calm=true) (hi:IMR X ms tg iter mi) (hg:GM X ts tg g) (hb:SMs X body sb)
    (hs:∀ x,foldedSetIterable iter X.env x=pure x:=by intro _;rfl):SM X (.For tg iter body [] pos) (Qgp mi g sb):=PS.imp (ps_for hp hc hi hg hb hs) fun D σ H ⟨B,F₀,F,γ,o,S,e,ok⟩=>by
  obtain ⟨xs,e1,e2⟩:=Qg e
  obtain ⟨F1,S1,x1,er⟩:=S.see ms
  exact ⟨F1,γ,xs,S1.sub,er,e1,fun J H' sm it=>Qhj (S.same sm) (it F) e2 ok⟩
theorem QbM {tg:Expr} (hg:Gl X "range") (hm:X.mg "range"=none) (ha:AM X ms [a] (Qe m aNil)) (hs:starEach [a] X.env=[(false,eval a X.env)]:=by rfl):IMR X ms tg (.Call (.Name "range" p2) [a] [] pos) (iRg1 m) :=
  PI.imp (QeQ hg hm ha hs) fun σ H R ⟨F,γ,xs,h1,h2,h3,w⟩=>by
    obtain ⟨p,e1,e2⟩:=Qg h3
    refine ⟨F,γ,[p],h1,h2,by simp [Qe,aNil,e1],fun vs H' F' g q => ?_⟩
    unfold RepL at q
    obtain ⟨v,t,rfl,q,qt⟩:=q
    unfold RepL at qt
    subst qt
    cases p with
    | int j =>
      obtain ⟨c,rfl⟩:=Zo e2
      obtain ⟨c1,c2⟩:=Qbw c
      unfold Rep at q
      subst q
      refine ⟨j,rfl,c1,c2,w _ _ g.same fun F => ?_⟩
      have:=Qjc (K:=X.K) (F:=F) 0 j
      simpa using this
    | _=>cases e2
noncomputable def QaI (t:PEnv→Option Bool) (b:MSt):Nat→PEnv→Option Out
  | 0,_=>none
  | n + 1,γ=>(t γ).bind fun k=>if k=true then (b γ).bind fun o=>match o with
      | .nx γ2=>QaI t b n γ2
      | .ct γ2=>QaI t b n γ2
      | .bk γ2=>some (.nx γ2)
      | .rt p=>some (.rt p)
      | .ro ys=>some (.ro ys)
    else some (.nx γ)
noncomputable def Qcn (N:Nat) (t:PEnv→Option Bool) (b:MSt):MSt:=QaI t b N
theorem Qea (N:Nat) {t:PEnv→Option Bool} {sb:MSt} {body:List Stmt} (hp:PassesOwn (model X.prog X.w) X.A X.env X.xe) (hc:TM X ms c t) (hb:SMs X body sb):SM X (.While c body [] pos) (Qcn N t sb):=PS.imp (ps_while hp hc hb) fun D σ H ⟨B,F₀,F,γ,o,S,e,ok⟩=>by
  refine ⟨fun n σ H=>∃ F γ,SR X.K B F₀ F σ H γ∧QaI t sb n γ=some o,⟨N,F,γ,S,e⟩,?_⟩
  rintro n σ1 H1 ⟨F1,γ1,S1,e1⟩
  cases n with
  | zero=>cases e1
  | succ n =>
    unfold QaI at e1
    obtain ⟨k,e2,e1⟩:=Qg e1
    obtain ⟨F2,S2,x2,er⟩:=S1.see ms
    refine ⟨F2,γ1,k,S2.sub,er,e2,fun H' F' g => ?_⟩
    cases k with
    | true =>
      rw [if_pos rfl] at e1 ⊢
      obtain ⟨ob,e3,e1⟩:=Qg e1
      refine ⟨fun σ H=>∃ F γ,SR X.K B F₀ F σ H γ∧QaI t sb n γ=some o,fun σ' H' q=>⟨n,Nat.lt_succ_self n,q⟩,B,F₀,F1,γ1,ob,S1.same g.same,e3,?_⟩
      cases ob with
      | nx γ5=>exact fun σ H F S=>⟨F,γ5,S,e1⟩
      | ct γ5=>exact fun σ H F S=>⟨F,γ5,S,e1⟩
      | bk γ5=>cases e1;exact ok
      | rt p=>cases e1;exact ok
      | ro ys=>cases e1;exact ok
    | false =>
      rw [if_neg Bool.false_ne_true] at e1 ⊢
      cases e1
      exact ok σ1 H' F1 (S1.same g.same)
end
end L2.PM

noncomputable section
namespace L2.PM
open PySem PySem.Spec PyProof.Rows

noncomputable def capS (γ:PEnv) (j:Nat):Slot:=match getV γ j with
  | some p => .fz p
  | none => .un
noncomputable def blkG (nt:Nat) (caps:List Nat) (γ:PEnv):PEnv:=List.replicate nt .un++caps.map (capS γ)
noncomputable def Xc (g:PV→PEnv→Option PEnv) (t:PEnv→Option Bool) (e:MEx) (γ:PEnv):List PV→Option (List PV)
  | []=>some []
  | x :: xs=>(g x γ).bind fun γ1=>(t γ1).bind fun k=>if k=true then (e γ1).bind fun y=>(Xc g t e γ xs).map (y :: ·) else Xc g t e γ xs
noncomputable def YQ (mi:PEnv→Option (List PV)) (nt:Nat) (caps:List Nat) (g:PV→PEnv→Option PEnv) (t:PEnv→Option Bool) (e:MEx):PEnv→Option (List PV) :=
  fun γ=>(mi γ).bind fun xs=>if xs.length≤LIM then Xc g t e (blkG nt caps γ) xs else none
noncomputable def Qap:PEnv→Option Bool:=fun _=>some true
noncomputable def IfM (X:Cx) (ms:List Nat) (ifs:List Expr) (t:PEnv→Option Bool):Prop:=PIfs X ifs (tMT X.K ms t)
theorem QbH {X:Cx}:IfM X [] [] Qap:=fun pins s σ H Q I ⟨F,γ,r,h1,h2,h3,w⟩=>pifs_nil pins s σ H Q I (by
  cases h3
  exact w H F (.refl h1))
theorem QbG {X:Cx} {ms:List Nat} {c:Expr} {t:PEnv→Option Bool} (h:TM X ms c t):IfM X ms [c] t:=pifs_one h

theorem blk_sr {K:PySem.W.Frag} {F H:Hp} {σ:St} {γ:PEnv} {nt:Nat} {caps:List Nat} (h:Same F H) (er:ERep K F σ γ caps):SR K H F F (XE nt caps σ) H (blkG nt caps γ):=by
  have key:∀ (i:Nat) (t:Slot),(blkG nt caps γ)[i]?=some t→t = .un∨∃ j p,caps[i - nt]?=some j∧nt≤i∧getV γ j=some p∧t = .fz p:=fun i t e=>by
    unfold blkG at e
    by_cases hi:i < nt
    · rw [List.getElem?_append_left (by simpa using hi),List.getElem?_replicate,if_pos hi] at e
      exact .inl (Option.some.inj e).symm
    · rw [List.getElem?_append_right (by simpa using hi),List.length_replicate,List.getElem?_map] at e
      cases q:caps[i - nt]? with
      | none=>rw [q] at e;cases e
      | some j =>
        rw [q] at e
        have e:capS γ j=t:=Option.some.inj e
        unfold capS at e
        split at e
        · rename_i p hp
          exact .inr ⟨j,p,rfl,by omega,hp,e.symm⟩
        · exact .inl e.symm
  refine ⟨h,Same.refl _,Same.refl _,fun a o e => .inl e,by simp [XE,blkG],fun i p e => ?_,fun i xs e => ?_,fun i j xs ys a _ e => ?_⟩
  · rcases key i _ e with z | ⟨j,p',e1,hi,e2,z⟩
    · cases z
    · cases z
      obtain ⟨v,h1,h2⟩:=er j (List.mem_of_getElem? e1) p e2
      refine ⟨v,?_,h2⟩
      unfold XE
      rw [List.getElem?_append_right (by simpa using hi),List.length_replicate,List.getElem?_map,e1]
      show some ((σ[j]?).getD none)=some (some v)
      rw [h1]
      rfl
  · rcases key i _ e with z | ⟨j,p',e1,hi,e2,z⟩ <;> cases z
  · rcases key i _ e with z | ⟨j',p',e1,hi,e2,z⟩ <;> cases z
theorem Qef {γ:PEnv} {i:Nat} {p:PV} (h:∀ (j:Nat) xs,γ[j]?≠some (.ow xs)):∀ (j:Nat) xs,(γ.set i (.fz p))[j]?≠some (.ow xs):=fun j xs e=>by
  by_cases z:i=j
  · subst z
    by_cases hi:i < γ.length
    · rw [List.getElem?_set_self hi] at e;cases e
    · rw [List.getElem?_eq_none (by simpa using hi)] at e;cases e
  · rw [List.getElem?_set_ne z] at e;exact h j xs e
theorem noOw_blk {nt:Nat} {caps:List Nat} {γ:PEnv}:∀ (j:Nat) xs,(blkG nt caps γ)[j]?≠some (.ow xs):=fun j xs e=>by
  unfold blkG at e
  by_cases hi:j < nt
  · rw [List.getElem?_append_left (by simpa using hi),List.getElem?_replicate,if_pos hi] at e;cases e
  · rw [List.getElem?_append_right (by simpa using hi),List.length_replicate,List.getElem?_map] at e
    cases q:caps[j - nt]? with
    | none=>rw [q] at e;cases e
    | some k =>
      rw [q] at e
      have e:capS γ k = .ow xs:=Option.some.inj e
      unfold capS at e
      split at e <;> cases e
noncomputable def NoOw (g:PV→PEnv→Option PEnv):Prop:=∀ p γ γ',g p γ=some γ'→(∀ (j:Nat) xs,γ[j]?≠some (.ow xs))→∀ (j:Nat) xs,γ'[j]?≠some (.ow xs)
theorem Zc (i:Nat):NoOw (gSet i):=fun p γ γ' e h=>by cases e;exact Qef h
theorem QdH (i j:Nat):NoOw (XC i j):=fun p γ γ' e h=>by
  unfold XC at e
  split at e
  · cases e;exact Qef (Qef h)
  · cases e

section
variable {X:Cx} {pins:List (Addr×Obj)} {scope:Scope} {N':List Str} {nt:Nat} {caps:List Nat} {tg iter elt:Expr} {ifs:List Expr} {pos:Pos} {ms ns ls:List Nat} {ts:List Nat}
  {mi:PEnv→Option (List PV)} {g:PV→PEnv→Option PEnv} {t:PEnv→Option Bool} {m:MEx}
theorem Qfi {K:PySem.W.Frag} {F1 H1:Hp} {J:It} {σ:St} {γ:PEnv} {xs ys:List PV} {Qd:Addr→Hp→Prop} (hts:∀ i∈ts,i < nt) (hno:NoOw g) (h1:Same F1 H1) (er:ERep K F1 σ γ caps) (it:ItRep K J F1 xs) (hl:xs.length≤LIM) (e:Xc g t m (blkG nt caps γ) xs=some ys)
    (w:∀ D vs H2 F2,Grow F1 H1 F2 H2→H1 D=none→F2 D=none→H2 D=some (.lst vs)→RepL K F2 ys vs→Qd D H2) :
    QeM J nt caps (tMG K ts g) (tMT K ns t) (tM K ls m) σ H1 Qd:=by
  intro D hD
  have nF1:F1 D=none:=h1.free hD
  refine ⟨fun i k acc H=>k=xs.length - i∧i≤xs.length∧∃ F ps rest,Grow F1 H1 F H∧F D=none∧H D=some (.lst acc)∧RepL K F ps acc∧Xc g t m (blkG nt caps γ) (xs.drop i)=some rest∧ps++rest=ys∧ps.length≤i,
    ⟨xs.length,by simp,Nat.zero_le _,F1,[],ys,.side h1 hD,nF1,Qv,.nil,by simpa using e,rfl,Nat.le_refl _⟩,?_⟩
  rintro i k acc H ⟨rfl,hi,F,ps,rest,gr,nF,hH,rp,e,ey,hpl⟩
  by_cases hlt:i < xs.length
  · refine .inr ⟨it.go i H hlt (gr.ext.trans gr.sub),fun x H3 y => ?_⟩
    obtain ⟨p,e3,hy⟩:=it.yld i H x H3 hlt (gr.ext.trans gr.sub) y
    obtain ⟨F3,g3,r3⟩:=hy F gr.ext gr.sub
    have ed:xs.drop i=p :: xs.drop (i + 1):=by
      obtain ⟨q1,q2⟩:=List.getElem?_eq_some_iff.mp e3
      rw [← q2]
      exact List.drop_eq_getElem_cons q1
    rw [ed] at e
    unfold Xc at e
    obtain ⟨γ4,e4,e⟩:=Qg e
    obtain ⟨b,e5,e⟩:=Qg e
    have g13:=gr.trans g3
    have S3:=blk_sr (nt:=nt) g3.sub (er.mono g13.ext)
    refine ⟨H3,F3,F3,_,p,γ4,S3,r3,e4,fun σ4 S4 l4 k4=>⟨⟨l4,fun n v hv => ?_⟩,?_⟩⟩
    · by_cases hn:n∈ts
      · have hn':=hts n hn
        unfold XE at hv
        rw [List.getElem?_append_left (by simpa using hn'),List.getElem?_replicate,if_pos hn'] at hv
        cases hv
      · rw [k4 n hn];exact hv
    · have no4:=hno p _ γ4 e4 noOw_blk
      refine ⟨F3,γ4,b,g3.sub,S4.erep fun j _=>no4 j,e5,fun H5 F5 g5 => ?_⟩
      have nD:∀ {F' H':Hp},Grow F H F' H'→F' D=none:=fun {F' H'} gg=>by
        cases q:F' D with
        | none=>rfl
        | some o =>
          rcases gg.new D o q with z | z
          · rw [nF] at z;cases z
          · rw [hH] at z;cases z
      dsimp only
      cases b with
      | true =>
        rw [if_pos rfl] at e ⊢
        obtain ⟨yv,e6,e⟩:=Qg e
        obtain ⟨rest',e7,e8⟩:=Yl e
        refine ⟨F5,γ4,yv,g5.sub,(S4.erep fun j _=>no4 j).mono g5.ext,e6,fun v H6 F6 g6 q6 => ?_⟩
        have gg:=g3.trans (g5.trans g6)
        have hD6:H6 D=some (.lst acc):=gg.same _ _ hH
        have nF6:=nD gg
        refine ⟨hD6,?_,xs.length - (i + 1),by omega,rfl,hlt,F6,ps++[yv],rest',?_,nF6,Qv,(rp.mono gg.ext).snoc q6,e7,?_,?_⟩
        · rw [rp.length]
          exact Nat.lt_of_lt_of_le (by omega) Yz
        · have g16:=gr.trans gg
          refine ⟨g16.ext,fun a o q => ?_,fun a o q => ?_,g16.new⟩
          · rw [Qt (Qu q nF6)];exact g16.sub a o q
          · rw [Qt (Qu q hD)];exact g16.same a o q
        · rw [List.append_assoc,List.singleton_append,e8];exact ey
        · rw [List.length_append,List.length_singleton];omega
      | false =>
        rw [if_neg Bool.false_ne_true] at e ⊢
        have gg:=g3.trans g5
        exact ⟨xs.length - (i + 1),by omega,rfl,hlt,F5,ps,rest,gr.trans gg,nD gg,gg.same _ _ hH,rp.mono gg.ext,e,ey,by omega⟩
  · have e':i=xs.length:=by omega
    subst e'
    rw [List.drop_length] at e
    cases e
    rw [List.append_nil] at ey
    subst ey
    exact .inl ⟨it.stop H (gr.ext.trans gr.sub),w D acc H F gr hD nF hH rp⟩
theorem XO (hc:X.calm=true) (ck:CompOk X.N X.env.scope scope N' nt caps) (hts:∀ i∈ts,i < nt) (hno:NoOw g) (hi:IM X ms tg iter mi)
    (hg:∀ pins cl C s H fp,GM (Qas X pins N' (Zn X.env.scope scope) cl C s H fp) ts tg g)
    (ht:∀ pins cl C s H fp,IfM (Qas X pins N' (Zn X.env.scope scope) cl C s H fp) ns ifs t)
    (he:∀ pins cl C s H fp,EM (Qas X pins N' (Zn X.env.scope scope) cl C s H fp) ls elt m)
    (hs:∀ x,foldedSetIterable iter X.env x=pure x:=by intro _;rfl) (hrel:relabel scope X.env=Zn X.env.scope scope:=by rfl) :
    EO X (ms++caps) (.ListComp elt [⟨tg,iter,ifs,0⟩] scope pos) (YQ mi nt caps g t m) :=
  PE.imp (pe_comp (g:=tMG X.K ts g) (tc:=tMT X.K ns t) (te:=tM X.K ls m) hc ck hi hg ht he hs hrel) fun σ H Q ⟨F,γ,ys,h1,h2,h3,w⟩=>by
    obtain ⟨xs,e1,h3⟩:=Qg h3
    have hl:xs.length≤LIM:=by
      by_cases c:xs.length≤LIM
      · exact c
      · rw [if_neg c] at h3;cases h3
    rw [if_pos hl] at h3
    refine ⟨F,γ,xs,h1,h2.left,e1,fun J H1 F1 g1 it => ?_⟩
    exact Qfi hts hno g1.sub (h2.right.mono g1.ext) it hl h3 fun D vs H2 F2 g2 n nF hH q=>w D vs H2 F2 (g1.trans g2) (g1.same.free n) nF hH q
theorem Qgo {i:Nat} {y:Str} {py spos:Pos} (hN:X.N.Nodup) (hi':X.N[i]?=some y) (hy:X.env.scope.names.lookup y=some .local) (hc:X.calm=true) (ck:CompOkC X.N X.env.scope scope N' nt caps) (hts:∀ i∈ts,i < nt) (hno:NoOw g) (hi:IM X ms tg iter mi)
    (hg:∀ pins cl C s H fp,GM (Xk X (ownC scope) pins N' (Zn X.env.scope scope) cl C s H fp) ts tg g)
    (ht:∀ pins cl C s H fp,IfM (Xk X (ownC scope) pins N' (Zn X.env.scope scope) cl C s H fp) ns ifs t)
    (he:∀ pins cl C s H fp,EM (Xk X (ownC scope) pins N' (Zn X.env.scope scope) cl C s H fp) ls elt m)
    (hsw:swapsWith (.ListComp elt [⟨tg,iter,ifs,0⟩] scope pos) (some (.Name y py)) spos.line X.env=pure true:=by rfl)
    (hs:∀ x,foldedSetIterable iter X.env x=pure x:=by intro _;rfl) (hrel:relabel scope X.env=Zn X.env.scope scope:=by rfl) :
    SM X (.Assign [.Name y py] (.ListComp elt [⟨tg,iter,ifs,0⟩] scope pos) spos) (Yv (ms++caps) i (YQ mi nt caps g t m)) :=
  PS.imp (Qgs (g:=tMG X.K ts g) (tc:=tMT X.K ns t) (te:=tM X.K ls m) hN hi' hy hc ck hi hg ht he hsw hs hrel) fun D σ H ⟨B,F₀,F,γ,o,S,e,ok⟩=>by
    obtain ⟨ys,h3,e2⟩:=Yl e
    subst e2
    obtain ⟨xs,e1,h3⟩:=Qg h3
    have hl:xs.length≤LIM:=by
      by_cases c:xs.length≤LIM
      · exact c
      · rw [if_neg c] at h3;cases h3
    rw [if_pos hl] at h3
    obtain ⟨F1,S1,x1,er⟩:=S.see (ms++caps)
    refine ⟨F1,γ,xs,S1.sub,er.left,e1,fun J H1 F2 g1 it => ?_⟩
    refine Qfi hts hno g1.sub (er.right.mono g1.ext) it hl h3 fun D vs H2 F3 g2 n nF hH q => ?_
    obtain ⟨F4,S4⟩:=S.setNew x1 S1 (g1.trans g2) (g1.same.free n) nF hH q i
    exact ok _ _ F4 S4
theorem ZZ {i:Nat} {y:Str} {py spos:Pos} (hN:X.N.Nodup) (hi':X.N[i]?=some y) (hy:X.env.scope.names.lookup y=some .local) (hc:X.calm=true) (ck:CompOk X.N X.env.scope scope N' nt caps) (hts:∀ i∈ts,i < nt) (hno:NoOw g) (hi:IM X ms tg iter mi)
    (hg:∀ pins cl C s H fp,GM (Qas X pins N' (Zn X.env.scope scope) cl C s H fp) ts tg g)
    (ht:∀ pins cl C s H fp,IfM (Qas X pins N' (Zn X.env.scope scope) cl C s H fp) ns ifs t)
    (he:∀ pins cl C s H fp,EM (Qas X pins N' (Zn X.env.scope scope) cl C s H fp) ls elt m)
    (hsw:swapsWith (.ListComp elt [⟨tg,iter,ifs,0⟩] scope pos) (some (.Name y py)) spos.line X.env=pure true:=by rfl)
    (hs:∀ x,foldedSetIterable iter X.env x=pure x:=by intro _;rfl) (hrel:relabel scope X.env=Zn X.env.scope scope:=by rfl) :
    SM X (.Assign [.Name y py] (.ListComp elt [⟨tg,iter,ifs,0⟩] scope pos) spos) (Yv (ms++caps) i (YQ mi nt caps g t m)):=Qgo hN hi' hy hc ck.C hts hno hi (by rw [ck.eqC];exact hg) (by rw [ck.eqC];exact ht) (by rw [ck.eqC];exact he) hsw hs hrel
end

noncomputable def ZR (n:Nat) (ps:List PV):PEnv:=ps.map .fz++List.replicate (n - ps.length) .un
noncomputable def outV:Out→Option PV
  | .nx _=>some .non
  | .rt p=>some p
  | .ro xs=>some (.lst xs)
  | _=>none
noncomputable def outO:Out→Option (List PV)
  | .ro xs=>some xs
  | _=>none
noncomputable def runV (N n:Nat) (m:MSt) (ps:List PV):Option PV:=if ps.length=n then (m (ZR N ps)).bind outV else none
noncomputable def runO (N n:Nat) (m:MSt) (ps:List PV):Option (List PV):=if ps.length=n then (m (ZR N ps)).bind outO else none
theorem Qy {N n:Nat} {m:MSt}:∀ ps r,runV N n m ps=some r→ps.length=n:=fun ps r h=>by
  unfold runV at h
  by_cases c:ps.length=n
  · exact c
  · rw [if_neg c] at h;cases h
theorem runO_len {N n:Nat} {m:MSt}:∀ ps r,runO N n m ps=some r→ps.length=n:=fun ps r h=>by
  unfold runO at h
  by_cases c:ps.length=n
  · exact c
  · rw [if_neg c] at h;cases h
theorem Qcr {K:PySem.W.Frag} {F H:Hp} {N:List Str} {ps:List PV} {vs:List V} (h:Same F H) (r:RepL K F ps vs):SR K H F F (XV N vs) H (ZR N.length ps):=by
  have key:∀ (i:Nat) (t:Slot),(ZR N.length ps)[i]?=some t→t = .un∨∃ p,ps[i]?=some p∧t = .fz p:=fun i t e=>by
    unfold ZR at e
    by_cases hi:i < ps.length
    · rw [List.getElem?_append_left (by simpa using hi),List.getElem?_map] at e
      cases q:ps[i]? with
      | none=>rw [q] at e;cases e
      | some p=>rw [q] at e;exact .inr ⟨p,rfl,(Option.some.inj e).symm⟩
    · rw [List.getElem?_append_right (by simpa using hi),List.getElem?_replicate] at e
      split at e
      · exact .inl (Option.some.inj e).symm
      · cases e
  refine ⟨h,Same.refl _,Same.refl _,fun a o e => .inl e,?_,fun i p e => ?_,fun i xs e => ?_,fun i j xs ys a _ e => ?_⟩
  · unfold XV ZR
    rw [List.length_append,List.length_append,List.length_map,List.length_map,List.length_replicate,List.length_replicate,r.length]
  · rcases key i _ e with z | ⟨p',e1,z⟩
    · cases z
    · cases z
      obtain ⟨v,h1,h2⟩:=r.get e1
      refine ⟨v,?_,h2⟩
      unfold XV
      have hi:i < vs.length:=(List.getElem?_eq_some_iff.mp h1).1
      rw [List.getElem?_append_left (by simpa using hi),List.getElem?_map,h1]
      rfl
  · rcases key i _ e with z | ⟨p',e1,z⟩ <;> cases z
  · rcases key i _ e with z | ⟨p',e1,z⟩ <;> cases z
section
variable {P:Program} {w:World} {K:PySem.W.Frag} {mg:Str→Option Value} {base:Heap}
theorem fnM {x qual:Str} {st:Stmt} {f:Addr} {fd:FuncData} {N ps:List Str} {k n:Nat} {m:MSt} (Fn:Fun K x qual st f fd) (Sc:FnScope N ps (Qc st)) (hn:ps.length=n)
    (hbody:∀ (cdv:Value) (A:Around) (outer:List Env) (s:Shared) (H:Hp) (E:XK),Room k (A.deeper (envOfC qual (Qc st) s.heap.objs.size f cdv)) →
      SMs (cxOf CX0 P w K mg base N qual (Qc st) f cdv A outer s H E).nox (Qn st) m):FnOk P w K mg base CX0 (k + 1) f fd ps (spM K n (runV N.length n m)):=by
  refine Fn.ok Sc (fun vs H Q E h=>by rw [h.1,hn]) fun cdv A outer s H vs Q E hr h => ?_
  refine ⟨_,hbody cdv A outer s H E hr,?_⟩
  obtain ⟨hl,F,qs,r,h1,h2,h3,wv⟩:=h
  unfold runV at h3
  have hq:qs.length=n:=by rw [← h2.length];exact hl
  rw [if_pos hq] at h3
  obtain ⟨o,e1,e2⟩:=Qg h3
  refine ⟨H,F,F,_,o,Qcr h1 h2,e1,?_⟩
  cases o with
  | nx γ=>cases e2;exact fun σ' H' F' S=>wv .non H' F' S.gr QiS
  | rt p=>cases e2;exact fun v H' F' g q=>wv v H' F' g q
  | ro xs=>cases e2;exact fun a vs H' F' g n nF hH q=>wv.of_lst a vs H' F' g n nF hH q
  | bk γ=>cases e2
  | ct γ=>cases e2
theorem fnO {x qual:Str} {st:Stmt} {f:Addr} {fd:FuncData} {N ps:List Str} {k n:Nat} {m:MSt} (Fn:Fun K x qual st f fd) (Sc:FnScope N ps (Qc st)) (hn:ps.length=n)
    (hbody:∀ (cdv:Value) (A:Around) (outer:List Env) (s:Shared) (H:Hp) (E:XK),Room k (A.deeper (envOfC qual (Qc st) s.heap.objs.size f cdv)) →
      SMs (cxOf CX0 P w K mg base N qual (Qc st) f cdv A outer s H E).nox (Qn st) m):FnOk P w K mg base CX0 (k + 1) f fd ps (spO K n (runO N.length n m)):=by
  refine Fn.ok Sc (fun vs H Q E h=>by rw [h.1,hn]) fun cdv A outer s H vs Q E hr h => ?_
  refine ⟨_,hbody cdv A outer s H E hr,?_⟩
  obtain ⟨hl,F,qs,r,h1,h2,h3,wv⟩:=h
  unfold runO at h3
  have hq:qs.length=n:=by rw [← h2.length];exact hl
  rw [if_pos hq] at h3
  obtain ⟨o,e1,e2⟩:=Qg h3
  refine ⟨H,F,F,_,o,Qcr h1 h2,e1,?_⟩
  cases o with
  | ro xs=>cases e2;exact fun a vs H' F' g n nF hH q=>wv a vs H' F' g n nF hH q
  | nx γ=>cases e2
  | rt p=>cases e2
  | bk γ=>cases e2
  | ct γ=>cases e2
theorem _root_.L2.FnOk.sw {k n:Nat} {f:Addr} {fd:FuncData} {ps:List Str} {g g':List PV→Option PV} (F:FnOk P w K mg base CX0 k f fd ps (spM K n g)) (h:∀ qs r,g' qs=some r→g qs=some r):FnOk P w K mg base CX0 k f fd ps (spM K n g') :=
  F.imp fun vs H Q E ⟨hl,F,qs,r,h1,h2,h3,wv⟩=>⟨hl,F,qs,r,h1,h2,h qs r h3,wv⟩
end
end L2.PM

noncomputable section
namespace L2.PM
open PySem PySem.Spec PyProof.Rows

section
variable {X:Cx} {e a b c:Expr} {es:List Expr} {ms ns ls:List Nat} {m m1 m2 m3:MEx} {pos p p2 p3:Pos} {x:Str} {id T:String}

noncomputable def tyName:PV→String
  | .non => "NoneType"
  | .bl _ => "bool"
  | .int _ => "int"
  | .str _ => "str"
  | .tup _ => "tuple"
  | .lst _ => "list"
  | .obj _ _ _ => "object"
  | .opq _ => "object"
noncomputable def isO:PV→Bool
  | .obj _ _ _=>true
  | .opq _=>true
  | _=>false
noncomputable def isInt:PV→Bool
  | .int _=>true
  | .bl _=>true
  | _=>false
noncomputable def isBl:PV→Bool
  | .bl _=>true
  | _=>false
noncomputable def isStr:PV→Bool
  | .str _=>true
  | _=>false
noncomputable def Qes:PV→Bool
  | .tup _=>true
  | _=>false
noncomputable def isLst:PV→Bool
  | .lst _=>true
  | _=>false
noncomputable def Isi (T:String) (f:PV→Bool):Prop:=∀ (p:PV) (K:PySem.W.Frag),isO p=false→PySem.W.kitOne K (.type (tyName p)) (.type T)=some (f p)
theorem isi_int:Isi "int" isInt:=fun p K ho=>by cases p <;> first | (cases ho;done) | kernel_rfl
theorem isi_bl:Isi "bool" isBl:=fun p K ho=>by cases p <;> first | (cases ho;done) | kernel_rfl
theorem isi_str:Isi "str" isStr:=fun p K ho=>by cases p <;> first | (cases ho;done) | kernel_rfl
theorem QdX:Isi "tuple" Qes:=fun p K ho=>by cases p <;> first | (cases ho;done) | kernel_rfl
theorem Qia {pins:List (Addr×Obj)} {σ:St} {H F:Hp} {s:Shared} {A:Around} {E:Value→Shared→Prop} {Q:Value→Shared→Prop} {v:V} {u:Value} {q:PV} {f:PV→Bool} (I:Inv X pins σ H s) (hF:Same F H) (hi:Isi T f) (r:Rep X.K F q v) (rv:RelV v u)
    (ho:isO q=false) (h:∀ tk,Q (.bool (f q)) { s with toks:=tk }):wpAny (model X.prog X.w) A (call (.builtin "isinstance") [u,.type T]) Q E s:=by
  have e:=hi q X.K ho
  cases q with
  | non=>unfold Rep at r;subst r;cases rv;exact PySem.W.kia_one PySem.W.kitx_none I.kIn True.intro e (fun z=>nomatch z) h
  | bl y=>unfold Rep at r;subst r;cases rv;exact PySem.W.kia_one PySem.W.kitx_bool I.kIn True.intro e (fun z=>nomatch z) h
  | int y=>unfold Rep at r;subst r;obtain ⟨t,rfl⟩:=rv;exact PySem.W.kia_one PySem.W.kitx_int I.kIn True.intro e (fun z=>nomatch z) h
  | str y=>unfold Rep at r;subst r;obtain ⟨t,rfl⟩:=rv;exact PySem.W.kia_one PySem.W.kitx_str I.kIn True.intro e (fun z=>nomatch z) h
  | tup ys =>
    unfold Rep at r
    obtain ⟨a,vs,rfl,k2,_⟩:=r
    cases rv
    obtain ⟨its,_,⟨o,ho,hc,_⟩,_⟩:=I.tuple (hF.seqT k2)
    exact PySem.W.kia_one PySem.W.kitx_tuple I.kIn ⟨o,ho,hc⟩ e (fun z=>nomatch z) h
  | lst ys =>
    unfold Rep at r
    obtain ⟨a,vs,rfl,k2,_⟩:=r
    cases rv
    obtain ⟨its,_,⟨o,n,ho,hc,_⟩,_⟩:=I.list (hF.seq k2)
    exact PySem.W.kia_one PySem.W.kitx_list I.kIn ⟨o,ho,hc⟩ e (fun z=>nomatch z) h
  | obj=>cases ho
  | opq=>cases ho
theorem QgI {f:PV→Bool} (hi:Isi T f):Xv X (.builtin "isinstance") (fun vs H Q=>∃ F v q,vs=[v,.ty T]∧Same F H∧Rep X.K F q v∧isO q=false∧Q (.bl (f q)) H):=by
  intro pins s σ H vs us Q I rs h
  obtain ⟨F,v,q,rfl,h1,h2,ho,h3⟩:=h
  obtain ⟨u,w,rfl,ru,rw'⟩:=vals2 rs
  obtain rfl:w=Value.type T:=rw'
  exact Qia I h1 hi h2 ru ho fun tk=>⟨.bl (f q),H,I.tok tk,rfl,h3⟩
noncomputable def isiK (f:PV→Bool) (q:PV):Option PV:=if isO q=false then some (.bl (f q)) else none
noncomputable def mIsi (f:PV→Bool) (m:MEx):MEx:=fun γ=>(m γ).bind (isiK f)
theorem YO {f:PV→Bool} (hi:Isi T f) (h:EM X ms e m) (hg:Gl X "isinstance") (hm:X.mg "isinstance"=none) (hgT:Gl X x) (hmT:X.mg x=none) (hvT:bootBuiltins x=some (.type T))
    (hn:x ≠ "__name__":=by decide) (hdb:(x==("__debug__":Str))=false:=by decide)
    (hs1:starEach (e :: [.Name x p3]) X.env=(false,eval e X.env) :: starEach [.Name x p3] X.env:=by rfl) (hs2:starEach [.Name x p3] X.env=(false,eval (.Name x p3) X.env) :: starEach [] X.env:=by rfl) (hpl:(backTo pos (starEach [.Name x p3] X.env)).any (·.1)=false:=by rfl) :
    EM X ms (.Call (.Name "isinstance" p2) [e,.Name x p3] [] pos) (mIsi f m) :=
  PE.imp (Qct (QgI hi) hg hm (by kernel_rfl) (Qby h (Qby (pe_bltn (v := .ty T) hgT hmT hvT rfl hn hdb) QfX hs2) hs1) (by decide) (by decide) hs1 hpl) fun σ H Q ⟨F,γ,r,k1,k2,k3,w⟩=>by
    obtain ⟨q,e1,e2⟩:=Qg k3
    obtain ⟨ho,e2⟩:=Zo (show (if isO q=false then some (PV.bl (f q)) else none)=some r from e2)
    subst e2
    exact ⟨F,γ,q,k1,k2,e1,fun v H1 F1 g1 q1=>⟨F1,v,q,rfl,g1.sub,q1,ho,(w.go g1).here g1.sub (ZS _)⟩⟩

noncomputable def pLen:List PV→Option PV
  | [.lst xs]=>some (.int xs.length)
  | [.tup xs]=>some (.int xs.length)
  | [.str z]=>if z.length≤LIM then some (.int z.length) else none
  | _=>none
theorem Yw:QgJ X (.builtin "len") pLen:=by
  intro pins s σ H vs us Q I rs h
  obtain ⟨F,ps,r,h1,h2,h3,w⟩:=h
  refine call_len pins s σ H vs us Q I rs ?_
  unfold pLen at h3
  split at h3
  · cases h3
    unfold RepL at h2
    obtain ⟨v,t,rfl,h2,ht⟩:=h2
    unfold RepL at ht
    subst ht
    unfold Rep at h2
    obtain ⟨a,us,rfl,k2,k3⟩:=h2
    exact ⟨.ref a,_,rfl,.inl ⟨us,h1.seq k2,k3.length.symm⟩,w.here h1 (QV _)⟩
  · cases h3
    unfold RepL at h2
    obtain ⟨v,t,rfl,h2,ht⟩:=h2
    unfold RepL at ht
    subst ht
    unfold Rep at h2
    obtain ⟨a,us,rfl,k2,k3⟩:=h2
    exact ⟨.ref a,_,rfl,.inr ⟨us,h1.seqT k2,k3.length.symm⟩,w.here h1 (QV _)⟩
  · rename_i z
    obtain ⟨c,rfl⟩:=Zo h3
    unfold RepL at h2
    obtain ⟨v,t,rfl,h2,ht⟩:=h2
    unfold RepL at ht
    subst ht
    unfold Rep at h2
    subst h2
    exact ⟨.str z,_,rfl,⟨Nat.le_trans c Yz,rfl⟩,w.here h1 (QV _)⟩
  · cases h3
noncomputable def QeF:List PV→Option (List PV)
  | [.lst xs]=>some xs
  | [.tup xs]=>some xs
  | _=>none
noncomputable def Qae:List PV→Option PV
  | [.lst xs]=>some (.tup xs)
  | [.tup xs]=>some (.tup xs)
  | _=>none
theorem co_list:CallO X (.type "list") QeF:=by
  intro pins s σ H vs us Q I rs h
  obtain ⟨F,ps,r,h1,h2,h3,w⟩:=h
  refine QfI pins s σ H vs us Q I rs ?_
  unfold QeF at h3
  split at h3
  · cases h3
    unfold RepL at h2
    obtain ⟨v,t,rfl,h2,ht⟩:=h2
    unfold RepL at ht
    subst ht
    unfold Rep at h2
    obtain ⟨a,us,rfl,k2,k3⟩:=h2
    exact ⟨a,us,rfl,.inl (h1.seq k2),fun l hl=>w l us _ F (.side h1 hl) hl (h1.free hl) Qv k3⟩
  · cases h3
    unfold RepL at h2
    obtain ⟨v,t,rfl,h2,ht⟩:=h2
    unfold RepL at ht
    subst ht
    unfold Rep at h2
    obtain ⟨a,us,rfl,k2,k3⟩:=h2
    exact ⟨a,us,rfl,.inr (h1.seqT k2),fun l hl=>w l us _ F (.side h1 hl) hl (h1.free hl) Qv k3⟩
  · cases h3
theorem XZ:QgJ X (.type "tuple") Qae:=by
  intro pins s σ H vs us Q I rs h
  obtain ⟨F,ps,r,h1,h2,h3,w⟩:=h
  refine QeB pins s σ H vs us Q I rs ?_
  unfold Qae at h3
  split at h3
  · cases h3
    unfold RepL at h2
    obtain ⟨v,t,rfl,h2,ht⟩:=h2
    unfold RepL at ht
    subst ht
    unfold Rep at h2
    obtain ⟨a,us,rfl,k2,k3⟩:=h2
    refine ⟨a,us,rfl,.inl ⟨h1.seq k2,fun l hl=>w _ _ _ (.laid h1 hl) ?_⟩⟩
    unfold Rep
    exact ⟨l,us,rfl,.of Qv,k3.mono (Grow.laid h1 hl).ext⟩
  · cases h3
    unfold RepL at h2
    obtain ⟨v,t,rfl,h2,ht⟩:=h2
    unfold RepL at ht
    subst ht
    obtain ⟨a,us,rfl,k2,k3⟩:=(by unfold Rep at h2;exact h2:∃ a us,v = .ref a∧SqT X.K F a us∧RepL X.K F _ us)
    exact ⟨a,us,rfl,.inr ⟨h1.seqT k2,w.here h1 h2⟩⟩
  · cases h3
noncomputable def pMax:List PV→Option PV
  | [.int i,.int j]=>some (.int (if j > i then j else i))
  | _=>none
theorem cm_max (hc:X.calm=true):QgJ X (.builtin "max") pMax:=by
  intro pins s σ H vs us Q I rs h
  obtain ⟨F,ps,r,h1,h2,h3,w⟩:=h
  refine Qki hc pins s σ H vs us Q I rs ?_
  unfold pMax at h3
  split at h3
  · cases h3
    unfold RepL at h2
    obtain ⟨v,t,rfl,h2,ht⟩:=h2
    unfold RepL at ht
    obtain ⟨v',t',rfl,h2',ht⟩:=ht
    unfold RepL at ht
    subst ht
    unfold Rep at h2 h2'
    subst h2 h2'
    exact ⟨_,_,rfl,w.here h1 (QV _)⟩
  · cases h3
end
end L2.PM

noncomputable section
namespace L2.PM
open PySem PySem.Spec PyProof.Rows

noncomputable def Qdq:List PV→Option (List Int)
  | []=>some []
  | .int i :: xs=>(Qdq xs).map (i :: ·)
  | _ :: _=>none
theorem QjM (ns:List Int):Qdq (ns.map .int)=some ns:=by
  induction ns with
  | nil=>rfl
  | cons n ns ih=>simp [Qdq,ih]
theorem QeV:∀ {xs:List PV} {ns:List Int},Qdq xs=some ns→xs=ns.map .int
  | [],ns,h=>by cases h;rfl
  | x :: xs,ns,h=>by
    cases x with
    | int i =>
      unfold Qdq at h
      cases e:Qdq xs with
      | none=>rw [e] at h;cases h
      | some ms=>rw [e] at h;cases h;rw [QeV e];rfl
    | _=>cases h
theorem QeP {K:PySem.W.Frag} {F:Hp}:∀ {ns:List Int} {vs:List V},RepL K F (ns.map .int) vs→vs=ns.map V.int
  | [],vs,h=>by rw [List.map_nil] at h;unfold RepL at h;exact h
  | n :: ns,vs,h=>by
    rw [List.map_cons] at h
    unfold RepL at h
    obtain ⟨v,r,rfl,h2,h3⟩:=h
    unfold Rep at h2
    rw [h2,QeP h3]
    rfl
theorem QbJ {K:PySem.W.Frag} {F:Hp}:∀ (ns:List Int),RepL K F (ns.map .int) (ns.map V.int)
  | [] => .nil
  | n :: ns => .cons (QV n) (QbJ ns)
section
variable {X:Cx} {e a b c:Expr} {es:List Expr} {ms ns ls:List Nat} {m m1 m2 m3:MEx} {pos p p2 p3:Pos} {x:Str} {id T:String}
noncomputable def QaP (ns:List Int):List Int:=ns.mergeSort fun a b=>decide (a≤b)
theorem Yo (ns:List Int):(QaP ns).Perm ns:=List.mergeSort_perm _ _
theorem Qhf (ns:List Int):(QaP ns).Pairwise (· ≤ ·):=by
  have:=List.pairwise_mergeSort (le:=fun (a b:Int)=>decide (a≤b)) (fun a b c h1 h2=>by simp at h1 h2 ⊢;omega) (fun a b=>by simp;omega) ns
  exact this.imp fun h=>by simpa using h
theorem isort_eq {ns ms:List Int} (hp:ms.Perm ns) (hs:ms.Pairwise (· ≤ ·)):ms=QaP ns :=
  List.Perm.eq_of_pairwise (fun x y _ _ h1 h2=>Int.le_antisymm h1 h2) hs (Qhf ns) (hp.trans (Yo ns).symm)
noncomputable def rMt (K:PySem.W.Frag) (g:PV→List PV→Option PV):V→List V→Hp→VK→Prop:=fun x vs H Q=>∃ F p ps r,Same F H∧Rep K F p x∧RepL K F ps vs∧g p ps=some r∧Wv K F H r Q
noncomputable def tyOk (T:String):PV→Bool
  | .str _=>T == "str"
  | .int _=>T == "int"
  | .lst _=>T == "list"
  | _=>false
noncomputable def mMt (T:String) (g:PV→List PV→Option α) (m:MEx) (ma:PEnv→Option (List PV)):PEnv→Option α:=fun γ=>(m γ).bind fun p=>if tyOk T p=true then (ma γ).bind fun ps=>g p ps else none
theorem tyV_rep {K:PySem.W.Frag} {F H:Hp} {p:PV} {v:V} (h:Same F H) (r:Rep K F p v) (t:tyOk T p=true):tyV K T v H:=by
  cases p with
  | str z=>unfold Rep at r;subst r;exact eq_of_beq t
  | int z=>unfold Rep at r;subst r;exact eq_of_beq t
  | lst xs=>unfold Rep at r;obtain ⟨a,vs,rfl,k2,_⟩:=r;exact .inl ⟨eq_of_beq t,vs,h.seq k2⟩
  | _=>cases t
variable {o:Expr} {ma:PEnv→Option (List PV)}
noncomputable def mMt0 (T:String) (g:PV→List PV→Option α) (m:MEx):PEnv→Option α:=fun γ=>(m γ).bind fun p=>if tyOk T p=true then g p [] else none
theorem em_mt0 {g:PV→List PV→Option PV} (h:EM X ms o m) {name:Str} {apos cpos:Pos}
    (hp:PE X (.Call (.Attribute o name apos) [] [] cpos) (tBM0 X.K T (rMt X.K g) (tM X.K ms m))):EM X ms (.Call (.Attribute o name apos) [] [] cpos) (mMt0 T g m) :=
  PE.imp hp fun σ H Q ⟨F,γ,r,k1,k2,k3,w⟩=>by
    obtain ⟨p,e1,k3⟩:=Qg k3
    have c:tyOk T p=true:=by
      by_cases c:tyOk T p=true
      · exact c
      · rw [if_neg c] at k3;cases k3
    rw [if_pos c] at k3
    refine ⟨F,γ,p,k1,k2,e1,fun v H1 F1 g1 q1=>⟨tyV_rep g1.sub q1 c,F1,p,[],r,g1.sub,q1,.nil,k3,w.go g1⟩⟩
noncomputable def Qgu:PV→List PV→Option PV
  | .int i,[]=>some (.int (Builtin.Int.intBits i))
  | _,_=>none
theorem mm_bits:MtR X "int.bit_length" (rMt X.K Qgu):=by
  intro pins s σ H x xs v us Q I rx rs h
  obtain ⟨F,p,ps,r,h1,h2,h3,h4,w⟩:=h
  unfold Qgu at h4
  split at h4
  · cases h4
    unfold Rep at h2
    subst h2
    obtain ⟨t,rfl⟩:=rx
    unfold RepL at h3
    subst h3
    cases rs
    exact call_int_bit_length ⟨.int _,H,I.tok _,⟨_,rfl⟩,w.here h1 (QV _)⟩
  · cases h4
theorem em_bits {apos cpos:Pos} (h:EM X ms o m) (hbase:attributeBase o "bit_length" X.env (eval o X.env)=eval o X.env:=by rfl) (hline:(apos.endLine==cpos.line)=true:=by rfl):EM X ms (.Call (.Attribute o "bit_length" apos) [] [] cpos) (mMt0 "int" Qgu m) :=
  em_mt0 h (pe_bm0 PySem.F.plainAttrs_int slot_int_bit_length type_int_bit_length mm_bits h hbase hline)
variable {lo hi:Option Expr} {ml mh:PEnv→Option (Option Int)}
end
end L2.PM

noncomputable section
namespace L2.PM
open PySem PySem.Spec PyProof.Rows

section
variable {X:Cx} {e a b c:Expr} {es:List Expr} {ms ns ls:List Nat} {m m1 m2 m3:MEx} {pos p p1 p2 p3 pos':Pos} {x:Str} {id T:String}
end
end L2.PM

noncomputable section
namespace L2.PM
open PySem PySem.Spec PyProof.Rows

noncomputable def QfT (N:List Str) (osc scope:Scope) (N':List Str) (nt:Nat) (caps:List Nat):Bool :=
  (scope.kind == .function)&&scope.names.all (fun x=>x.2 != NameKind.cell)&&scope.names.all (fun x=>x.2 != NameKind.local||scope.names.lookup x.1==some .local) &&
  scope.names.all (fun x=>x.2 != NameKind.free||(osc.names.lookup x.1==some .cell||osc.names.lookup x.1==some .free))&&(N'.length==nt + caps.length) &&
  (caps.zip (N'.drop nt)).all (fun p=>N[p.1]?==some p.2&&scope.names.lookup p.2==some NameKind.free)
theorem Qke {N:List Str} {osc scope:Scope} {N':List Str} {nt:Nat} {caps:List Nat} (h:QfT N osc scope N' nt caps=true):CompOk N osc scope N' nt caps:=by
  unfold QfT at h
  simp only [Bool.and_eq_true,List.all_eq_true,Bool.or_eq_true,bne_iff_ne,beq_iff_eq,ne_eq] at h
  obtain ⟨⟨⟨⟨⟨h1,h2⟩,h3⟩,h4⟩,h5⟩,h6⟩:=h
  refine ⟨h1,h2,fun x hx e => ?_,fun x hx e => ?_,h5,h6⟩
  · rcases h3 x hx with z | z
    · exact absurd e z
    · exact z
  · rcases h4 x hx with z | z
    · exact absurd e z
    · exact z
theorem XD {X:Cx} {N:List Str} {osc scope:Scope} {N':List Str} {nt:Nat} {caps:List Nat} (h1:X.N=N) (h2:X.env.scope=osc) (h:QfT N osc scope N' nt caps=true):CompOk X.N X.env.scope scope N' nt caps:=by
  rw [h1,h2];exact Qke h
noncomputable def Cal (P:Program) (w:World) (K:PySem.W.Frag) (mg:Str→Option Value) (base:Heap) (k:Nat) (x:Str) (n:Nat) (g:List PV→Option PV):Prop :=
  ∃ f fd ps,FnOk P w K mg base CX0 k f fd ps (spM K n g)∧mg x=some (.ref f)∧PySem.W.keepIn K (.ref f)=true∧YR K fd ps []
noncomputable def CalO (P:Program) (w:World) (K:PySem.W.Frag) (mg:Str→Option Value) (base:Heap) (k:Nat) (x:Str) (n:Nat) (g:List PV→Option (List PV)):Prop :=
  ∃ f fd ps,FnOk P w K mg base CX0 k f fd ps (spO K n g)∧mg x=some (.ref f)∧PySem.W.keepIn K (.ref f)=true∧YR K fd ps []
section
variable {X:Cx} {e:Expr} {es:List Expr} {ms:List Nat} {ma:PEnv→Option (List PV)} {x:Str} {p pos:Pos} {k j n:Nat}
theorem Qp {g:List PV→Option PV} (c:Cal X.prog X.w X.K X.mg X.base k x n g) (hn:∀ ps r,g ps=some r→ps.length=n) (hr:Room k X.A) (hg:Gl X x)
    (ha:AM X ms (e :: es) ma) (hdb:(x==("__debug__":Str))=false:=by decide) (he:starEach (e :: es) X.env=(false,eval e X.env) :: starEach es X.env:=by rfl) (hpl:(backTo pos (starEach es X.env)).any (·.1)=false:=by rfl) :
    EM X ms (.Call (.Name x p) (e :: es) [] pos) (Qk g ma):=by
  obtain ⟨f,fd,ps,F,hm,hk,hb⟩:=c
  exact em_call F hn hr hg hm hk hb ha hdb he hpl
theorem eo_cal {g:List PV→Option (List PV)} (c:CalO X.prog X.w X.K X.mg X.base k x n g) (hn:∀ ps r,g ps=some r→ps.length=n) (hr:Room k X.A) (hg:Gl X x)
    (ha:AM X ms (e :: es) ma) (hdb:(x==("__debug__":Str))=false:=by decide) (he:starEach (e :: es) X.env=(false,eval e X.env) :: starEach es X.env:=by rfl) (hpl:(backTo pos (starEach es X.env)).any (·.1)=false:=by rfl) :
    EO X ms (.Call (.Name x p) (e :: es) [] pos) (Qk g ma):=by
  obtain ⟨f,fd,ps,F,hm,hk,hb⟩:=c
  exact eo_call F hn hr hg hm hk hb ha hdb he hpl
theorem Xu {m:MEx} (h:EM X ms e m) (hs:starEach [e] X.env=(false,eval e X.env) :: starEach [] X.env:=by rfl):PA X [e] (tMA X.K ms (Qe m aNil)):=by
  have z:=Qb h Qf hs
  unfold AM at z
  rw [List.append_nil] at z
  exact z
theorem law_sp {K:PySem.W.Frag} {H:Hp} {a:Addr} {ns:List Int} {g:List PV→Option PV} {E:XK} (h:∀ ns:List Int,ns.length≤63→g [.lst (ns.map .int)]=some (.bl true)) (hl:ns.length≤63) (hS:SqL K H a (ns.map V.int)) :
    spM K 1 g [.ref a] H (fun v _=>v = .bl true) E:=by
  refine ⟨rfl,H,[.lst (ns.map .int)],.bl true,Same.refl _,.cons ?_ .nil,h ns hl,fun v H' F' _ r => ?_⟩
  · unfold Rep
    exact ⟨a,ns.map V.int,rfl,hS,QbJ ns⟩
  · unfold Rep at r
    exact r
end
end L2.PM

noncomputable section
namespace L2.PM
open PySem PySem.Spec PyProof.Rows
noncomputable def pN (n:Nat):PV := .int (n:Int)
noncomputable def mN (n:Nat):MEx:=mC (pN n)
noncomputable def Qga:List PV→Option (List PV)
  | [.lst xs]=>some (xs.zipIdx.map fun x => .tup [pN x.2,x.1])
  | _=>none
noncomputable def QeG:List PV→Option (List PV)
  | [.tup xs]=>some (xs.zipIdx.map fun x => .tup [pN x.2,x.1])
  | _=>none
noncomputable def iSeq (m:MEx):PEnv→Option (List PV):=fun γ=>(m γ).bind fun p=>match p with
  | .lst xs=>some xs
  | .tup xs=>some xs
  | _=>none
noncomputable def pRev:List PV→Option (List PV)
  | [.lst xs]=>some xs.reverse
  | _=>none
noncomputable def once {α:Type} [BEq α]:List α→List α
  | []=>[]
  | x :: xs=>x :: (once xs).filter fun y => !(y==x)
noncomputable def QaW:List PV→Option (List PV)
  | [.lst xs]=>match Qdq xs with
    | some ns=>if ns.length < 1000∧(once ns).length < 64 then some ((QaP (once ns)).map .int) else none
    | none=>none
  | _=>none
end L2.PM

noncomputable section
namespace L2.PM
open PySem PySem.Spec PyProof.Rows
noncomputable def Up (xs:Array Nat):Prop:=xs.toList.Pairwise (· < ·)
theorem Up.get {xs:Array Nat} (h:Up xs) {i k:Nat} {x y:Nat} (hik:i < k) (hx:xs[i]?=some x) (hy:xs[k]?=some y):x < y:=by
  unfold Up at h
  rw [List.pairwise_iff_getElem] at h
  obtain ⟨hi,rfl⟩:=Array.getElem?_eq_some_iff.mp hx
  obtain ⟨hk,rfl⟩:=Array.getElem?_eq_some_iff.mp hy
  have:=h i k (by simpa using hi) (by simpa using hk) hik
  simpa using this
theorem Qeo {xs:Array Nat} {j:Nat} (up:Up xs):∀ (fuel lo hi:Nat),hi - lo≤fuel→lo≤hi→hi≤xs.size→(∀ i x,i < lo→xs[i]?=some x→x < j)→(∀ i x,hi≤i→xs[i]?=some x→j≤x) →
    SetTable.below.go xs j fuel lo hi≤xs.size∧(∀ i x,i < SetTable.below.go xs j fuel lo hi→xs[i]?=some x→x < j)∧(∀ i x,SetTable.below.go xs j fuel lo hi≤i→xs[i]?=some x→j≤x)
  | 0,lo,hi,hf,hl,hh,h1,h2=>by
    have:lo=hi:=by omega
    subst this
    exact ⟨hh,h1,h2⟩
  | fuel + 1,lo,hi,hf,hl,hh,h1,h2=>by
    unfold SetTable.below.go
    by_cases hlt:lo < hi
    · rw [if_pos hlt]
      dsimp only
      have hm:(lo + hi) / 2 < xs.size:=by omega
      have hg:xs[(lo + hi) / 2]?=some xs[(lo + hi) / 2]:=Array.getElem?_eq_getElem hm
      have hd:xs.getD ((lo + hi) / 2) j=xs[(lo + hi) / 2]:=by simp [Array.getD,hm]
      by_cases hc:xs.getD ((lo + hi) / 2) j < j
      · rw [if_pos hc]
        refine Qeo up fuel _ hi (by omega) (by omega) hh (fun i x hi' hx => ?_) h2
        rcases Nat.lt_or_ge i ((lo + hi) / 2) with z | z
        · have:=up.get z hx hg
          omega
        · have:i=(lo + hi) / 2:=by omega
          subst this
          rw [hg] at hx
          cases hx
          omega
      · rw [if_neg hc]
        refine Qeo up fuel lo _ (by omega) (by omega) (by omega) h1 fun i x hi' hx => ?_
        rcases Nat.lt_or_ge ((lo + hi) / 2) i with z | z
        · have:=up.get z hg hx
          omega
        · have:i=(lo + hi) / 2:=by omega
          subst this
          rw [hg] at hx
          cases hx
          omega
    · rw [if_neg hlt]
      have:lo=hi:=by omega
      subst this
      exact ⟨hh,h1,h2⟩
theorem Qam {xs:Array Nat} (up:Up xs) (j:Nat):SetTable.below xs j≤xs.size∧(∀ i x,i < SetTable.below xs j→xs[i]?=some x→x < j)∧(∀ i x,SetTable.below xs j≤i→xs[i]?=some x→j≤x) :=
  Qeo up xs.size 0 xs.size (by omega) (by omega) (Nat.le_refl _) (fun i x h _=>by omega) (fun i x h e=>by
    have:=(Array.getElem?_eq_some_iff.mp e).1
    omega)
theorem below_at {xs:Array Nat} (up:Up xs) {i j:Nat} (h:xs[i]?=some j):SetTable.below xs j=i:=by
  obtain ⟨h1,h2,h3⟩:=Qam up j
  rcases Nat.lt_trichotomy (SetTable.below xs j) i with z | z | z
  · have hi:=(Array.getElem?_eq_some_iff.mp h).1
    have hg:xs[SetTable.below xs j]?=some xs[SetTable.below xs j]:=Array.getElem?_eq_getElem (by omega)
    have a:=h3 _ _ (Nat.le_refl _) hg
    have b:=up.get z hg h
    omega
  · exact z
  · have:=h2 i j z h
    omega
theorem Qiq {xs:Array Nat} (up:Up xs) {i j:Nat} (h:xs[i]?=some j):SetTable.below xs (j + 1)=i + 1:=by
  obtain ⟨h1,h2,h3⟩:=Qam up (j + 1)
  have hi:=(Array.getElem?_eq_some_iff.mp h).1
  rcases Nat.lt_trichotomy (SetTable.below xs (j + 1)) (i + 1) with z | z | z
  · have:=h3 i j (by omega) h
    omega
  · exact z
  · have hg:xs[i + 1]?=some xs[i + 1]:=Array.getElem?_eq_getElem (by omega)
    have a:=h2 _ _ z hg
    have b:=up.get (Nat.lt_succ_self i) h hg
    omega
theorem Qip {xs:Array Nat} (up:Up xs):SetTable.below xs 0=0:=by
  obtain ⟨h1,h2,h3⟩:=Qam up 0
  rcases Nat.eq_zero_or_pos (SetTable.below xs 0) with z | z
  · exact z
  · have hg:xs[0]?=some xs[0]:=Array.getElem?_eq_getElem (by omega)
    have:=h2 0 _ z hg
    omega
theorem Qez {α:Type} (xs:Array α) (p:Nat) (x:α):(SetTable.insertAt xs p x).toList=xs.toList.take p++x :: xs.toList.drop p:=by
  unfold SetTable.insertAt
  simp [Array.toList_extract,List.extract_eq_take_drop]
  exact List.take_of_length_le (by simp)
theorem Qjo {xs:Array Nat} (up:Up xs) {j:Nat} (hn:j∉xs.toList):Up (SetTable.insertAt xs (SetTable.below xs j) j):=by
  obtain ⟨h1,h2,h3⟩:=Qam up j
  unfold Up
  rw [Qez,List.pairwise_append,List.pairwise_cons]
  have lo:∀ y∈xs.toList.take (SetTable.below xs j),y < j:=fun y hy=>by
    obtain ⟨i,hi,rfl⟩:=List.mem_take_iff_getElem.mp hy
    exact h2 i _ (by omega) (by
      rw [Array.getElem?_eq_some_iff]
      exact ⟨by simp at hi;omega,by simp⟩)
  have hi:∀ y∈xs.toList.drop (SetTable.below xs j),j < y:=fun y hy=>by
    have hm:y∈xs.toList:=List.mem_of_mem_drop hy
    obtain ⟨i,hi,rfl⟩:=List.mem_drop_iff_getElem.mp hy
    have:=h3 (SetTable.below xs j + i) _ (by omega) (by
      rw [Array.getElem?_eq_some_iff]
      exact ⟨by simp at hi;omega,rfl⟩)
    have ne:j≠xs.toList[SetTable.below xs j + i]:=fun e=>hn (by rw [e];exact hm)
    simp at ne
    simp
    omega
  refine ⟨List.Pairwise.sublist (List.take_sublist _ _) up,⟨fun y hy=>hi y hy,List.Pairwise.sublist (List.drop_sublist _ _) up⟩,fun a ha b hb => ?_⟩
  rcases List.mem_cons.mp hb with e | e
  · rw [e];exact lo a ha
  · exact Nat.lt_trans (lo a ha) (hi b e)
theorem QgQ {t:SetTable} (up:Up t.place) {j:Nat} (h:∀ i,t.slot j ≠ .live i):j∉t.place.toList:=by
  intro hm
  obtain ⟨i,hi,e⟩:=List.mem_iff_getElem.mp hm
  have hg:t.place[i]?=some j:=by
    rw [Array.getElem?_eq_some_iff]
    exact ⟨by simpa using hi,by simpa using e⟩
  have hb:=below_at up hg
  refine h i ?_
  unfold SetTable.slot
  dsimp only
  rw [hb,hg,if_pos (by simp)]
theorem Qec {t:SetTable} {ha:Nat→Int} {h:Int}:∀ (fuel:Nat) (p:SetTable.Probe) (j:Nat) (d:Option Nat),(∀ q,p.dummy=some q→t.slot q = .dummy)→SetTable.probe.go t ha h fuel p=some (.empty j d)→t.slot j = .empty∧∀ q,d=some q→t.slot q = .dummy
  | 0,p,j,d,_,e=>by cases e
  | fuel + 1,p,j,d,hp,e=>by
    unfold SetTable.probe.go at e
    split at e
    · rename_i hs
      cases e
      exact ⟨hs,hp⟩
    · rename_i hs
      refine Qec fuel _ j d (fun q hq => ?_) e
      have hq:(t.advance { p with dummy:=some p.j }).dummy=some q:=hq
      have hd:(t.advance { p with dummy:=some p.j }).dummy=some p.j:=by
        unfold SetTable.advance
        split <;> rfl
      rw [hd] at hq
      cases hq
      exact hs
    · split at e
      · cases e
      · refine Qec fuel _ j d (fun q hq=>hp q ?_) e
        have hd:(t.advance p).dummy=p.dummy:=by
          unfold SetTable.advance
          split <;> rfl
        rw [hd] at hq
        exact hq
theorem QfF {t:SetTable} (up:Up t.place) {h:Int} {j:Nat} {b:Bool} (e:t.freeSlot h=some (j,b)):j∉t.place.toList:=by
  unfold SetTable.freeSlot at e
  split at e
  · rename_i i d hq
    obtain ⟨h1,h2⟩:=Qec _ _ _ _ (fun q hq=>by cases hq) hq
    cases e
    cases d with
    | none =>
      refine QgQ up fun k z => ?_
      have h1:t.slot i = .empty:=h1
      rw [show ((none:Option Nat).getD i)=i from rfl,h1] at z
      cases z
    | some q =>
      refine QgQ up fun k z => ?_
      have h2:=h2 q rfl
      rw [show ((some q).getD i)=q from rfl,h2] at z
      cases z
  · cases e
theorem up_range (n:Nat):Up (Array.range n):=by
  unfold Up
  rw [Array.toList_range]
  exact List.pairwise_lt_range
theorem Qfv {α:Type} (f:Nat→Option α) (n:Nat):(((List.range n).filterMap fun j=>(f j).map (j,·)).map (·.1)).Pairwise (· < ·):=by
  have key:∀ l:List Nat,l.Pairwise (· < ·)→(((l.filterMap fun j=>(f j).map (j,·)).map (·.1)).Pairwise (· < ·))∧∀ x∈((l.filterMap fun j=>(f j).map (j,·)).map (·.1)),x∈l:=by
    intro l
    induction l with
    | nil=>intro _;exact ⟨by simp,by simp⟩
    | cons y l ih =>
      intro hp
      rw [List.pairwise_cons] at hp
      obtain ⟨i1,i2⟩:=ih hp.2
      cases hf:f y with
      | none =>
        rw [List.filterMap_cons_none (by rw [hf];rfl)]
        exact ⟨i1,fun x hx=>List.mem_cons_of_mem _ (i2 x hx)⟩
      | some z =>
        rw [List.filterMap_cons_some (b:=(y,z)) (by rw [hf];rfl),List.map_cons]
        refine ⟨List.pairwise_cons.mpr ⟨fun x hx=>hp.1 x (i2 x hx),i1⟩,fun x hx => ?_⟩
        rcases List.mem_cons.mp hx with e | e
        · rw [e];exact List.mem_cons_self
        · exact List.mem_cons_of_mem _ (i2 x e)
  exact (key _ List.pairwise_lt_range).1
noncomputable def Kept (L:Bool) (t:SetTable):Prop:=t.led=L∧Up t.place
theorem YW {L:Bool} {t:SetTable} (k:Kept L t) (n:Nat):Kept L (t.standIn n):=⟨k.1,up_range n⟩
theorem QhZ {L:Bool} {t:SetTable} (k:Kept L t) (b:Bool):Kept L { t with plain:=b }:=k
theorem QgC {L:Bool} {t:SetTable} (k:Kept L t) (es:Array (Int×Value)) (h:Int) (x:Value):Kept L (layNew t es h x).2.1:=by
  unfold layNew
  split
  · rename_i j b e
    dsimp only
    unfold SetTable.orStandIn
    have k2:Kept L (t.put j).1:=⟨k.1,Qjo k.2 (QfF k.2 e)⟩
    split
    · exact k2
    · exact YW k2 _
  · exact YW k _
theorem QhY {L:Bool} {t:SetTable} (k:Kept L t) (es:Array (Int×Value)) (n:Nat):Kept L (relayAll t es n).2.1:=by
  unfold relayAll
  split
  · rename_i t' order e
    dsimp only
    split
    · unfold SetTable.relaid SetTable.laid at e
      cases hl:SetTable.layClean (SetTable.sizeAbove n - 1) (es.map (·.1)) with
      | none=>rw [hl] at e;cases e
      | some owner =>
        rw [hl] at e
        cases e
        refine ⟨k.1,?_⟩
        unfold Up
        rw [List.toList_toArray]
        exact Qfv (fun j=>owner.getD j none) _
    · exact YW k _
  · exact YW k _
end L2.PM

noncomputable section
namespace L2.PM
open PySem PySem.Spec PyProof.Rows
section
variable {prog:Program} {w:World} {A:Around} {E:Value→Shared→Prop} {s:Shared}
noncomputable def SetL (prog:Program) (w:World) (L:Bool) (h:Heap) (a:Addr) (M:List Int):Prop :=
  ∃ o es ep t,h.get? a=some o∧o.ExactSet∧o.data = .set es ep t∧ElemsOf (intKind prog w) es.toList∧(∀ k,k∈M↔∃ e∈es.toList,(intKind prog w).is k e.2=true) ∧
    es.size < scanBound∧t.fits es.size=true∧es.size=M.length∧M.Nodup∧Kept L t
theorem SetL.at {L:Bool} {h h':Heap} {a:Addr} {M:List Int} (x:SetL prog w L h a M) (e:∀ o,h.get? a=some o→h'.get? a=some o):SetL prog w L h' a M:=by
  obtain ⟨o,es,ep,t,ho,r⟩:=x
  exact ⟨o,es,ep,t,e o ho,r⟩
noncomputable def more (M:List Int) (k:Int):List Int:=if k∈M then M else M++[k]
theorem QbL {M:List Int} (h:M.Nodup) (k:Int):(more M k).Nodup:=by
  unfold more
  split
  · exact h
  · rename_i hk
    rw [List.nodup_append]
    exact ⟨h,by simp,fun a ha b hb=>by
      rw [List.mem_singleton] at hb
      subst hb
      exact fun e=>hk (e ▸ ha)⟩
theorem put_at {h:Heap} {a:Addr} {o:Obj} {es:Array (Int×Value)} {ep:Nat} {t:SetTable} (ho:h.get? a=some o) (hd:o.data = .set es ep t) (es':Array (Int×Value)) (t':SetTable) :
    (h.update a (Obj.putSet es' t')).get? a=some { o with data := .set es' (ep + 1) t' }:=by
  have e:=putSet_of es' t' hd
  have z:=Heap.get?_update_self (Obj.putSet es' t') ho (by rw [e];rfl)
  rw [e] at z
  exact z
theorem QcY {M:List Int} {k:Int} {v:Value} {l l':List (Int×Value)} (hk:(intKind prog w).is k v=true) (hm:∀ k,k∈M↔∃ e∈l,(intKind prog w).is k e.2=true) (hn:k∉M) (p:l'.Perm (l++[((intKind prog w).hash k,v)])) (j:Int) :
    j∈more M k↔∃ e∈l',(intKind prog w).is j e.2=true:=by
  unfold more
  rw [if_neg hn,List.mem_append,List.mem_singleton]
  constructor
  · rintro (z | rfl)
    · obtain ⟨e,he,q⟩:=(hm j).mp z
      exact ⟨e,p.mem_iff.mpr (List.mem_append_left _ he),q⟩
    · exact ⟨_,p.mem_iff.mpr (List.mem_append_right _ (List.mem_singleton_self _)),hk⟩
  · rintro ⟨e,he,q⟩
    rcases List.mem_append.mp (p.mem_iff.mp he) with z | z
    · exact .inl ((hm j).mpr ⟨e,z,q⟩)
    · rw [List.mem_singleton.mp z] at q
      exact .inr ((intKind prog w).inj v j k q hk)
theorem add_L {L:Bool} {a:Addr} {M:List Int} {k:Int} {tk:Tok} {Q:Bool→Shared→Prop} (hS:SetL prog w L s.heap a M) (room:M.length + 1 < scanBound)
    (fin:∀ b h',Heap.SameBut a s.heap h'→SetL prog w L h' a (more M k)→Q b { s with heap:=h' }):wpAny (model prog w) A (setAddHashed a (.int k tk) ((intKind prog w).hash k)) Q E s:=by
  obtain ⟨o,es,ep,t,ho,hex,hd,hel,hm,hb,hf,hn,hnd,hkp⟩:=hS
  have hk:(intKind prog w).is k (.int k tk)=true:=intKind_is _ _ _ _
  have hsc:(Value.int k tk).scannable=true:=rfl
  have tail:∀ (g:Bool→Sem Unit),(∀ (b:Bool) (s₁:Shared) (R:Unit→Shared→Prop),R () s₁→wpAny (model prog w) A (g b) R E s₁)→∀ (eA:Array (Int×Value)) (tB:SetTable) (wd:Bool) (R:Option Bool→Shared→Prop),
      ElemsOf (intKind prog w) eA.toList→(∀ j,j∈more M k↔∃ e∈eA.toList,(intKind prog w).is j e.2=true)→eA.size < scanBound→tB.fits eA.size=true→eA.size=(more M k).length→Kept L tB →
      (∀ h',Heap.SameBut a s.heap h'→SetL prog w L h' a (more M k)→R (some true) { s with heap:=h' }) →
      wpAny (model prog w) A (do
        storeSet a eA tB
        if (!wd&&tB.tooFull)=true then do
            g (relayAll tB eA (SetTable.grown eA.size)).2.2
            storeSet a (relayAll tB eA (SetTable.grown eA.size)).1 (relayAll tB eA (SetTable.grown eA.size)).2.1
            pure (some true)
          else pure (some true)) R E s:=by
    intro g hg eA tB wd R h1 h2 h3 h4 h5 h6 hR
    have at1:=put_at ho hd eA tB
    refine wpAny_bind (wpAny_storeSet_of ho hd ?_ (fits_of_scanBound h3))
    have sb1:=Heap.SameBut.update s.heap a (Obj.putSet eA tB)
    split
    · have p:=relayAll_perm tB eA (SetTable.grown eA.size)
      have ff:=relayAll_fits tB eA (SetTable.grown eA.size)
      have kk:=QhY h6 eA (SetTable.grown eA.size)
      generalize relayAll tB eA (SetTable.grown eA.size)=rl at p ff kk ⊢
      obtain ⟨es2,t3,gave⟩:=rl
      have sz:es2.size=eA.size:=by
        have:=p.length_eq
        simpa using this
      refine wpAny_bind (hg _ _ _ (wpAny_bind (wpAny_storeSet_of at1 rfl ?_ (fits_of_scanBound (by show es2.size < _;rw [sz];exact h3)))))
      have at2:=put_at at1 rfl es2 t3
      refine wpAny_pure (hR _ (sb1.trans (Heap.SameBut.update _ a _)) ⟨_,es2,_,t3,at2,hex,rfl,h1.perm p,fun j=>(h2 j).trans ⟨fun ⟨e,he,q⟩=>⟨e,p.mem_iff.mpr he,q⟩,fun ⟨e,he,q⟩=>⟨e,p.mem_iff.mp he,q⟩⟩,by rw [sz];exact h3,ff,by rw [sz];exact h5,QbL hnd k,kk⟩)
    · exact wpAny_pure (hR _ sb1 ⟨_,eA,_,tB,at1,hex,rfl,h1,h2,h3,h4,h5,QbL hnd k,h6⟩)
  unfold setAddHashed setAddHashedIn
  refine wpAny_holding (wpAny_bind (wpAny_setState_of ho hd hf ?_))
  dsimp only
  rw [byScan_of hsc hb hel,if_pos rfl]
  unfold setAddByScan
  refine wpAny_bind (wpAny_bind (wpAny_rule (wpAny_bind (wpAny_setScan_of hk ho hd hf hel ?_))))
  cases hr:List.findIdx? (fun e=>(intKind prog w).is k e.2) es.toList with
  | some j =>
    obtain ⟨hj,pj,_⟩:=List.findIdx?_eq_some_iff_getElem.mp hr
    have hkM:k∈M:=(hm k).mpr ⟨_,List.getElem_mem hj,pj⟩
    refine wpAny_pure (wpAny_pure ?_)
    have z:=fin false s.heap (Heap.SameBut.refl a s.heap) (by
      unfold more
      rw [if_pos hkM]
      exact ⟨o,es,ep,t,ho,hex,hd,hel,hm,hb,hf,hn,hnd,hkp⟩)
    exact z
  | none =>
    have hkM:k∉M:=fun z=>by
      obtain ⟨e,he,q⟩:=(hm k).mp z
      rw [List.findIdx?_eq_none_iff.mp hr e he] at q
      cases q
    have gw:∀ (b:Bool) (s₁:Shared) (R:Unit→Shared→Prop),R () s₁→wpAny (model prog w) A (match b with | true=>rule "set.scan.the-table-gave-way" | false=>pure ()) R E s₁:=fun b s₁ R hq=>by
      cases b
      · exact wpAny_pure hq
      · exact wpAny_rule hq
    have pm:=layNew_perm t es ((intKind prog w).hash k) (.int k tk)
    have fi:=layNew_fits t es ((intKind prog w).hash k) (.int k tk)
    have kp:=QgC hkp es ((intKind prog w).hash k) (.int k tk)
    dsimp only
    generalize layNew t es ((intKind prog w).hash k) (.int k tk)=ly at pm fi kp ⊢
    obtain ⟨eA,t1,wd,gave⟩:=ly
    dsimp only at pm fi kp ⊢
    rw [Array.toList_push] at pm
    have sz:eA.size=es.size + 1:=by
      have:=pm.length_eq
      simpa using this
    have szM:eA.size=(more M k).length:=by
      unfold more
      rw [if_neg hkM,sz,hn]
      simp
    refine wpAny_bind (gw _ _ _ ?_)
    have done:∀ h',Heap.SameBut a s.heap h'→SetL prog w L h' a (more M k)→wpAny (model prog w) A (match some true with | some added=>pure added | none=>setAddHashedIn a (.int k tk) ((intKind prog w).hash k) 99999) Q E { s with heap:=h' }:=fun h' sb z=>wpAny_pure (fin true h' sb z)
    split
    · refine wpAny_bind ?_
      rw [hashByValue_scannable 8 hsc]
      refine wpAny_pure (tail _ gw eA _ wd _ ((hel.push hk hsc).perm pm) (QcY hk hm hkM pm) (by omega) ?_ szM ?_ done)
      · split
        · exact fi
        · exact SetTable.fits_plain_off fi
      · split
        · exact kp
        · exact QhZ kp _
    · refine wpAny_bind (wpAny_pure ?_)
      rw [if_pos rfl]
      exact tail _ gw eA _ wd _ ((hel.push hk hsc).perm pm) (QcY hk hm hkM pm) (by omega) fi szM kp done
end
end L2.PM

noncomputable section
namespace L2.PM
open PySem PySem.Spec PyProof.Rows
noncomputable def byT (w:World):Bool:=w.params.followText "set-order"
noncomputable def seen (val:Nat→Int) (i:Nat):List Int:=((List.range i).map val).foldl more []
theorem QeO (val:Nat→Int) (i:Nat):seen val (i + 1)=more (seen val i) (val i):=by
  unfold seen
  rw [List.range_succ,List.map_append,List.foldl_append]
  rfl
theorem more_len (M:List Int) (k:Int):(more M k).length≤M.length + 1:=by
  unfold more
  split
  · omega
  · simp
theorem QgR (val:Nat→Int):∀ i,(seen val i).length≤i
  | 0=>Nat.le_refl _
  | i + 1=>by
    rw [QeO]
    have:=more_len (seen val i) (val i)
    have:=QgR val i
    omega
section
variable {prog:Program} {w:World} {A:Around} {E:Value→Shared→Prop} {s:Shared}
theorem QiO {R:Result→Shared→Prop} {I:Addr} {fp wr:List Addr} {G:Array GenState→Array GenState→Prop} {n:Nat} {P:Nat→Value→Prop} {St:Nat→Shared→Prop} {L:Bool}
    (W:WalksS prog w A.in1 I fp wr G n P St) (D:Addr) (out:D∉fp) (val:Nat→Int) (hval:∀ i v,P i v→∃ t,v = .int (val i) t) (small:n + 1 < scanBound) :
    ∀ (k i:Nat) (s:Shared),n - i=k→i≤n→St i s→SetL prog w L s.heap D (seen val i) →
      (∀ s',Moved (D :: wr) G s s'→SetL prog w L s'.heap D (seen val n)→R (.ok (.ret .none)) s')→codeAny (model prog w) A (.builtin "set.update.loop" ⟨[.ref D,.ref I],[]⟩) R s
  | 0,i,s,hk,hi,st,hS,fin=>by
    obtain rfl:i=n:=by omega
    have dw:D∉wr:=fun z=>out (W.sub _ z)
    refine codeAny_builtin PyProof.Rows.F.entry_set_update_loop ?_
    rw [Around.under_plainId PyProof.Rows.F.plain_set_update_loop _]
    show wpAny _ A.in1 (pyNext (.ref I) >>= _) _ _ s
    refine wpAny_bind (W.done s _ _ st fun s' mv => ?_)
    show wpAny _ A.in1 (ret Value.none) _ _ s'
    exact wpAny_pure (fin s' (mv.mono fun b hb=>List.mem_cons_of_mem _ hb) (hS.at fun o e=>mv.heap D o dw e))
  | k + 1,i,s,hk,hi,st,hS,fin=>by
    have dw:D∉wr:=fun z=>out (W.sub _ z)
    refine codeAny_builtin PyProof.Rows.F.entry_set_update_loop ?_
    rw [Around.under_plainId PyProof.Rows.F.plain_set_update_loop _]
    show wpAny _ A.in1 (pyNext (.ref I) >>= _) _ _ s
    refine wpAny_bind (W.item i s _ _ (by omega) st fun v s' hp st' mv => ?_)
    obtain ⟨t,rfl⟩:=hval i v hp
    show wpAny _ A.in1 (holding [Value.int (val i) t] (setAdd D (.int (val i) t)) >>= _) _ _ s'
    refine wpAny_bind (wpAny_holding ?_)
    unfold setAdd
    refine wpAny_holding (wpAny_bind ((intKind prog w).pyHash (k:=val i) (intKind_is _ _ _ _) ?_))
    have sl:=QgR val i
    refine add_L (s:={ s' with toks:=s'.toks + 1 }) (hS.at fun o e=>mv.heap D o dw e) (by omega) fun b h' sb z => ?_
    rw [← QeO] at z
    refine wpAny_pure ⟨plainId_quiet PyProof.Rows.F.plain_set_update_loop _,QiO W D out val hval small k (i + 1) _ (by omega) (by omega) (W.frame _ s' _ _ st' (Nat.le_succ _) fun b hb o e => ?_) z fun s'' mv2 z2 => ?_⟩
    · exact (sb.2 b fun q=>out (q ▸ hb)).trans e
    · refine fin s'' (Moved.trans W.gtrans ((mv.mono fun b hb=>List.mem_cons_of_mem _ hb).then_heap (Nat.le_succ _) fun b o hb e => ?_) mv2) z2
      exact (sb.2 b fun q=>hb (q ▸ List.mem_cons_self)).trans e
theorem setNew (v:Value) {Q₁:Value→Shared→Prop} (fin:Q₁ (.ref s.heap.objs.size) { s with heap:=s.heap.push { cls := .type "set",dict:=none,data := .set #[] 0 (.fresh 0 0 (!byT w)) } }) :
    codeAny (model prog w) A (.call (.builtin "set.__new__") ⟨[.type "set",v],[]⟩) (wants Q₁ E) s:=by
  refine codeAny_of_tree ?_
  show wpAny _ A.in1 (do checkBuiltinCall "set.__new__" ⟨[.type "set",v],[]⟩;again (.builtin "set.__new__" ⟨[.type "set",v],[]⟩)) _ _ s
  refine wpAny_bind (wpAny_of_eq (PySem.F.newCall_set_1 v) (wpAny_pure ⟨plainId_quiet PySem.F.plain_set_new _,codeAny_builtin PySem.F.entry_set_new ?_⟩))
  rw [Around.under_plainId PySem.F.plain_set_new _]
  unfold Builtin.«set.__new__» Builtin.Frozenset.newClass
  have sub:=sub_set_self
  obtain ⟨hp,g,d,tk,os⟩:=s
  dsimp only
  wp_walk
  refine wpAny_askSetting (wpAny_pure ?_)
  dsimp only
  simp only [newObj]
  refine wpAny_bind (wpAny_alloc (wpAny_pure ?_))
  exact wpAny_pure fin
end
end L2.PM

noncomputable section
namespace L2.PM
open PySem PySem.Spec PyProof.Rows
section
variable {prog:Program} {w:World} {A:Around} {E:Value→Shared→Prop} {s:Shared}
theorem fresh_L {h:Heap} {a:Addr} (e:h.get? a=some { cls := .type "set",dict:=none,data := .set #[] 0 (.fresh 0 0 (!byT w)) }):SetL prog w (!byT w) h a [] :=
  ⟨_,#[],0,_,e,⟨rfl,rfl,rfl⟩,rfl,fun e he=>by simp at he,fun k=>by simp,by decide,by rfl,rfl,.nil,rfl,by unfold Up;simp [SetTable.fresh]⟩
set_option maxHeartbeats 3200000 in
theorem Qkh {l:Addr} {its:Array Value} {ns:List Int} {Q:Value→Shared→Prop} (calm:A.handled=none) (hl:s.heap.IsList l its) (hi:IntsAre its.toList ns) (hb:its.size + 1 < scanBound)
    (fin:∀ (h':Heap) (tk:Nat),SetL prog w (!byT w) h' s.heap.objs.size (seen (fun i=>ns.getD i 0) its.size)→(∀ b o,b < s.heap.objs.size→s.heap.get? b=some o→h'.get? b=some o)→Q (.ref s.heap.objs.size) { s with heap:=h',toks:=tk }) :
    wpAny (model prog w) A (call (.type "set") [.ref l]) Q E s:=by
  obtain ⟨c,tl,hmro⟩:=PySem.F.called_set.mro
  have hmade:=PySem.F.called_set.made
  have hsub:=PySem.F.called_set.sub
  refine wpAny_call (codeAny_of_tree ?_)
  show wpAny _ _ (callAny (.type "set") _) _ _ _
  refine wpAny_pure ⟨Code.quiet_builtin _ (by decide +kernel),codeAny_builtin PySem.F.entry_type_call ?_⟩
  rw [Around.under_plain (weight_type_call_type "set" [.ref l] []) rfl]
  have h1:=PySem.F.called_set.notType
  have h2:=PySem.F.called_set.canCreate
  have hct:=PySem.F.typeCall_set_1 (.ref l)
  repeat (any_goals (first | assumption | wp_step))
  refine codeAny_mono (setNew (.ref l) (E:=E) (Q₁:=fun obj s₁=>obj = .ref s.heap.objs.size∧s₁={ s with heap:=s.heap.push { cls := .type "set",dict:=none,data := .set #[] 0 (.fresh 0 0 (!byT w)) } }) ⟨rfl,rfl⟩) fun r s₁ hr => ?_
  cases r with
  | error e=>exact hr
  | ok fl =>
    cases fl with
    | ret obj =>
      obtain ⟨rfl,rfl⟩:=hr
      have at0:(s.heap.push { cls := .type "set",dict:=none,data := .set #[] 0 (.fresh 0 0 (!byT w)) }).get? s.heap.objs.size=some { cls := .type "set",dict:=none,data := .set #[] 0 (.fresh 0 0 (!byT w)) }:=Heap.get?_push_size _ rfl
      have hT:Shared.TypeIs { s with heap:=s.heap.push { cls := .type "set",dict:=none,data := .set #[] 0 (.fresh 0 0 (!byT w)) } } (.ref s.heap.objs.size) "set":=⟨_,at0,rfl⟩
      have hli:=PySem.F.called_set.init.lookup
      have hbi:=PySem.F.called_set.init.bind (.ref s.heap.objs.size)
      repeat (any_goals (first | assumption | wp_step))
      refine codeAny_mono (codeAny_call_builtin (R:=wants (fun r s₂=>r = .none∧∃ h' tk,s₂={ s with heap:=h',toks:=tk }∧SetL prog w (!byT w) h' s.heap.objs.size (seen (fun i=>ns.getD i 0) its.size) ∧
          (∀ b o,b < s.heap.objs.size→s.heap.get? b=some o→h'.get? b=some o)) E) PySem.F.called_set.init.plain PySem.F.entry_set_init (check_set_init_1 hT ?_)) fun r₂ s₂ hr₂ => ?_
      · obtain ⟨ol,hol,hcl,nl,hdl⟩:=hl
        obtain ⟨ocls,odict,odata,oslots⟩:=ol
        simp only at hcl hdl
        subst hcl;subst hdl
        have lold:(s.heap.push { cls := .type "set",dict:=none,data := .set #[] 0 (.fresh 0 0 (!byT w)) }).get? l=some { cls := .type "list",dict:=odict,data := .seq its nl,slots:=oslots }:=Heap.get?_push_of_some _ hol
        have hsls:=PySem.F.sub_list_set
        have hslf:=PySem.F.sub_list_frozenset
        have hne:(Value.type "list"==Value.type "dict")=false:=by decide
        have lis:(s.heap.push { cls := .type "set",dict:=none,data := .set #[] 0 (.fresh 0 0 (!byT w)) }).IsList l its:=⟨_,lold,rfl,nl,rfl⟩
        unfold Builtin.«set.__init__» noKeywords Builtin.Frozenset.updateFrom
        generalize hPI:pyIter=PI
        wp_walk
        subst hPI
        refine wpAny_pyIter_list lis (wpAny_bind (wpAny_runValue ?_))
        have llt:l < s.heap.objs.size:=Heap.lt_size hol
        have calm3:A.in1.in1.in1.handled=none:=by simp [calm]
        have ne1:l≠(s.heap.push { cls := .type "set",dict:=none,data := .set #[] 0 (.fresh 0 0 (!byT w)) }).objs.size:=by
          rw [Heap.size_push]
          exact Nat.ne_of_lt (Nat.lt_succ_of_lt llt)
        have nin:s.heap.objs.size∉[(s.heap.push { cls := .type "set",dict:=none,data := .set #[] 0 (.fresh 0 0 (!byT w)) }).objs.size,l]:=by
          rw [Heap.size_push]
          intro z
          rcases List.mem_cons.mp z with z | z
          · exact absurd z (Nat.ne_of_lt (Nat.lt_succ_self _))
          · rw [List.mem_singleton] at z
            exact absurd z (Nat.ne_of_gt llt)
        have hval:∀ (i:Nat) (v:Value),its[i]?=some v→∃ t,v = .int ((fun i=>ns.getD i 0) i) t:=fun i v hv=>IntsAre.int_at hi i v (by rw [Array.getElem?_toList];exact hv)
        refine QiO (L := !byT w) ((Walks.list calm3 _ l ne1 its).toS) s.heap.objs.size nin (fun i=>ns.getD i 0) hval hb (its.size - 0) 0 _ (by omega) (Nat.zero_le _) ⟨⟨_,Heap.get?_push_size _ rfl,rfl,rfl⟩,lis.push _⟩ ?XV ?fin
        case XV=>exact fresh_L (Heap.get?_push_of_some _ at0)
        case fin =>
          intro s' hm z
          obtain ⟨h',g',d',tk',os'⟩:=s'
          obtain rfl:g'=s.gens:=hm.gens
          obtain rfl:d'=s.drawn:=hm.drawn
          obtain rfl:os'=s.os:=hm.os
          show wpAny _ _ _ _ _ _
          refine wpAny_pure ?_
          show wpAny _ _ (ret Value.none) _ _ _
          refine wpAny_pure ⟨rfl,h',tk',rfl,z,fun b o hb e => ?_⟩
          refine hm.heap b o (fun q => ?_) (Heap.get?_push_of_some _ (Heap.get?_push_of_some _ e))
          rw [Heap.size_push] at q
          rcases List.mem_cons.mp q with q | q
          · exact absurd q (Nat.ne_of_lt hb)
          · rw [List.mem_singleton] at q
            exact absurd q (Nat.ne_of_lt (Nat.lt_succ_of_lt hb))
      · cases r₂ with
        | error e=>exact hr₂
        | ok fl₂ =>
          cases fl₂ with
          | ret r =>
            obtain ⟨rfl,h',tk,rfl,z,k⟩:=hr₂
            repeat (any_goals (first | assumption | wp_step))
            exact fin _ _ z k
          | _=>exact hr₂.elim
    | _=>exact hr.elim
end
end L2.PM

noncomputable section
namespace L2.PM
open PySem PySem.Spec PyProof.Rows
namespace SF
theorem own_si:Manifest.owners.lookup (String.ofList ['r','o','t','a','r','e','t','i','_','t','e','s'].reverse)=some Manifest.sig_set_iterator:=by kernel_rfl
theorem si_next:PySem.Slot "set_iterator" "__next__" "set_iterator.__next__" := .of (owner := "set_iterator") (n := "__next__") (by rw [typeLookup_type,builtinLookup_eq_fast];kernel_rfl) (by decide +kernel) (by decide +kernel) (by decide +kernel) (by first | exact .inl (by decide +kernel) | exact .inr (by decide +kernel)) (by rw [isSubtype_type];kernel_rfl)
theorem si_entry:entryFor table "set_iterator.__next__"=some Builtin.«set_iterator.__next__»:=entryFor_of_tree (by kernel_rfl)
theorem si_args (a:Value):argsOk "set_iterator.__next__" ⟨[a],[]⟩:=by
  unfold argsOk;rw [signature?_of (id := "set_iterator.__next__") (n:=['_','_','t','x','e','n','_','_']) (o:=['r','o','t','a','r','e','t','i','_','t','e','s']) (by kernel_rfl) own_si];kernel_rfl
theorem set_iter:entryFor table "set.__iter__"=some Builtin.«frozenset.__iter__»:=entryFor_alias (id' := "frozenset.__iter__") (by kernel_rfl) rfl (by decide +kernel) (by kernel_rfl)
end SF
theorem QbN {α:Type}:∀ {l:List α} {i:Nat} (h:i < l.length),(l[i] :: l.eraseIdx i).Perm l
  | x :: l,0,_ => .refl _
  | x :: l,i + 1,h=>by
    have ih:=QbN (l:=l) (i:=i) (by simpa using h)
    simp only [List.getElem_cons_succ,List.eraseIdx_cons_succ]
    exact (List.Perm.swap _ _ _).trans (ih.cons x)
theorem QiV {α:Type} (f:Nat→Nat):∀ (fuel k:Nat) (l:List α) (out:Array α),l.length=fuel→(pickOrder.go f fuel k l out).toList.Perm (out.toList++l)
  | 0,k,l,out,h=>by
    rw [List.length_eq_zero_iff.mp h,List.append_nil]
    exact .refl _
  | fuel + 1,k,l,out,h=>by
    have hp:0 < l.length:=by omega
    have hlt:f k % l.length < l.length:=Nat.mod_lt _ hp
    unfold pickOrder.go
    rw [List.getElem?_eq_getElem hlt]
    dsimp only
    refine (QiV f fuel (k + 1) _ _ (by rw [List.length_eraseIdx,if_pos hlt];omega)).trans ?_
    rw [Array.toList_push,List.append_assoc]
    refine List.Perm.append_left _ ?_
    exact QbN hlt
theorem QcL {α:Type} (f:Nat→Nat) (xs:Array α):(pickOrder f xs).toList.Perm xs.toList:=by
  have:=QiV f xs.size 0 xs.toList #[] (by simp)
  simpa [pickOrder] using this
section
variable {prog:Program} {w:World} {A:Around} {E:Value→Shared→Prop} {s:Shared}
theorem Qil {src:Source} {n:Nat} {Q:Nat→Shared→Prop} (hn:n≠0) (h:∀ i d,i < n→Q i { s with drawn:=d }):wpAny (model prog w) A (choose src n) Q E s:=fun Γ p _=>by
  show Sem.wp (model prog w) Γ (.choose src n .pure) _ _ p s
  rw [Sem.wp_choose]
  exact ⟨hn,by rw [Sem.wp_pure];exact h _ _ (Nat.mod_lt _ (Nat.pos_of_ne_zero hn))⟩
theorem Qhn {α:Type}:∀ (n:Nat) (xs:List α) (s:Shared) (Q:List α→Shared→Prop),xs.length=n→(∀ ys d,ys.Perm xs→Q ys { s with drawn:=d })→wpAny (model prog w) A (drawOrder n xs) Q E s
  | 0,xs,s,Q,hn,h=>by
    unfold drawOrder
    rw [List.length_eq_zero_iff.mp hn] at h
    exact wpAny_pure (h [] s.drawn (.refl _))
  | n + 1,[],s,Q,hn,h=>by simp at hn
  | n + 1,x :: xs,s,Q,hn,h=>by
    unfold drawOrder
    refine wpAny_bind (Qil (by simp) fun i d hi => ?_)
    rw [List.getElem?_eq_getElem hi]
    dsimp only
    refine wpAny_bind (Qhn n _ _ _ (by rw [List.length_eraseIdx,if_pos hi];simp at hn ⊢;omega) fun ys d' p => ?_)
    exact wpAny_pure (h _ _ ((List.Perm.cons _ p).trans (QbN hi)))
end
end L2.PM

noncomputable section
namespace L2.PM
open PySem PySem.Spec PyProof.Rows
noncomputable def SIt (h:Heap) (I D:Addr) (first:Value) (i n ep:Nat):Prop:=∃ o,h.get? I=some o∧o.cls = .type "set_iterator"∧o.data = .fields #[first,rawInt i,.ref D,rawInt n,rawInt ep]
noncomputable def SetC (h:Heap) (D:Addr) (es:Array (Int×Value)) (ep:Nat) (t:SetTable):Prop:=∃ o,h.get? D=some o∧o.ExactSet∧o.data = .set es ep t∧t.fits es.size=true
section
variable {prog:Program} {w:World} {A:Around} {E:Value→Shared→Prop} {s:Shared} {I D:Addr} {es:Array (Int×Value)} {ep:Nat} {t:SetTable} {i:Nat}
theorem SIt.typeIs {first:Value} {n:Nat} (x:SIt s.heap I D first i n ep):s.TypeIs (.ref I) "set_iterator":=let ⟨o,ho,hc,_⟩:=x;⟨o,ho,hc⟩
theorem SIt.at {h h':Heap} {first:Value} {n:Nat} (x:SIt h I D first i n ep) (e:∀ o,h.get? I=some o→h'.get? I=some o):SIt h' I D first i n ep:=let ⟨o,ho,r⟩:=x;⟨o,e _ ho,r⟩
theorem SetC.at {h h':Heap} (x:SetC h D es ep t) (e:∀ o,h.get? D=some o→h'.get? D=some o):SetC h' D es ep t:=let ⟨o,ho,r⟩:=x;⟨o,e _ ho,r⟩
theorem QaZ {h:Heap} {o:Obj} {vs:Array Value} {j:Nat} {x:Value} (ho:h.get? I=some o) (hd:o.data = .fields vs):∃ o',(h.update I (Obj.mapFields (·.setIfInBounds j x))).get? I=some o'∧o'.cls=o.cls∧o'.data = .fields (vs.setIfInBounds j x) :=
  ⟨_,Heap.get?_update_self _ ho (Obj.isFreed_of_fields (Obj.data_mapFields hd _)),Obj.cls_mapFields ..,Obj.data_mapFields hd _⟩
theorem QiP {slot next:Nat} {v:Value} {Q:Option Value→Shared→Prop} (hit:SIt s.heap I D (rawInt slot) i es.size ep) (hS:SetC s.heap D es ep t)
    (hnx:∀ (A':Around) (E':Value→Shared→Prop) (R:Option (Value×Nat)→Shared→Prop),R (some (v,next)) s→wpAny (model prog w) A' (setNext D slot i ep) R E' s)
    (fin:∀ h',SIt h' I D (rawInt next) (i + 1) es.size ep→Heap.SameBut I s.heap h'→Q (some v) { s with heap:=h' }):wpAny (model prog w) A (pyNext (.ref I)) Q E s:=by
  obtain ⟨o,ho,hc,hd⟩:=id hit
  obtain ⟨oS,hoS,hex,hdS,hf⟩:=hS
  unfold pyNext
  refine wpAny_bind (wpAny_attempt (wpAny_callSpecial?_slot (name:=Str.ofString "__next__") hit.typeIs SF.si_next (wpAny_call_entry SF.si_next hit.typeIs SF.si_entry ?_ (SF.si_args _))))
  unfold Builtin.«set_iterator.__next__»
  refine wpAny_bind (wpAny_of_eq (a:=(Value.ref I,[])) rfl (wpAny_bind (wpAny_fieldsOf ho hd ?_)))
  dsimp only [rawInt]
  refine wpAny_bind (wpAny_setEntries_of hoS hdS hf ?_)
  rw [if_neg (by simp)]
  refine wpAny_bind (hnx _ _ _ ?_)
  dsimp only
  obtain ⟨o1,at1,c1,d1⟩:=QaZ (j:=0) (x:=Value.int (next:Int) 0) ho hd
  refine wpAny_bind (wpAny_setField ho hd (by simp) (wpAny_bind (wpAny_setField at1 d1 (by simp) ?_)))
  obtain ⟨o2,at2,c2,d2⟩:=QaZ (j:=1) (x:=Value.int ((i:Int) + 1) 0) at1 d1
  exact wpAny_pure ⟨v,rfl,wpAny_pure (fin _ ⟨o2,at2,c2.trans (c1.trans hc),by rw [d2];simp [rawInt]⟩ ((Heap.SameBut.update _ I _).trans (Heap.SameBut.update _ I _)))⟩
theorem QgO {h1:Heap} {Q:Option Value→Shared→Prop} (calm:A.handled=none) (fin:∀ h',(∀ b o,h1.get? b=some o→h'.get? b=some o)→Q none { s with heap:=h' }) :
    wpAny (model prog w) A.in1 (newExc (.type "StopIteration") [] >>= fun e=>(raiseNew e:Sem PySem.Fin)) (fun fin s'=>∃ v,fin=Fin.done (Flow.ret v)∧wpAny (model prog w) A (pure (some v)) Q E s')
      (fun e s'=>wpAny (model prog w) A (do let b ← isInstance e (.type "StopIteration");if b=true then pure none else throw e) Q E s') { s with heap:=h1 }:=by
  refine wpAny_bind ?_
  simp only [newExc,newTuple]
  refine wpAny_bind (wpAny_newObj_type ?_ (by size_fits))
  refine wpAny_bind (m:=firstArgMember _ _) (wpAny_of_eq (a:=Value.none) (by first | rfl | (simp only [firstArgMember];rfl)) (wpAny_newObj_type ?_ (by size_fits)))
  simp only [raiseNew]
  refine wpAny_bind (wpAny_handled ?_)
  rw [show A.in1.handled=none from calm]
  refine wpAny_bind (wpAny_pure (wpAny_throw ?stop))
  case stop =>
  have ty:∀ (o:Obj) (h2:Heap),o.cls = .type "StopIteration"→o.isFreed=false→Shared.TypeIs { s with heap:=h2.push o } (.ref h2.objs.size) "StopIteration":=fun o h2 hc hf=>⟨o,Heap.get?_push_size _ hf,hc⟩
  refine wpAny_bind (wpAny_isInstance (T := "StopIteration") (b:=true) (ty _ _ rfl rfl) isSubtype_stop ?_)
  exact wpAny_pure (fin _ fun b o e=>Heap.get?_push_of_some _ (Heap.get?_push_of_some _ e))
theorem QiQ {slot:Nat} {Q:Option Value→Shared→Prop} (calm:A.handled=none) (hit:SIt s.heap I D (rawInt slot) i es.size ep) (hS:SetC s.heap D es ep t)
    (hnx:∀ (A':Around) (E':Value→Shared→Prop) (R:Option (Value×Nat)→Shared→Prop),R none s→wpAny (model prog w) A' (setNext D slot i ep) R E' s)
    (fin:∀ h',(∀ b o,b≠I→s.heap.get? b=some o→h'.get? b=some o)→Q none { s with heap:=h' }):wpAny (model prog w) A (pyNext (.ref I)) Q E s:=by
  obtain ⟨o,ho,hc,hd⟩:=id hit
  obtain ⟨oS,hoS,hex,hdS,hf⟩:=hS
  unfold pyNext
  refine wpAny_bind (wpAny_attempt (wpAny_callSpecial?_slot (name:=Str.ofString "__next__") hit.typeIs SF.si_next (wpAny_call_entry SF.si_next hit.typeIs SF.si_entry ?_ (SF.si_args _))))
  unfold Builtin.«set_iterator.__next__»
  refine wpAny_bind (wpAny_of_eq (a:=(Value.ref I,[])) rfl (wpAny_bind (wpAny_fieldsOf ho hd ?_)))
  dsimp only [rawInt]
  refine wpAny_bind (wpAny_setEntries_of hoS hdS hf ?_)
  rw [if_neg (by simp)]
  refine wpAny_bind (hnx _ _ _ ?_)
  dsimp only
  refine wpAny_bind (wpAny_setField ho hd (by simp) ?_)
  exact QgO calm fun h' k=>fin h' fun b o hb e=>k b o ((Heap.get?_update_other _ _ (Ne.symm hb)).trans e)
theorem si_dsome {ys:Array Value} {Tp pl:Nat} {e:Int×Value} {Q:Option Value→Shared→Prop} (hit:SIt s.heap I D (.ref Tp) i es.size ep) (hS:SetC s.heap D es ep t) (hTp:IsTup s.heap Tp ys) (hy:ys[i]?=some (rawInt pl)) (he:es[pl]?=some e)
    (fin:∀ h',SIt h' I D (.ref Tp) (i + 1) es.size ep→Heap.SameBut I s.heap h'→Q (some e.2) { s with heap:=h' }):wpAny (model prog w) A (pyNext (.ref I)) Q E s:=by
  obtain ⟨o,ho,hc,hd⟩:=id hit
  obtain ⟨oS,hoS,hex,hdS,hf⟩:=hS
  unfold pyNext
  refine wpAny_bind (wpAny_attempt (wpAny_callSpecial?_slot (name:=Str.ofString "__next__") hit.typeIs SF.si_next (wpAny_call_entry SF.si_next hit.typeIs SF.si_entry ?_ (SF.si_args _))))
  unfold Builtin.«set_iterator.__next__»
  refine wpAny_bind (wpAny_of_eq (a:=(Value.ref I,[])) rfl (wpAny_bind (wpAny_fieldsOf ho hd ?_)))
  dsimp only [rawInt]
  refine wpAny_bind (wpAny_setEntries_of hoS hdS hf ?_)
  rw [if_neg (by simp)]
  obtain ⟨oT,hoT,_,nT,hdT⟩:=hTp
  refine wpAny_bind (wpAny_seqItems hoT hdT ?_)
  dsimp only
  rw [Int.toNat_natCast,hy]
  dsimp only [rawInt]
  unfold setNextDrawn
  refine wpAny_bind (wpAny_bind (wpAny_setState_of hoS hdS hf ?_))
  dsimp only
  rw [if_neg (by simp),Int.toNat_natCast,he]
  dsimp only
  refine wpAny_pure (wpAny_bind (wpAny_setField ho hd (by simp) ?_))
  obtain ⟨o2,at2,c2,d2⟩:=QaZ (j:=1) (x:=Value.int ((i:Int) + 1) 0) ho hd
  exact wpAny_pure ⟨_,rfl,wpAny_pure (fin _ ⟨o2,at2,c2.trans hc,by rw [d2];simp [rawInt]⟩ (Heap.SameBut.update _ I _))⟩
theorem si_dnone {ys:Array Value} {Tp:Nat} {Q:Option Value→Shared→Prop} (calm:A.handled=none) (hit:SIt s.heap I D (.ref Tp) i es.size ep) (hS:SetC s.heap D es ep t) (hTp:IsTup s.heap Tp ys) (hy:ys[i]?=none)
    (fin:∀ h',(∀ b o,b≠I→s.heap.get? b=some o→h'.get? b=some o)→Q none { s with heap:=h' }):wpAny (model prog w) A (pyNext (.ref I)) Q E s:=by
  obtain ⟨o,ho,hc,hd⟩:=id hit
  obtain ⟨oS,hoS,hex,hdS,hf⟩:=hS
  obtain ⟨oT,hoT,_,nT,hdT⟩:=hTp
  unfold pyNext
  refine wpAny_bind (wpAny_attempt (wpAny_callSpecial?_slot (name:=Str.ofString "__next__") hit.typeIs SF.si_next (wpAny_call_entry SF.si_next hit.typeIs SF.si_entry ?_ (SF.si_args _))))
  unfold Builtin.«set_iterator.__next__»
  refine wpAny_bind (wpAny_of_eq (a:=(Value.ref I,[])) rfl (wpAny_bind (wpAny_fieldsOf ho hd ?_)))
  dsimp only [rawInt]
  refine wpAny_bind (wpAny_setEntries_of hoS hdS hf ?_)
  rw [if_neg (by simp)]
  refine wpAny_bind (wpAny_seqItems hoT hdT ?_)
  dsimp only
  rw [Int.toNat_natCast,hy]
  dsimp only
  obtain ⟨o1,at1,c1,d1⟩:=QaZ (j:=0) (x:=Value.int 0 0) ho hd
  refine wpAny_bind (wpAny_setField ho hd (by simp) (wpAny_bind (wpAny_setField at1 d1 (by simp) ?_)))
  exact QgO calm fun h' k=>fin h' fun b o hb e=>k b o ((Heap.get?_update_other _ _ (Ne.symm hb)).trans ((Heap.get?_update_other _ _ (Ne.symm hb)).trans e))
theorem QiZ (hT:byT w=true) (hS:SetC s.heap D es ep t) {slot:Nat} (A':Around) (E':Value→Shared→Prop) (R:Option (Value×Nat)→Shared→Prop) (h:R (((pickOrder (w.params.setOrder D ep) es)[i]?).map fun e=>(e.2,slot)) s):wpAny (model prog w) A' (setNext D slot i ep) R E' s:=by
  obtain ⟨oS,hoS,hex,hdS,hf⟩:=hS
  unfold setNext setsByText
  refine wpAny_bind (wpAny_setState_of hoS hdS hf ?_)
  dsimp only
  refine wpAny_bind (wpAny_bind (wpAny_askSetting (wpAny_pure ?_)))
  refine (show wpAny _ A' (if byT w=true then _ else _) R E' s from ?_)
  rw [if_pos hT,if_neg (by simp)]
  unfold setWalk setsByText
  refine wpAny_bind (wpAny_bind (wpAny_setState_of hoS hdS hf ?_))
  dsimp only
  refine wpAny_bind (wpAny_bind (wpAny_askSetting (wpAny_pure ?_)))
  refine (show wpAny _ A' (if byT w=true then _ else _) _ E' s from ?_)
  rw [if_pos hT]
  refine wpAny_bind (wpAny_askSetting (wpAny_pure (wpAny_pure ?_)))
  exact h
noncomputable def QeJ (es:Array (Int×Value)) (t:SetTable):Bool := !t.plain&&decide (es.size > 1)
theorem Qhc (hT:byT w=false) (hS:SetC s.heap D es ep t) (hD:QeJ es t=false) (hL:t.led=true) {slot:Nat} (A':Around) (E':Value→Shared→Prop) (R:Option (Value×Nat)→Shared→Prop)
    (h:R (match es[SetTable.below t.place slot]?,t.place[SetTable.below t.place slot]? with | some (_,x),some j=>some (x,j + 1) | _,_=>none) s):wpAny (model prog w) A' (setNext D slot i ep) R E' s:=by
  obtain ⟨oS,hoS,hex,hdS,hf⟩:=hS
  unfold setNext setsByText
  refine wpAny_bind (wpAny_setState_of hoS hdS hf ?_)
  dsimp only
  refine wpAny_bind (wpAny_bind (wpAny_askSetting (wpAny_pure ?_)))
  refine (show wpAny _ A' (if byT w=true then _ else _) R E' s from ?_)
  rw [if_neg (by rw [hT];decide)]
  refine (show wpAny _ A' (if QeJ es t=true then _ else _) R E' s from ?_)
  rw [if_neg (by rw [hD];decide)]
  refine (show wpAny _ A' ((if (!t.led && !es.isEmpty)=true then unsupported "set:maker-not-led" else pure ()) >>= _) R E' s from ?_)
  rw [if_neg (by rw [hL];simp)]
  exact wpAny_bind (wpAny_pure (wpAny_pure h))
end
end L2.PM

noncomputable section
namespace L2.PM
open PySem PySem.Spec PyProof.Rows
namespace SF
theorem si_iter:PySem.Slot "set_iterator" "__iter__" "set_iterator.__iter__" := .of (owner := "set_iterator") (n := "__iter__") (by rw [typeLookup_type,builtinLookup_eq_fast];kernel_rfl) (by decide +kernel) (by decide +kernel) (by decide +kernel) (by first | exact .inl (by decide +kernel) | exact .inr (by decide +kernel)) (by rw [isSubtype_type];kernel_rfl)
theorem si_iargs (a:Value):argsOk "set_iterator.__iter__" ⟨[a],[]⟩:=by
  unfold argsOk;rw [signature?_of (id := "set_iterator.__iter__") (n:=['_','_','r','e','t','i','_','_']) (o:=['r','o','t','a','r','e','t','i','_','t','e','s']) (by kernel_rfl) own_si];kernel_rfl
theorem si_ientry:entryFor table "set_iterator.__iter__"=some Builtin.«dict_keyiterator.__iter__»:=entryFor_alias (id' := "dict_keyiterator.__iter__") (by kernel_rfl) (by first | rfl | decide +kernel | (unfold String.splitOn;simp +decide [String.splitOnAux])) (by decide +kernel) (by kernel_rfl)
end SF
section
variable {prog:Program} {w:World} {A:Around} {E:Value→Shared→Prop} {s:Shared} {I D:Addr} {es:Array (Int×Value)} {ep:Nat} {t:SetTable}
theorem QfK {first:Value} {i n:Nat} {Q:Value→Shared→Prop} (hit:SIt s.heap I D first i n ep) (h:Q (.ref I) s):wpAny (model prog w) A (pyIter (.ref I)) Q E s:=by
  refine wpAny_pyIter_slot hit.typeIs SF.si_iter (wpAny_call_entry SF.si_iter hit.typeIs SF.si_ientry ?_ (SF.si_iargs _))
  show wpAny _ _ (ret (.ref I)) _ _ s
  exact wpAny_pure ⟨_,rfl,"set_iterator",_,hit.typeIs,SF.si_next.lookup,h⟩
noncomputable def cur (place:Array Nat):Nat→Nat
  | 0=>0
  | i + 1=>(place[i]?).getD 0 + 1
theorem Qht {place:Array Nat} {i j:Nat} (h:place[i]?=some j):cur place (i + 1)=j + 1:=by
  show (place[i]?).getD 0 + 1=j + 1
  rw [h];rfl
theorem Qfg {place:Array Nat} (up:Up place):∀ {i:Nat},i≤place.size→SetTable.below place (cur place i)=i
  | 0,_=>Qip up
  | i + 1,h=>by
    have hi:i < place.size:=by omega
    have e:place[i]?=some place[i]:=Array.getElem?_eq_getElem hi
    rw [Qht e]
    exact Qiq up e
theorem Qjn (hT:byT w=true) (ne:D≠I) (A':Around) (calm:A'.handled=none):Walks prog w A' I [I,D] [I] es.size (fun i v=>((pickOrder (w.params.setOrder D ep) es)[i]?).map (·.2)=some v) (fun i h=>i≤es.size∧SIt h I D (rawInt 0) i es.size ep∧SetC h D es ep t) where
  sub:=fun b hb=>by simp at hb;simp [hb]
  frame:=fun i h h' x k=>⟨x.1,x.2.1.at fun o e=>k I (by simp) o e,x.2.2.at fun o e=>k D (by simp) o e⟩
  item:=fun i s Q E hi x fin=>by
    have sz:(pickOrder (w.params.setOrder D ep) es).size=es.size:=by
      have:=(QcL (w.params.setOrder D ep) es).length_eq
      simpa using this
    have hg:(pickOrder (w.params.setOrder D ep) es)[i]?=some ((pickOrder (w.params.setOrder D ep) es)[i]'(by omega)):=Array.getElem?_eq_getElem (by omega)
    refine QiP (slot:=0) (next:=0) (v:=((pickOrder (w.params.setOrder D ep) es)[i]'(by omega)).2) x.2.1 x.2.2 (fun A' E' R h=>QiZ hT x.2.2 A' E' R (by rw [hg];exact h)) fun h' z sb => ?_
    exact fin _ h' s.toks (by rw [hg];rfl) ⟨hi,z,x.2.2.at fun o e=>(sb.2 D ne).trans e⟩ fun b o hb e=>(sb.2 b fun q=>hb (by simp [q])).trans e
  done:=fun s Q E x fin=>by
    have sz:(pickOrder (w.params.setOrder D ep) es).size=es.size:=by
      have:=(QcL (w.params.setOrder D ep) es).length_eq
      simpa using this
    have hg:(pickOrder (w.params.setOrder D ep) es)[es.size]?=none:=Array.getElem?_eq_none (by omega)
    exact QiQ (slot:=0) calm x.2.1 x.2.2 (fun A' E' R h=>QiZ hT x.2.2 A' E' R (by rw [hg];exact h)) fun h' k=>fin h' s.toks fun b o hb e=>k b o (fun q=>hb (by simp [q])) e
  self:=fun _ _ _ _ x h=>QfK x.2.1 h
theorem QhC (hT:byT w=false) (hD:QeJ es t=false) (kp:Kept true t) (fits:t.fits es.size=true) (ne:D≠I) (A':Around) (calm:A'.handled=none):Walks prog w A' I [I,D] [I] es.size (fun i v=>(es[i]?).map (·.2)=some v) (fun i h=>i≤es.size∧SIt h I D (rawInt (cur t.place i:Nat)) i es.size ep∧SetC h D es ep t) where
  sub:=fun b hb=>by simp at hb;simp [hb]
  frame:=fun i h h' x k=>⟨x.1,x.2.1.at fun o e=>k I (by simp) o e,x.2.2.at fun o e=>k D (by simp) o e⟩
  item:=fun i s Q E hi x fin=>by
    have ps:t.place.size=es.size:=by
      unfold SetTable.fits at fits
      simp at fits
      exact fits.1
    have g1:es[i]?=some es[i]:=Array.getElem?_eq_getElem hi
    have g2:t.place[i]?=some (t.place[i]'(by omega)):=Array.getElem?_eq_getElem (by omega)
    have hb:=Qfg kp.2 (i:=i) (by omega)
    refine QiP (next:=cur t.place (i + 1)) (v:=es[i].2) x.2.1 x.2.2 (fun A' E' R h=>Qhc hT x.2.2 hD kp.1 A' E' R (by
      rw [hb,g1,g2]
      rw [Qht g2] at h
      exact h)) fun h' z sb => ?_
    exact fin _ h' s.toks (by rw [g1];rfl) ⟨hi,z,x.2.2.at fun o e=>(sb.2 D ne).trans e⟩ fun b o hb e=>(sb.2 b fun q=>hb (by simp [q])).trans e
  done:=fun s Q E x fin=>by
    have ps:t.place.size=es.size:=by
      unfold SetTable.fits at fits
      simp at fits
      exact fits.1
    have g1:es[es.size]?=none:=Array.getElem?_eq_none (Nat.le_refl _)
    have hb:=Qfg kp.2 (i:=es.size) (by omega)
    exact QiQ calm x.2.1 x.2.2 (fun A' E' R h=>Qhc hT x.2.2 hD kp.1 A' E' R (by rw [hb,g1];exact h)) fun h' k=>fin h' s.toks fun b o hb e=>k b o (fun q=>hb (by simp [q])) e
  self:=fun _ _ _ _ x h=>QfK x.2.1 h
theorem QhD {Tp:Addr} {ys:List Nat} (hy:ys.Perm (List.range es.size)) (ne:D≠I) (ne2:Tp≠I) (A':Around) (calm:A'.handled=none):Walks prog w A' I [I,D,Tp] [I] es.size (fun i v=>((ys[i]?).bind fun j=>es[j]?).map (·.2)=some v)
    (fun i h=>i≤es.size∧SIt h I D (.ref Tp) i es.size ep∧SetC h D es ep t∧IsTup h Tp (ys.map fun (j:Nat)=>rawInt j).toArray) where
  sub:=fun b hb=>by simp at hb;simp [hb]
  frame:=fun i h h' x k=>⟨x.1,x.2.1.at fun o e=>k I (by simp) o e,x.2.2.1.at fun o e=>k D (by simp) o e,let ⟨o,ho,r⟩:=x.2.2.2;⟨o,k Tp (by simp) o ho,r⟩⟩
  item:=fun i s Q E hi x fin=>by
    have hl:ys.length=es.size:=by rw [hy.length_eq,List.length_range]
    have g1:ys[i]?=some (ys[i]'(by omega)):=List.getElem?_eq_getElem (by omega)
    have hm:ys[i]'(by omega) < es.size:=List.mem_range.mp (hy.mem_iff.mp (List.getElem_mem (by omega)))
    have g2:es[ys[i]'(by omega)]?=some (es[ys[i]'(by omega)]'hm):=Array.getElem?_eq_getElem hm
    refine si_dsome (pl:=ys[i]'(by omega)) x.2.1 x.2.2.1 x.2.2.2 (by simp [g1]) g2 fun h' z sb => ?_
    exact fin _ h' s.toks (by rw [g1,Option.bind_some,g2];rfl) ⟨hi,z,x.2.2.1.at fun o e=>(sb.2 D ne).trans e,let ⟨o,ho,r⟩:=x.2.2.2;⟨o,(sb.2 Tp ne2).trans ho,r⟩⟩ fun b o hb e=>(sb.2 b fun q=>hb (by simp [q])).trans e
  done:=fun s Q E x fin=>by
    have hl:ys.length=es.size:=by rw [hy.length_eq,List.length_range]
    exact si_dnone calm x.2.1 x.2.2.1 x.2.2.2 (by simp;omega) fun h' k=>fin h' s.toks fun b o hb e=>k b o (fun q=>hb (by simp [q])) e
  self:=fun _ _ _ _ x h=>QfK x.2.1 h
end
end L2.PM

noncomputable section
namespace L2.PM
open PySem PySem.Spec PyProof.Rows
section
variable {prog:Program} {w:World} {A:Around} {E:Value→Shared→Prop} {s:Shared} {D:Addr} {es:Array (Int×Value)} {ep:Nat} {t:SetTable}
theorem SetC.typeIs (x:SetC s.heap D es ep t):s.TypeIs (.ref D) "set":=let ⟨o,ho,hex,_⟩:=x;⟨o,ho,hex.1⟩
theorem iter_set {Q:Value→Shared→Prop} (hS:SetC s.heap D es ep t) (kp:Kept (!byT w) t) (small:es.size < scanBound)
    (fin:∀ (I:Addr) (h':Heap) (d:Drawn) (fp:List Addr) (ord:List (Int×Value)) (P:Nat→Value→Prop) (St:Nat→Heap→Prop),(∀ b o,s.heap.get? b=some o→h'.get? b=some o)→(∀ b∈fp,b < h'.objs.size)→(∀ b∈fp,b=D∨s.heap.objs.size≤b)→I∈fp→s.heap.objs.size≤h'.objs.size →
      ord.Perm es.toList→(∀ i v,P i v→(ord[i]?).map (·.2)=some v)→(∀ A':Around,A'.handled=none→Walks prog w A' I fp [I] es.size P St)→St 0 h'→D≠I→Q (.ref I) { s with heap:=h',drawn:=d }) :
    wpAny (model prog w) A (pyIter (.ref D)) Q E s:=by
  obtain ⟨oS,hoS,hex,hdS,hf⟩:=id hS
  refine wpAny_pyIter_slot hS.typeIs PySem.F.slot_set_iter (wpAny_call_entry PySem.F.slot_set_iter hS.typeIs SF.set_iter ?_ (PySem.F.args_set_iter_1 _))
  unfold Builtin.«frozenset.__iter__» Builtin.Frozenset.slot0 slotArgs
  simp only [List.isEmpty_nil,Bool.not_true,Bool.false_eq_true,↓reduceIte,bind_assoc,List.length_nil,bne_self_eq_false]
  unfold Builtin.Frozenset.addrOf Builtin.Frozenset.sizeOf
  refine wpAny_bind (wpAny_pure ?_)
  try dsimp only
  refine wpAny_bind (wpAny_pure ?_)
  refine wpAny_bind (wpAny_bind (wpAny_setEntries_of hoS hdS hf (wpAny_pure ?_)))
  unfold setDrawn setsByText
  refine wpAny_bind (wpAny_bind (wpAny_setState_of hoS hdS hf ?_))
  dsimp only
  refine wpAny_bind (wpAny_bind (wpAny_askSetting (wpAny_pure ?_)))
  refine wpAny_pure ?_
  refine (show wpAny _ A.in1 (if (!byT w&&QeJ es t)=true then _ else _) _ E s from ?_)
  have lt:D < s.heap.objs.size:=Heap.lt_size hoS
  have plain:∀ (P:Nat→Value→Prop) (St:Addr→Nat→Heap→Prop) (ord:List (Int×Value)),ord.Perm es.toList→(∀ i v,P i v→(ord[i]?).map (·.2)=some v)→(∀ I,D≠I→∀ A':Around,A'.handled=none→Walks prog w A' I [I,D] [I] es.size P (St I)) →
      (∀ h',SIt h' s.heap.objs.size D (rawInt 0) 0 es.size ep→SetC h' D es ep t→St s.heap.objs.size 0 h') →
      wpAny (model prog w) A.in1 (do
        let first ← pure (rawInt 0)
        let k ← setEpoch D
        let it ← newFields "set_iterator" [first,rawInt 0,Value.ref D,rawInt (es.size:Nat),rawInt (k:Nat)]
        ret it) (fun fin s'=>∃ v,fin=Fin.done (Flow.ret v)∧∃ T' r,s'.TypeIs v T'∧typeLookup (Value.type T') (Str.ofString "__next__")=pure (some r)∧Q v s') E s:=by
    intro P St ord hp hP hW hSt
    refine wpAny_bind (wpAny_pure (wpAny_bind ?_))
    unfold setEpoch
    refine wpAny_bind (wpAny_setState_of hoS hdS hf (wpAny_pure ?_))
    unfold newFields
    refine wpAny_bind (wpAny_newObj_type (wpAny_pure ⟨_,rfl,"set_iterator",_,⟨_,Heap.get?_push_size _ rfl,rfl⟩,SF.si_next.lookup,?_⟩) (by size_fits))
    have sit:SIt (s.heap.push { cls := .type "set_iterator",data := .fields [rawInt 0,rawInt 0,Value.ref D,rawInt (es.size:Nat),rawInt (ep:Nat)].toArray }) s.heap.objs.size D (rawInt 0) 0 es.size ep:=⟨_,Heap.get?_push_size _ rfl,rfl,rfl⟩
    refine fin s.heap.objs.size _ s.drawn [s.heap.objs.size,D] ord P (St s.heap.objs.size) (fun b o e=>Heap.get?_push_of_some _ e) (fun b hb => ?_) (fun b hb => ?_) (by simp) (by rw [Heap.size_push];exact Nat.le_succ _) hp hP (fun A' c=>hW _ (Nat.ne_of_lt lt) A' c) (hSt _ sit (hS.at fun o e=>Heap.get?_push_of_some _ e)) (Nat.ne_of_lt lt)
    · rw [Heap.size_push]
      rcases List.mem_cons.mp hb with q | q
      · rw [q];exact Nat.lt_succ_self _
      · rw [List.mem_singleton.mp q];exact Nat.lt_succ_of_lt lt
    · rcases List.mem_cons.mp hb with q | q
      · rw [q];exact .inr (Nat.le_refl _)
      · exact .inl (List.mem_singleton.mp q)
  cases hT:byT w with
  | true =>
    rw [if_neg (by simp)]
    exact plain _ (fun I i h=>i≤es.size∧SIt h I D (rawInt 0) i es.size ep∧SetC h D es ep t) (pickOrder (w.params.setOrder D ep) es).toList (QcL _ _) (fun i v h=>by rw [Array.getElem?_toList];exact h) (fun I ne A' c=>Qjn hT ne A' c) fun h' x y=>⟨Nat.zero_le _,x,y⟩
  | false =>
    rw [hT] at kp
    cases hD:QeJ es t with
    | false =>
      rw [if_neg (by simp)]
      exact plain _ (fun I i h=>i≤es.size∧SIt h I D (rawInt (cur t.place i:Nat)) i es.size ep∧SetC h D es ep t) es.toList (.refl _) (fun i v h=>by rw [Array.getElem?_toList];exact h) (fun I ne A' c=>QhC hT hD kp hf ne A' c) fun h' x y=>⟨Nat.zero_le _,x,y⟩
    | true =>
      rw [if_pos (by simp)]
      refine wpAny_bind (Qhn _ _ _ _ (List.length_range) fun ys d hy => ?_)
      have hl:ys.length=es.size:=by rw [hy.length_eq,List.length_range]
      have hz:(ys.map fun (j:Nat)=>rawInt j).toArray.size≤sizeLine:=by
        rw [List.size_toArray,List.length_map,hl]
        exact fits_of_scanBound small
      unfold newTuple
      refine wpAny_bind (wpAny_newObj_type ?_ hz)
      unfold setEpoch
      refine wpAny_bind (wpAny_bind (wpAny_setState_of (Heap.get?_push_of_some _ hoS) hdS hf (wpAny_pure ?_)))
      unfold newFields
      refine wpAny_bind (wpAny_newObj_type (wpAny_pure ⟨_,rfl,"set_iterator",_,⟨_,Heap.get?_push_size _ rfl,rfl⟩,SF.si_next.lookup,?_⟩) (by size_fits))
      have lt2:D < (s.heap.push { cls := .type "tuple",data := .seq (ys.map fun (j:Nat)=>rawInt j).toArray }).objs.size:=by rw [Heap.size_push];exact Nat.lt_succ_of_lt lt
      have lt3:s.heap.objs.size < (s.heap.push { cls := .type "tuple",data := .seq (ys.map fun (j:Nat)=>rawInt j).toArray }).objs.size:=by rw [Heap.size_push];exact Nat.lt_succ_self _
      have sit:SIt ((s.heap.push { cls := .type "tuple",data := .seq (ys.map fun (j:Nat)=>rawInt j).toArray }).push { cls := .type "set_iterator",data := .fields [Value.ref s.heap.objs.size,rawInt 0,Value.ref D,rawInt (es.size:Nat),rawInt (ep:Nat)].toArray })
        (s.heap.push { cls := .type "tuple",data := .seq (ys.map fun (j:Nat)=>rawInt j).toArray }).objs.size D (.ref s.heap.objs.size) 0 es.size ep:=⟨_,Heap.get?_push_size _ rfl,rfl,rfl⟩
      refine fin _ _ d [_,D,s.heap.objs.size] (ys.map fun j=>(es[j]?).getD (0,.none)) _ _ (fun b o e=>Heap.get?_push_of_some _ (Heap.get?_push_of_some _ e)) (fun b hb => ?_) (fun b hb => ?_) (by simp) (by rw [Heap.size_push,Heap.size_push];exact Nat.le_succ_of_le (Nat.le_succ _)) ?_ ?_
        (fun A' c=>QhD (Tp:=s.heap.objs.size) hy (Nat.ne_of_lt lt2) (Nat.ne_of_lt lt3) A' c) ⟨Nat.zero_le _,sit,hS.at fun o e=>Heap.get?_push_of_some _ (Heap.get?_push_of_some _ e),⟨_,Heap.get?_push_of_some _ (Heap.get?_push_size _ rfl),rfl,_,rfl⟩⟩ (Nat.ne_of_lt lt2)
      · rw [Heap.size_push]
        rcases List.mem_cons.mp hb with q | q
        · rw [q];exact Nat.lt_succ_self _
        · rcases List.mem_cons.mp q with q | q
          · rw [q];exact Nat.lt_succ_of_lt lt2
          · rw [List.mem_singleton.mp q];exact Nat.lt_succ_of_lt lt3
      · rcases List.mem_cons.mp hb with q | q
        · rw [q];exact .inr (Nat.le_of_lt lt3)
        · rcases List.mem_cons.mp q with q | q
          · exact .inl q
          · rw [List.mem_singleton.mp q];exact .inr (Nat.le_refl _)
      · have e:es.toList=(List.range es.size).map fun j=>(es[j]?).getD (0,.none):=by
          apply List.ext_getElem?
          intro i
          rw [List.getElem?_map,Array.getElem?_toList]
          by_cases h:i < es.size
          · rw [List.getElem?_range h]
            simp [h]
          · rw [List.getElem?_eq_none (by rw [List.length_range];omega),Array.getElem?_eq_none (by omega)]
            rfl
        rw [e]
        exact hy.map _
      · intro i v h
        rw [List.getElem?_map]
        cases hi:ys[i]? with
        | none=>rw [hi] at h;cases h
        | some j =>
          rw [hi,Option.bind_some] at h
          cases hj:es[j]? with
          | none=>rw [hj] at h;cases h
          | some x=>rw [hj] at h;simp [hj];simpa using h
end
end L2.PM

noncomputable section
namespace L2.PM
open PySem PySem.Spec PyProof.Rows
section
variable {prog:Program} {w:World} {A:Around} {E:Value→Shared→Prop} {s:Shared} {D:Addr} {es:Array (Int×Value)} {ep:Nat} {t:SetTable}
theorem QcW {α:Type} [DecidableEq α]:∀ {M ks:List α},M.Nodup→(∀ x∈M,x∈ks)→ks.length≤M.length→ks.Perm M
  | [],ks,_,_,h=>by
    rw [List.length_eq_zero_iff.mp (Nat.le_zero.mp h)]
  | x :: M,ks,hn,hs,hl=>by
    rw [List.nodup_cons] at hn
    have hx:x∈ks:=hs x List.mem_cons_self
    have p:=List.perm_cons_erase hx
    refine p.trans (List.Perm.cons x (QcW hn.2 (fun y hy => ?_) ?_))
    · exact (List.mem_erase_of_ne (fun e=>hn.1 (by rw [← e];exact hy))).mpr (hs y (List.mem_cons_of_mem _ hy))
    · rw [List.length_erase_of_mem hx]
      simp at hl
      omega
theorem ite_t {α:Type} {M:Model} {c:Bool} {a b:Sem α} {R:α→Shared→Prop} (h:c=true) (q:wpAny M A a R E s):wpAny M A (if c=true then a else b) R E s:=by
  rw [if_pos h];exact q
theorem hint_set {R:Bool→Shared→Prop} (hT:s.TypeIs (.ref D) "set") (h:R false s):wpAny (model prog w) A (Builtin.List.listLengthHint (.ref D)) R E s:=by
  unfold Builtin.List.listLengthHint
  refine wpAny_bind (wpAny_specialOf hT PySem.F.slot_set_len.lookup ?_)
  dsimp only
  rw [show splitId "set.__len__"=some ("set","__len__") from by kernel_rfl]
  dsimp only
  refine wpAny_bind (wpAny_isInstance hT sub_set_self ?_)
  simp only [Bool.not_true,Bool.false_eq_true,if_false]
  refine ite_t (by kernel_rfl) (wpAny_bind (wpAny_typeOf hT ?_))
  exact wpAny_pure h
theorem QgH {Q:List Value→Shared→Prop} (calm:A.handled=none) (hS:SetC s.heap D es ep t) (kp:Kept (!byT w) t) (small:es.size < scanBound)
    (fin:∀ (h':Heap) (tk:Nat) (d:Drawn) (ord:List (Int×Value)),(∀ b o,s.heap.get? b=some o→h'.get? b=some o)→s.heap.objs.size≤h'.objs.size→ord.Perm es.toList→Q (ord.map (·.2)) { s with heap:=h',toks:=tk,drawn:=d }) :
    wpAny (model prog w) A (collect (.ref D)) Q E s:=by
  obtain ⟨oS,hoS,hex,hdS,hf⟩:=id hS
  have lt:D < s.heap.objs.size:=Heap.lt_size hoS
  have hne:s.heap.objs.size≠D:=Nat.ne_of_gt lt
  unfold collect
  refine wpAny_bind (wpAny_runValue (codeAny_builtin PySem.F.entry_proto_collect ?_))
  rw [Around.under_plainId PySem.F.plain_proto_collect _]
  show wpAny _ A.in1 (newList [] >>= fun l=>again (.builtin "list.__iadd__" ⟨[l,.ref D],[]⟩)) _ _ s
  refine wpAny_bind (wpAny_newObj_type (wpAny_pure ⟨plainId_quiet PySem.F.plain_list_iadd _,codeAny_builtin PySem.F.entry_list_iadd ?_⟩))
  rw [Around.under_plainId PySem.F.plain_list_iadd _]
  have hS1:SetC (s.heap.push { cls := .type "list",data := .seq ([]:List Value).toArray }) D es ep t:=hS.at fun o e=>Heap.get?_push_of_some _ e
  show wpAny _ A.in1 (Builtin.List.listExtendWith (.ref s.heap.objs.size) (.ref D) (.ref s.heap.objs.size)) _ _ _
  unfold Builtin.List.listExtendWith
  refine wpAny_bind (wpAny_typeOf (s:={ s with heap:=s.heap.push { cls := .type "list",data := .seq ([]:List Value).toArray } }) hS1.typeIs ?_)
  have q1:Builtin.List.listSameRef (.ref s.heap.objs.size) (.ref D)=false:=by simp [Builtin.List.listSameRef,hne]
  have q2:(Value.type "set"==Value.type "list")=false:=by decide
  have q3:(Value.type "set"==Value.type "tuple")=false:=by decide
  simp only [q1,q2,q3,Bool.or_false,Bool.false_eq_true,if_false]
  refine wpAny_bind (iter_set (s:={ s with heap:=s.heap.push { cls := .type "list",data := .seq ([]:List Value).toArray } }) hS1 kp small fun I h2 d fp ord P St k2 hfp hfp2 hI hsz hp hP hW st hDI => ?_)
  refine wpAny_bind (wpAny_holding ?_)
  have hS2:SetC h2 D es ep t:=hS1.at fun o e=>k2 D o e
  refine hint_set (s:={ s with heap:=h2,drawn:=d }) hS2.typeIs ?_
  refine ite_t (by kernel_rfl) (wpAny_bind (wpAny_rule (wpAny_bind ?_)))
  have L0:h2.get? s.heap.objs.size=some { cls := .type "list",data := .seq ([]:List Value).toArray }:=k2 _ _ (Heap.get?_push_size _ rfl)
  show wpAny _ A.in1 (updateSeq s.heap.objs.size (·.push .none) >>= fun _=>updateSeq s.heap.objs.size (·.pop)) _ _ _
  refine wpAny_bind (wpAny_updateSeq L0 rfl ?_)
  have L1:=Heap.get?_update_self (Obj.mapSeq (·.push Value.none)) L0 rfl
  refine wpAny_updateSeq L1 rfl ?_
  have L2:=Heap.get?_update_self (Obj.mapSeq (·.pop)) L1 rfl
  have nin:s.heap.objs.size∉fp:=fun z=>by
    rcases hfp2 _ z with q | q
    · exact hne q
    · have q:(s.heap.push { cls := .type "list",data := .seq ([]:List Value).toArray }).objs.size≤s.heap.objs.size:=q
      rw [Heap.size_push] at q
      exact absurd q (Nat.not_succ_le_self _)
  have W:=(hW A.in1 (by simp [calm]):Walks prog w A.in1 I fp [I] es.size P St)
  have oth:∀ b o,b≠s.heap.objs.size→h2.get? b=some o→((h2.update s.heap.objs.size (Obj.mapSeq (·.push Value.none))).update s.heap.objs.size (Obj.mapSeq (·.pop))).get? b=some o:=fun b o hb e =>
    (Heap.get?_update_other _ _ (Ne.symm hb)).trans ((Heap.get?_update_other _ _ (Ne.symm hb)).trans e)
  refine wpAny_pure ⟨plainId_quiet PySem.F.plain_extend_loop _,codeAny_extend_loopS W.toS (fits_of_scanBound small) _ nin _ es.size 0 _ _ _ rfl (Nat.zero_le _) (W.frame 0 _ _ st fun b hb o e=>oth b o (fun q=>nin (q ▸ hb)) e) L2 (ItemsOf.nil P) fun s' acc c hm hS' hacc => ?_⟩
  refine wpAny_bind (wpAny_load hS' (wpAny_pure ?_))
  obtain ⟨h3,g3,d3,tk3,os3⟩:=s'
  obtain rfl:g3=s.gens:=hm.gens
  obtain rfl:d3=d:=hm.drawn
  obtain rfl:os3=s.os:=hm.os
  have ol:ord.length=es.size:=by
    have:=hp.length_eq
    simpa using this
  have e:acc.toList=ord.map (·.2):=by
    apply List.ext_getElem?
    intro j
    rw [List.getElem?_map,Array.getElem?_toList]
    by_cases hj:j < es.size
    · have g:acc[j]?=some (acc[j]'(by rw [hacc.1];exact hj)):=Array.getElem?_eq_getElem _
      rw [g]
      exact (hP j _ (hacc.2 j _ g)).symm
    · rw [Array.getElem?_eq_none (by rw [hacc.1];omega),List.getElem?_eq_none (by omega)]
      rfl
  rw [e]
  refine fin h3 tk3 d3 ord (fun b o q => ?_) ?_ hp
  · have bl:b < s.heap.objs.size:=Heap.lt_size q
    refine hm.heap b o (fun z => ?_) (oth b o (Nat.ne_of_lt bl) (k2 b o (Heap.get?_push_of_some _ q)))
    rcases List.mem_cons.mp z with z | z
    · exact absurd z (Nat.ne_of_lt bl)
    · rw [List.mem_singleton.mp z] at bl
      rcases hfp2 I hI with y | y
      · exact hDI y.symm
      · have y:(s.heap.push { cls := .type "list",data := .seq ([]:List Value).toArray }).objs.size≤I:=y
        rw [Heap.size_push] at y
        exact absurd (Nat.lt_of_lt_of_le bl (Nat.le_of_succ_le y)) (Nat.lt_irrefl _)
  · exact Nat.le_of_lt (Heap.lt_size hS')
theorem QhK {M:List Int} {Q:Value→Shared→Prop} (calm:A.handled=none) (hS:SetL prog w (!byT w) s.heap D M) (h64:M.length < 64)
    (fin:∀ (L:Addr) (h':Heap) (tk:Nat) (d:Drawn) (out:Array Value) (ns:List Int) (e:Nat),(∀ b o,s.heap.get? b=some o→h'.get? b=some o)→s.heap.objs.size≤L→h'.get? L=some (seqObj "list" out e)→IntsAre out.toList ns→ns.Perm M→ns.Pairwise (· ≤ ·) →
      Q (.ref L) { s with heap:=h',toks:=tk,drawn:=d }):wpAny (model prog w) A (call (.builtin "sorted") [.ref D]) Q E s:=by
  obtain ⟨o,es,ep,t,ho,hex,hd,hel,hm,hb,hf,hn,hnd,hkp⟩:=hS
  have hC:SetC s.heap D es ep t:=⟨o,ho,hex,hd,hf⟩
  refine Calls.call_function_entry kind_sorted plain_sorted entry_sorted (args_sorted1 _) ?_
  unfold Builtin.«sorted»
  refine wpAny_bind (m:=checkCount "sorted" 1 1 _) (wpAny_pure ?_)
  refine wpAny_bind (QgH calm hC hkp hb fun h1 tk d ord k1 sz1 hp => ?_)
  have ol:ord.length=M.length:=by
    have:=hp.length_eq
    rw [this,← hn];simp
  have key:∀ e∈ord,∃ k u,e.2=Value.int k u:=fun e he=>by
    obtain ⟨⟨k,hk,_⟩,_⟩:=hel e (hp.mem_iff.mp he)
    obtain ⟨u,hu⟩:=Value.isInt_shape (k:=k) (v:=e.2) hk
    exact ⟨k,u,hu⟩
  obtain ⟨ks,hks,hkm⟩:∃ ks:List Int,IntsAre (ord.map (·.2)) ks∧∀ k,k∈ks↔∃ e∈ord,(intKind prog w).is k e.2=true:=by
    clear hp ol
    induction ord with
    | nil=>exact ⟨[],.nil,fun k=>by simp⟩
    | cons x l ih =>
      obtain ⟨ks,h1,h2⟩:=ih fun e he=>key e (List.mem_cons_of_mem _ he)
      obtain ⟨k,u,hu⟩:=key x List.mem_cons_self
      refine ⟨k :: ks,?_,fun j => ?_⟩
      · rw [List.map_cons,hu];exact .cons k u h1
      · rw [List.mem_cons,h2 j]
        constructor
        · rintro (rfl | ⟨e,he,q⟩)
          · exact ⟨x,List.mem_cons_self,by rw [hu];exact intKind_is _ _ _ _⟩
          · exact ⟨e,List.mem_cons_of_mem _ he,q⟩
        · rintro ⟨e,he,q⟩
          rcases List.mem_cons.mp he with z | z
          · subst z
            rw [hu] at q
            exact .inl ((intKind prog w).inj (.int k u) j k q (intKind_is _ _ _ _))
          · exact .inr ⟨e,z,q⟩
  have kl:ks.length=M.length:=by
    have:=IntsAre.length hks
    rw [List.length_map] at this
    omega
  have kM:ks.Perm M:=by
    have sub:∀ x∈M,x∈ks:=fun x hx=>(hkm x).mpr (by
      obtain ⟨e,he,q⟩:=(hm x).mp hx
      exact ⟨e,hp.mem_iff.mpr he,q⟩)
    exact QcW hnd sub (by omega)
  refine wpAny_bind (wpAny_newList ?_)
  have vl:(ord.map (·.2)).length < 64:=by rw [List.length_map];omega
  have hoL:(h1.push (seqObj "list" (ord.map (·.2)).toArray 0)).get? h1.objs.size=some (seqObj "list" (ord.map (·.2)).toArray 0):=Heap.get?_push_size _ rfl
  refine wpAny_bind (wpAny_holding (wpAny_call_entry slot_list_sort ⟨_,hoL,rfl⟩ entry_list_sort (list_sort_tree hoL hks vl fun out ns' a1 a2 a3=>⟨_,rfl,?_⟩) (args_list_sort _)))
  obtain ⟨e,hat⟩:=sortedHeap_at (out:=out) hoL
  refine wpAny_pure ⟨_,rfl,fin h1.objs.size _ tk d out ns' e (fun b o q => ?_) sz1 hat a1 (a2.trans kM) a3⟩
  have q1:=k1 b o q
  have bl:=Heap.lt_size q1
  rw [sortedHeap_old (Nat.ne_of_lt bl) (by rw [Heap.size_push];exact Nat.lt_succ_of_lt bl)]
  exact Heap.get?_push_of_some _ q1
end
end L2.PM

noncomputable section
namespace L2.PM
open PySem PySem.Spec PyProof.Rows
theorem mem_more {M:List Int} {k x:Int}:x∈more M k↔x∈M∨x=k:=by
  unfold more
  split
  · rename_i h
    exact ⟨.inl,fun q=>q.elim id fun e=>e ▸ h⟩
  · simp
theorem QeY:∀ (l M:List Int),M.Nodup→(l.foldl more M).Nodup∧∀ x,x∈l.foldl more M↔x∈M∨x∈l
  | [],M,h=>⟨h,fun x=>by simp⟩
  | y :: l,M,h=>by
    obtain ⟨a,b⟩:=QeY l (more M y) (QbL h y)
    refine ⟨a,fun x => ?_⟩
    rw [List.foldl_cons,b x,mem_more,List.mem_cons]
    exact ⟨fun q=>q.elim (fun q=>q.elim .inl fun e => .inr (.inl e)) fun q => .inr (.inr q),fun q=>q.elim (fun q => .inl (.inl q)) fun q=>q.elim (fun e => .inl (.inr e)) .inr⟩
theorem QeT {y:Int}:∀ {xs:List Int},y∈once xs↔y∈xs
  | []=>by simp [once]
  | x :: xs=>by
    unfold once
    rw [List.mem_cons,List.mem_cons,List.mem_filter,QeT (xs:=xs)]
    by_cases h:y=x <;> simp [h]
theorem QcX:∀ xs:List Int,(once xs).Nodup
  | []=>by simp [once]
  | x :: xs=>by
    unfold once
    rw [List.nodup_cons]
    exact ⟨by simp [List.mem_filter],List.Pairwise.filter _ (QcX xs)⟩
theorem Qju (ns:List Int):(seen (fun i=>ns.getD i 0) ns.length).Perm (once ns):=by
  have e:(List.range ns.length).map (fun i=>ns.getD i 0)=ns:=by
    apply List.ext_getElem?
    intro i
    rw [List.getElem?_map]
    by_cases h:i < ns.length
    · rw [List.getElem?_range h];simp [h]
    · rw [List.getElem?_eq_none (by rw [List.length_range];omega),List.getElem?_eq_none (by omega)];rfl
  unfold seen
  rw [e]
  obtain ⟨a,b⟩:=QeY ns [] .nil
  exact (List.perm_ext_iff_of_nodup a (QcX ns)).mpr fun x=>by rw [b x,QeT];simp
section
variable {X:Cx} {e a b c:Expr} {es:List Expr} {ms ns ls:List Nat} {m m1 m2 m3:MEx} {ma:PEnv→Option (List PV)} {pos p p1 p2 p3 pos':Pos} {x:Str} {id T:String}
theorem _root_.L2.Inv.drawn {pins:List (Addr×Obj)} {σ:St} {H:Hp} {s:Shared} (I:Inv X pins σ H s) (d:Drawn):Inv X pins σ H { s with drawn:=d }:=⟨I.ok,I.os,I.bare,I.base,I.loc,I.cell,I.free,I.freeC,I.pin,I.hok,I.len⟩
noncomputable def Qko (X:Cx) (p:Addr) (M:List Int):HO := .ext fun h=>SetL X.prog X.w (!byT X.w) h p M
theorem Qkg (hc:X.calm=true):Xv X (.type "set") (fun vs H Q=>∃ (l:Addr) (ns:List Int),vs=[.ref l]∧SqL X.K H l (ns.map V.int)∧ns.length < 1000∧∀ p M,H p=none→M.Perm (once ns)→Q (.ref p) (upd H p (Qko X p M))):=by
  intro pins s σ H vs us Q I rs h
  obtain ⟨l,ns,rfl,hl,hn,q⟩:=h
  obtain ⟨u,rfl,ru⟩:=Qdl rs
  cases ru
  obtain ⟨its,rv,pl,_⟩:=I.list hl
  have hlen:=rv.length
  rw [List.length_map] at hlen
  refine Qkh (I.ok.hd hc) pl.isList (by simpa using Qic rv) (by simp only [List.size_toArray];show its.length + 1 < 4096;omega) fun h' tk z k => ?_
  have e:its.toArray.size=ns.length:=by simp only [List.size_toArray];exact hlen.symm
  rw [e] at z
  refine ⟨.ref s.heap.objs.size,upd H s.heap.objs.size (Qko X s.heap.objs.size _),I.laid (t':=tk) (fun b o q=>k b o (Heap.lt_size q) q) (Nat.le_refl _) ⟨z,?_,fun h1 h2 z1 k1=>z1.at k1⟩,rfl,q _ _ I.fresh (Qju ns)⟩
  obtain ⟨o,_,_,_,ho,_⟩:=z
  exact ⟨o,ho⟩
theorem Qdj (hc:X.calm=true):Xv X (.builtin "sorted") (fun vs H Q=>∃ (D:Addr) (M:List Int),vs=[.ref D]∧H D=some (Qko X D M)∧M.length < 64∧∀ (l:Addr) (ns:List Int),H l=none→ns.Perm M→ns.Pairwise (· ≤ ·)→Q (.ref l) (upd H l (.lst (ns.map V.int)))):=by
  intro pins s σ H vs us Q I rs h
  obtain ⟨D,M,rfl,hD,h64,q⟩:=h
  obtain ⟨u,rfl,ru⟩:=Qdl rs
  cases ru
  obtain ⟨z,_,_⟩:=I.hok D _ hD
  refine QhK (I.ok.hd hc) z h64 fun L h' tk d out ns e k hL at' hi hp hs => ?_
  have hn:H L=none:=I.hok.fresh hL
  have hv:=QcJ hi
  refine ⟨.ref L,upd H L (.lst (ns.map V.int)),(I.laid (t':=tk) (o := .lst (ns.map V.int)) k hL ⟨?_,out.toList,e,hv,by simpa [seqObj] using at'⟩).drawn d,rfl,q L ns hn hp hs⟩
  rw [List.length_map,hp.length_eq]
  exact Nat.le_of_lt (Nat.lt_trans h64 (by decide))
theorem Qgq {K:PySem.W.Frag} {F:Hp} {xs:List PV} {ns:List Int} {vs:List V} (h:Qdq xs=some ns) (r:RepL K F xs vs):vs=ns.map V.int:=by
  have e:=QeV h
  subst e
  exact QeP r
theorem Qih (hc:X.calm=true) (hg:Gl X "set") (hm:X.mg "set"=none) (hg2:Gl X "sorted") (hm2:X.mg "sorted"=none) (ha:AM X ms [a] ma)
    (hs:starEach [a] X.env=(false,eval a X.env) :: starEach [] X.env:=by rfl) (hpl:(backTo pos (starEach [] X.env)).any (·.1)=false:=by rfl)
    (hs2:starEach [.Call (.Name "set" p1) [a] [] pos] X.env=(false,eval (.Call (.Name "set" p1) [a] [] pos) X.env) :: starEach [] X.env:=by rfl) (hpl2:(backTo pos' (starEach [] X.env)).any (·.1)=false:=by rfl) :
    EO X ms (.Call (.Name "sorted" p2) [.Call (.Name "set" p1) [a] [] pos] [] pos') (Qk QaW ma) :=
  PE.imp (Qct (Qdj hc) hg2 hm2 (by kernel_rfl) (Qby (QcM (Qkg hc) hg hm (by kernel_rfl) ha (by decide) (by decide) hs hpl) QfX hs2) (by decide) (by decide) hs2 hpl2) fun σ H Q ⟨F,γ,r,k1,k2,k3,w⟩=>by
    obtain ⟨qs,e1,k3⟩:=Qg k3
    refine ⟨F,γ,qs,k1,k2,e1,fun vs H1 F1 g1 q1 => ?_⟩
    unfold QaW at k3
    split at k3
    · rename_i xs
      unfold RepL at q1
      obtain ⟨v,t,rfl,q1,qt⟩:=q1
      unfold RepL at qt
      subst qt
      unfold Rep at q1
      obtain ⟨l,us,rfl,sl,rl⟩:=q1
      split at k3
      · rename_i ns hns
        obtain ⟨⟨c1,c2⟩,rfl⟩:=Zo k3
        have e2:=Qgq hns rl
        subst e2
        refine ⟨l,ns,rfl,g1.sub.seq sl,c1,fun p M hp hM => ?_⟩
        refine ⟨p,M,rfl,Qv,by rw [hM.length_eq];exact c2,fun l2 ks hl2 hk hs => ?_⟩
        have ek:ks=QaP (once ns):=isort_eq (hk.trans hM) hs
        subst ek
        have g2:Grow F1 H1 F1 (upd H1 p (Qko X p M)) := .side g1.sub hp
        have g3:=g2.trans (.side (o := .lst ((QaP (once ns)).map V.int)) g2.sub hl2)
        exact w l2 _ _ F1 (g1.trans g3) (g1.same.free (g2.same.free hl2)) (g2.sub.free hl2) Qv (QbJ _)
      · cases k3
    · cases k3
end
end L2.PM

noncomputable section
namespace L2.PM
open PySem PySem.Spec PyProof.Rows
open PySem.AutoSeq1 (wpAny_loadPart')
section
variable {prog:Program} {w:World} {A:Around} {E:Value→Shared→Prop} {s:Shared}
theorem QhU {it ax:Addr} {i:Nat} {its:Array Value} {x:Value} {Q:Value→Shared→Prop} (hit:s.heap.IsTupleIter it ax i) (ht:s.heap.IsTuple ax its) (hx:its[i]?=some x)
    (fin:∀ h',h'.IsTupleIter it ax (i + 1)→Heap.SameBut it s.heap h'→Q x { s with heap:=h' }):wpAny (model prog w) A (Builtin.SmallTypes.nextOf (.ref it)) Q E s:=by
  obtain ⟨o,ho,hc,hd⟩:=id hit
  obtain ⟨ot,hot,_,nt,hdt⟩:=ht
  unfold Builtin.SmallTypes.nextOf
  refine wpAny_bind (wpAny_callSpecial?_slot (name:=Str.ofString "__next__") hit.typeIs PySem.F.slot_tuple_iterator_next (wpAny_call_entry PySem.F.slot_tuple_iterator_next hit.typeIs PySem.F.entry_tuple_iterator_next ?_ (PySem.F.args_tuple_iterator_next_1 _)))
  refine (show wpAny _ _ (field (.ref it) 0 >>= _) _ _ s from wpAny_bind (wpAny_field ho hd (x := .ref ax) rfl ?_))
  refine (show wpAny _ _ (if (Value.ref ax==Value.none)=true then _ else _) _ _ s from ?_)
  rw [if_neg (fun z:(Value.ref ax==Value.none)=true=>Bool.false_ne_true z)]
  refine (show wpAny _ _ (field (.ref it) 1 >>= _) _ _ s from wpAny_bind (wpAny_field ho hd (x := .int i 0) rfl ?_))
  refine (show wpAny _ _ (seqItems? (.ref ax) >>= _) _ _ s from wpAny_bind (wpAny_seqItems hot hdt ?_))
  simp only [Int.toNat_natCast,hx]
  obtain ⟨o2,at2,c2,d2⟩:=QaZ (j:=1) (x:=rawInt ((i:Int) + 1)) ho hd
  exact wpAny_bind (wpAny_setField ho hd (by simp) (wpAny_pure ⟨x,rfl,wpAny_pure (fin _ ⟨o2,at2,c2.trans hc,by rw [d2];simp [rawInt]⟩ (Heap.SameBut.update ..))⟩))
theorem stopE {h1:Heap} {Q:PySem.Fin→Shared→Prop} (calm:A.handled=none) (fin:∀ h' e,(∀ b o,h1.get? b=some o→h'.get? b=some o)→(∃ o,h'.get? e=some o∧o.cls = .type "StopIteration")→E (.ref e) { s with heap:=h' }) :
    wpAny (model prog w) A.in1 (newExc (.type "StopIteration") [] >>= fun e=>(raiseNew e:Sem PySem.Fin)) Q E { s with heap:=h1 }:=by
  refine wpAny_bind ?_
  simp only [newExc,newTuple]
  refine wpAny_bind (wpAny_newObj_type ?_ (by size_fits))
  refine wpAny_bind (m:=firstArgMember _ _) (wpAny_of_eq (a:=Value.none) (by first | rfl | (simp only [firstArgMember];rfl)) (wpAny_newObj_type ?_ (by size_fits)))
  simp only [raiseNew]
  refine wpAny_bind (wpAny_handled ?_)
  rw [show A.in1.handled=none from calm]
  refine wpAny_bind (wpAny_pure (wpAny_throw ?_))
  exact fin _ _ (fun b o e=>Heap.get?_push_of_some _ (Heap.get?_push_of_some _ e)) ⟨_,Heap.get?_push_size _ rfl,rfl⟩
theorem YE {it ax:Addr} {i:Nat} {its:Array Value} {Q:Value→Shared→Prop} (calm:A.handled=none) (hit:s.heap.IsTupleIter it ax i) (ht:s.heap.IsTuple ax its) (hx:its[i]?=none)
    (fin:∀ h' e,Heap.ExtBut it s.heap h'→(∃ o,h'.get? e=some o∧o.cls = .type "StopIteration")→E (.ref e) { s with heap:=h' }):wpAny (model prog w) A (Builtin.SmallTypes.nextOf (.ref it)) Q E s:=by
  obtain ⟨o,ho,hc,hd⟩:=id hit
  obtain ⟨ot,hot,_,nt,hdt⟩:=ht
  unfold Builtin.SmallTypes.nextOf
  refine wpAny_bind (wpAny_callSpecial?_slot (name:=Str.ofString "__next__") hit.typeIs PySem.F.slot_tuple_iterator_next (wpAny_call_entry PySem.F.slot_tuple_iterator_next hit.typeIs PySem.F.entry_tuple_iterator_next ?_ (PySem.F.args_tuple_iterator_next_1 _)))
  refine (show wpAny _ _ (field (.ref it) 0 >>= _) _ _ s from wpAny_bind (wpAny_field ho hd (x := .ref ax) rfl ?_))
  refine (show wpAny _ _ (if (Value.ref ax==Value.none)=true then _ else _) _ _ s from ?_)
  rw [if_neg (fun z:(Value.ref ax==Value.none)=true=>Bool.false_ne_true z)]
  refine (show wpAny _ _ (field (.ref it) 1 >>= _) _ _ s from wpAny_bind (wpAny_field ho hd (x := .int i 0) rfl ?_))
  refine (show wpAny _ _ (seqItems? (.ref ax) >>= _) _ _ s from wpAny_bind (wpAny_seqItems hot hdt ?_))
  simp only [Int.toNat_natCast,hx]
  refine wpAny_bind (wpAny_rule (wpAny_bind (wpAny_setField ho hd (by simp) ?_)))
  refine (show wpAny _ _ (newExc (.type "StopIteration") [] >>= fun e=>(raiseNew e:Sem PySem.Fin)) _ _ _ from stopE calm fun h' e k z=>fin h' e (fun b o hb q=>k b o ((Heap.get?_update_other _ _ (Ne.symm hb)).trans q)) z)
theorem XT (calm:A.handled=none) (it ax:Addr) (ne:ax≠it) (its:Array Value):Draws prog w A it [it,ax] its.size (fun i v=>its[i]?=some v) (fun i h=>h.IsTupleIter it ax i∧h.IsTuple ax its) where
  live:=fun _ _ st=>let ⟨⟨o,ho,_⟩,_⟩:=st;⟨o,ho⟩
  frame:=fun _ _ _ st k=>⟨st.1.at fun o e=>k it (by simp) o e,st.2.at fun o e=>k ax (by simp) o e⟩
  item:=fun i s Q E hi st fin=>QhU st.1 st.2 (Array.getElem?_eq_getElem hi) fun h' z sb=>fin _ h' s.toks (Array.getElem?_eq_getElem hi) ⟨z,st.2.at fun o e=>(sb.2 ax ne).trans e⟩ sb
  done:=fun s Q E st fin=>YE calm st.1 st.2 (Array.getElem?_eq_none (Nat.le_refl _)) fin
set_option maxHeartbeats 1000000 in
theorem QgB (ax:Addr) (its:Array Value) (n:Nat) (dct:Option Addr) (sl:Array (Option Value)) :
    Meets (Builtin.«enumerate.__new__» ⟨[.type "enumerate",.ref ax],[]⟩) (fun _ R s=>s.heap.get? ax=some { cls := .type "tuple",dict:=dct,data := .seq its n,slots:=sl } ∧
      R (.ok (.ret (.ref (s.heap.push { cls := .type "tuple_iterator",data := .fields #[.ref ax,.int 0 0] }).objs.size)))
        { s with heap:=(s.heap.push { cls := .type "tuple_iterator",data := .fields #[.ref ax,.int 0 0] }).push { cls := .type "enumerate",data := .fields #[.none,.bool false,.ref s.heap.objs.size,rawInt 0,.none,.none] } }) :=
  .of_wp fun prog w A R s h=>by
    obtain ⟨hp,g,d,tk,os⟩:=s
    obtain ⟨ha,h⟩:=h
    have sub:=sub_enumerate
    have hT:Heap.IsTuple (Shared.heap ⟨hp,g,d,tk,os⟩) ax its:=⟨_,ha,rfl,n,rfl⟩
    wp_walk using wpAny_loadPart' ha
    refine wpAny_stack_any fun st=>wpAny_pure ?_
    split
    · rename_i c _ _ _ _ _
      cases (c==Value.type "enumerate")
      · wp_walk using wpAny_loadPart' ha,wpAny_pyIter_tuple hT
        exact ⟨_,rfl,h⟩
      · wp_walk using wpAny_loadPart' ha,wpAny_pyIter_tuple hT
        exact ⟨_,rfl,h⟩
    · wp_walk using wpAny_loadPart' ha,wpAny_pyIter_tuple hT
      exact ⟨_,rfl,h⟩
theorem Qin {ax:Addr} {its:Array Value} {Q:Value→Shared→Prop} (hT:s.heap.IsTuple ax its)
    (fin:∀ h',IsEnum h' (s.heap.objs.size + 1) s.heap.objs.size 0 .none→h'.IsTupleIter s.heap.objs.size ax 0→(∀ b o,s.heap.get? b=some o→h'.get? b=some o)→Q (.ref (s.heap.objs.size + 1)) { s with heap:=h' }) :
    wpAny (model prog w) A (call (.type "enumerate") [.ref ax]) Q E s:=by
  obtain ⟨⟨c,dct,dt,sl⟩,ha,hc,n,hd⟩:=hT
  obtain rfl:c = .type "tuple":=hc
  obtain rfl:dt = .seq its n:=hd
  refine callType_new PySem.F.called_enumerate (by decide) (PySem.F.typeCall_enumerate_1 _) (PySem.F.newCall_enumerate_1 _) (fun obj=>PySem.F.args_object_init_2 obj _) PySem.F.entry_enumerate_new (QgB ax its n dct sl) ⟨ha,?_⟩
  have z:(s.heap.push { cls := .type "tuple_iterator",data := .fields #[.ref ax,.int 0 0] }).objs.size=s.heap.objs.size + 1:=Heap.size_push ..
  have he:IsEnum ((s.heap.push { cls := .type "tuple_iterator",data := .fields #[.ref ax,.int 0 0] }).push { cls := .type "enumerate",data := .fields #[.none,.bool false,.ref s.heap.objs.size,rawInt 0,.none,.none] }) (s.heap.objs.size + 1) s.heap.objs.size 0 .none:=by
    rw [← z]
    exact Heap.get?_push_size _ rfl
  refine (show _∧_ from ?_)
  rw [z]
  exact ⟨⟨_,he,rfl⟩,fin _ he ⟨_,Heap.get?_push_of_some _ (Heap.get?_push_size _ rfl),rfl,rfl⟩ fun b o q=>Heap.get?_push_of_some _ (Heap.get?_push_of_some _ q)⟩
end
end L2.PM

noncomputable section
namespace L2.PM
open PySem PySem.Spec PyProof.Rows
section
variable {X:Cx} {pins:List (Addr×Obj)} {σ:St} {H:Hp} {s:Shared} {h':Heap}
theorem _root_.L2.Inv.turnsNew {ch:List Addr} {tk:Nat} {T:Addr} {o:HO} (I:Inv X pins σ H s) (hf:∀ b∈ch,FpOk X pins H b) (k:∀ b u,b∉ch→s.heap.get? b=some u→h'.get? b=some u) (hT:s.heap.objs.size≤T)
    (new:YC X.prog X.w (upd H T o) h' T o):Inv X pins σ (upd H T o) { s with heap:=h',toks:=tk }:=by
  have hn:H T=none:=I.hok.fresh hT
  have lt:∀ b u,s.heap.get? b=some u→b≠T:=fun b u e z=>absurd (Nat.lt_of_lt_of_le (Heap.lt_size e) (z ▸ hT)) (Nat.lt_irrefl _)
  have nch:∀ b u,H b=some u→b∉ch:=fun b u e z=>by rw [(hf b z).1] at e;cases e
  refine I.call' (ch:=ch) rfl ⟨fun b u e _ _ hc=>k b u hc e,fun b u e _ _ hc=>⟨u.slots,k b u hc e⟩,fun b u e n _=>by rw [Qt (lt b u e)];exact n,fun b u e hc=>⟨u,k b u hc e⟩,fun b xs e=>by rw [Qt (Qu e hn)];exact e,
    fun b u v e=>by rw [Qt (Qu e hn)];exact e,fun b ps e=>⟨#[],by rw [Qt (Qu e hn)];simpa using e⟩⟩ (fun b u e => ?_) I.bare fun b hb => ?_
  · by_cases hb:b=T
    · subst hb
      rw [Qv] at e
      cases e
      exact new
    · rw [Qt hb] at e
      refine (I.hok b u e).stay (fun c v hc q=>k c v ?_ q) (fun c q=>by rw [Qt (Qu q hn)];exact q) fun c xs q=>by rw [Qt (Qu q hn)];exact q
      rcases hc with z | z
      · rw [z];exact nch b u e
      · exact nch c _ z
  · obtain ⟨_,f1,_,f3,f4,f5⟩:=hf b hb
    exact ⟨f3,f1,f4,f5⟩
theorem _root_.L2.Inv.turns {ch:List Addr} {tk:Nat} (I:Inv X pins σ H s) (hf:∀ b∈ch,FpOk X pins H b) (k:∀ b u,b∉ch→s.heap.get? b=some u→h'.get? b=some u):Inv X pins σ H { s with heap:=h',toks:=tk }:=by
  have nch:∀ b u,H b=some u→b∉ch:=fun b u e z=>by rw [(hf b z).1] at e;cases e
  refine I.call' (ch:=ch) rfl ⟨fun b u e _ _ hc=>k b u hc e,fun b u e _ _ hc=>⟨u.slots,k b u hc e⟩,fun b u e n _=>n,fun b u e hc=>⟨u,k b u hc e⟩,fun b xs e=>e,fun b u v e=>e,fun b ps e=>⟨#[],by simpa using e⟩⟩ (fun b u e => ?_) I.bare fun b hb => ?_
  · refine (I.hok b u e).stay (fun c v hc q=>k c v ?_ q) (fun c q=>q) fun c xs q=>q
    rcases hc with z | z
    · rw [z];exact nch b u e
    · exact nch c _ z
  · obtain ⟨_,f1,_,f3,f4,f5⟩:=hf b hb
    exact ⟨f3,f1,f4,f5⟩
end
noncomputable def Ite (sq:Hp→List V→Prop):It :=
  ⟨fun i H=>∃ xs x,sq H xs∧xs[i]?=some x,fun i H v H'=>∃ T x,v = .ref T∧H T=none∧H'=upd H T (.tup [.int i,x])∧∀ xs,sq H xs→xs[i]?=some x,fun i H=>∃ xs,sq H xs∧xs.length≤i⟩
theorem QhH {P:Program} {w:World} {K:PySem.W.Frag} {elts:List Expr} {kk:Nat} {pp:Pos} (a it e:Addr) (hne:e≠it):Turn P w K (.Tuple elts kk pp) (Ite fun H xs=>SqT K H a xs) [e,it] e (fun i h=>(∃ old,IsEnum h e it i old)∧h.IsTupleIter it a i) where
  mem:=by simp
  obj:=fun i h st b hb=>by
    obtain ⟨⟨old,he⟩,o,ho,c,d⟩:=st
    rcases List.mem_cons.mp hb with z | z
    · subst z
      exact ⟨_,he,fun v q=>by
        have q:Data.fields _=Data.cell v:=q
        cases q⟩
    · rw [List.mem_singleton.mp z]
      exact ⟨o,ho,fun v q=>by rw [d] at q;cases q⟩
  keep:=fun i h h' st k=>by
    obtain ⟨⟨old,he⟩,st2⟩:=st
    exact ⟨⟨old,k e (by simp) _ he⟩,st2.at fun o q=>k it (by simp) o q⟩
  item:=by
    intro X hP hw hK hc i pins s σ H E I hf st hg
    subst hP hw hK
    obtain ⟨xs,x,hq,hx⟩:=hg
    obtain ⟨its,rv,p,hz⟩:=I.tuple hq
    obtain ⟨u,hu,ru⟩:=rv.get hx
    have hlen:=rv.length
    have hi:i < its.length:=(List.getElem?_eq_some_iff.mp hu).1
    have nai:a≠it:=fun z=>by
      obtain ⟨⟨oi,hoi,ci,_⟩⟩:=(⟨st.2⟩:Nonempty _)
      obtain ⟨oa,hoa,ca,_⟩:=p
      rw [z,hoi] at hoa
      cases hoa
      rw [ci] at ca
      exact absurd ca (by decide)
    have nae:e∉[it,a]:=fun z=>by
      rcases List.mem_cons.mp z with z | z
      · exact hne z
      · have z:=List.mem_singleton.mp z
        obtain ⟨⟨old,he⟩,_⟩:=st
        obtain ⟨oa,hoa,ca,_⟩:=p
        rw [← z,he] at hoa
        cases hoa
        exact absurd (show Value.type "enumerate"=Value.type "tuple" from ca) (by decide)
    have W:=WalksT.enumerateD (A:=X.A) (XT (prog:=X.prog) (w:=X.w) (A:=X.A.in1) (by have:=I.ok.hd hc;simp [this]) it a nai its.toArray) e hne nae (by simp)
    refine W.item i s _ _ (by simpa using hi) ⟨st.1,st.2,p⟩ fun T vals h1 tk hp hT tup mid k1 => ?_
    obtain ⟨tt,y,hy,rfl⟩:=hp
    have hy:y=u:=by
      rw [List.getElem?_toArray,hu] at hy
      exact (Option.some.inj hy).symm
    subst hy
    have apart:=W.apart i T h1 mid
    refine ⟨_,rfl,W.go elts kk pp i T { s with heap:=h1,toks:=tk } _ _ mid fun h2 st2 k2 => ?_⟩
    have hn:H T=none:=I.hok.fresh hT
    have tup2:h2.IsTuple T #[.int i tt,y]:=tup.at fun o q=>k2 T o apart q
    have I2:Inv X pins σ (upd H T (.tup [.int i,x])) { s with heap:=h2,toks:=tk }:=I.turnsNew (ch:=[e,it]) (o := .tup [.int i,x]) hf (fun b o hb q=>k2 b o hb (k1 b o hb q)) hT ⟨by show 2≤sizeLine;decide,[.int i tt,y],.cons ⟨tt,rfl⟩ (.cons ru .nil),tup2⟩
    refine ⟨.ref T,_,I2,rfl,⟨T,x,rfl,hn,rfl,fun ys hy=>by rw [I.tuple_inj hy hq];exact hx⟩,⟨st2.1,st2.2.1⟩,fun b hb => ?_⟩
    have hbT:b≠T:=fun z=>apart (z ▸ hb)
    rw [Qt hbT]
    exact (hf b hb).1
  done:=by
    intro X hP hw hK hc i pins s σ H E I hf st hg
    subst hP hw hK
    obtain ⟨xs,hq,hx⟩:=hg
    obtain ⟨its,rv,p,hz⟩:=I.tuple hq
    have hlen:=rv.length
    obtain ⟨⟨old,he⟩,st2⟩:=st
    have D:Draws X.prog X.w X.A.in1 it [it,a] i (fun _ _=>True) (fun j h=>j=i∧h.IsTupleIter it a i∧h.IsTuple a its.toArray) :=
      { live:=fun _ _ q=>let ⟨_,⟨o,ho,_⟩,_⟩:=q;⟨o,ho⟩
        frame:=fun _ _ _ q k=>⟨q.1,q.2.1.at fun o z=>k it (by simp) o z,q.2.2.at fun o z=>k a (by simp) o z⟩
        item:=fun j s Q E hj q _=>absurd q.1 (Nat.ne_of_lt hj)
        done:=fun s Q E q fin=>YE (by have:=I.ok.hd hc;simp [this]) q.2.1 q.2.2 (by simp;omega) fin }
    exact wpAny_pyNext_enum_endD D he ⟨rfl,st2,p⟩ fun h1 k=>⟨rfl,I.turns (tk:=s.toks) (ch:=[e,it]) hf fun b o hb q=>k b o (fun z=>hb (by simp [z])) q⟩
  self:=fun A i s Q E st h=>wpAny_pyIter_enum st.1.choose_spec h
end L2.PM

noncomputable section
namespace L2.PM
open PySem PySem.Spec PyProof.Rows
section
variable {X:Cx} {e a b c:Expr} {es:List Expr} {ms ns ls:List Nat} {m m1 m2 m3:MEx} {ma:PEnv→Option (List PV)} {pos p p1 p2 p3 pos':Pos} {x:Str} {id T:String} {tg:Expr}
theorem im_seq (h:EM X ms e m):IM X ms tg e (iSeq m):=by
  intro pins s σ H R I q
  obtain ⟨F,γ,xs,h1,h2,h3,w⟩:=q
  obtain ⟨p,e1,e2⟩:=Qg h3
  cases p with
  | lst ys =>
    cases e2
    exact XB h pins s σ H R I ⟨F,γ,_,h1,h2,by unfold iLst;rw [e1];rfl,w⟩
  | tup ys =>
    cases e2
    exact Qdy h pins s σ H R I ⟨F,γ,_,h1,h2,by unfold iTpl;rw [e1];rfl,w⟩
  | _=>cases e2
theorem pi_enumT {elts:List Expr} {kk:Nat} {pp:Pos} {ta:TA} (hg:Gl X "enumerate") (hm:X.mg "enumerate"=none) (ha:PA X [a] ta) (hs:starEach [a] X.env=[(false,eval a X.env)]:=by rfl) :
    PI X (.Tuple elts kk pp) (.Call (.Name "enumerate" p) [a] [] pos) (fun σ H R=>ta σ H fun vs H1=>∃ l,vs=[.ref l]∧(∃ xs,SqT X.K H1 l xs)∧R (Ite fun H xs=>SqT X.K H l xs) H1):=by
  intro pins s σ H R I h
  refine Call_ (QaL I hg hm (show bootBuiltins "enumerate"=some (.type "enumerate") from by kernel_rfl) (PyProof.Rows.callWith_type1 (thn (ha pos pins s σ H _ I h) fun us s1 ⟨vs,H1,I1,r1,q1⟩ => ?_) hs rfl))
  obtain ⟨l,rfl,⟨xs,hq⟩,q⟩:=q1
  obtain ⟨u,rfl,ru⟩:=Qdl r1
  cases ru
  obtain ⟨its,rv,pt,hz⟩:=I1.tuple hq
  refine Qin (show s1.heap.IsTuple l its.toArray from pt) fun h' he hit k => ?_
  refine wpAny_pyIter_enum he ?_
  refine ⟨s1.heap.objs.size + 1,[s1.heap.objs.size + 1,s1.heap.objs.size],_,_,H1,rfl,I1.kept (t':=s1.toks) k,QhH l s1.heap.objs.size (s1.heap.objs.size + 1) (Nat.succ_ne_self _),⟨⟨_,he⟩,hit⟩,fun b hb => ?_,q⟩
  have hle:s1.heap.objs.size≤b:=by
    rcases List.mem_cons.mp hb with z | z
    · rw [z];exact Nat.le_succ _
    · rw [List.mem_singleton.mp z];exact Nat.le_refl _
  exact I1.fpOk hle (I1.hok.fresh hle)
theorem Qhg {elts:List Expr} {kk:Nat} {pp:Pos} (hc:X.calm=true) (hg:Gl X "enumerate") (hm:X.mg "enumerate"=none) (ha:AM X ms [a] ma) (hs:starEach [a] X.env=[(false,eval a X.env)]:=by rfl) :
    IM X ms (.Tuple elts kk pp) (.Call (.Name "enumerate" p) [a] [] pos) (Qk QeG ma) :=
  PI.imp (pi_enumT hg hm ha hs) fun σ H R ⟨F,γ,xs,k1,k2,k3,w⟩=>by
    obtain ⟨qs,e1,k3⟩:=Qg k3
    refine ⟨F,γ,qs,k1,k2,e1,fun vs H1 F1 g1 q1 => ?_⟩
    unfold QeG at k3
    split at k3
    · rename_i ys
      cases k3
      unfold RepL at q1
      obtain ⟨v,t,rfl,q1,qt⟩:=q1
      unfold RepL at qt
      subst qt
      unfold Rep at q1
      obtain ⟨l,us,rfl,sl,rl⟩:=q1
      refine ⟨l,rfl,⟨us,g1.sub.seqT sl⟩,w _ _ _ g1 ?_⟩
      refine ⟨fun i H2 hi e2 => ?_,fun i H2 v H3 hi e2 y => ?_,fun H2 e2 => ?_⟩
      · have hv:i < us.length:=by
          rw [rl.length]
          simpa using hi
        exact ⟨us,us[i],e2.seqT sl,by simp [hv]⟩
      · obtain ⟨T,x,rfl,hn,rfl,y⟩:=y
        obtain ⟨p,e3,e4⟩:=rl.back (y us (e2.seqT sl))
        refine ⟨.tup [pN i,p],?_,fun F2 x1 x2 => ?_⟩
        · simp [e3]
        · refine ⟨upd F2 T (.tup [.int i,x]),.laid x2 hn,?_⟩
          unfold Rep
          exact ⟨T,[.int i,x],rfl,.of Qv,.cons (QV _) (.cons (e4.mono (x1.trans (Grow.laid (o := .tup [.int i,x]) x2 hn).ext)) .nil)⟩
      · exact ⟨us,e2.seqT sl,by rw [rl.length];simp⟩
    · cases k3
end
end L2.PM

noncomputable section
namespace L2.PM
open PySem PySem.Spec PyProof.Rows
namespace SF
end SF
section
variable {prog:Program} {w:World} {A:Around} {E:Value→Shared→Prop} {s:Shared}
end
section
variable {X:Cx} {e a b c:Expr} {es:List Expr} {ms ns ls:List Nat} {m m1 m2 m3:MEx} {ma:PEnv→Option (List PV)} {pos p p1 p2 p3 pos':Pos} {x:Str} {id T:String} {tg:Expr}
end
end L2.PM

noncomputable section
namespace L2.PM
open PySem PySem.Spec PyProof.Rows
open PySem.AutoSeq1 (wpAny_loadPart')
section
variable {prog:Program} {w:World} {A:Around} {E:Value→Shared→Prop} {s:Shared}
end
section
variable {X:Cx} {e a b c:Expr} {es:List Expr} {ms ns ls:List Nat} {m m1 m2 m3:MEx} {ma:PEnv→Option (List PV)} {pos p p1 p2 p3 pos':Pos} {x:Str} {id T:String} {tg:Expr}
noncomputable def Itv (K:PySem.W.Frag) (l:Addr) (n:Nat):It :=
  ⟨fun i H=>∃ xs x,SqL K H l xs∧xs.length=n∧xs.reverse[i]?=some x,fun i H x H'=>H'=H∧∀ xs,SqL K H l xs→xs.length=n→xs.reverse[i]?=some x,fun i H=>∃ xs,SqL K H l xs∧xs.length=n∧i=n⟩
theorem turn_rev {P:Program} {w:World} {K:PySem.W.Frag} {tg:Expr} (l it:Addr) (n:Nat) (hne:l≠it):Turn P w K tg (Itv K l n) [it] it (fun i h=>i≤n∧h.IsRevIter it l ((n:Int) - 1 - (i:Nat))) where
  mem:=by simp
  obj:=fun i h st b hb=>by
    rw [List.mem_singleton.mp hb]
    obtain ⟨_,o,e,c,d⟩:=st
    exact ⟨o,e,fun v z=>by rw [d] at z;cases z⟩
  keep:=fun i h h' st k=>⟨st.1,st.2.at fun o e=>k it (by simp) o e⟩
  item:=by
    intro X hP hw hK hc i pins s σ H E I hf st hg
    subst hP hw hK
    obtain ⟨xs,x,hq,hn,hx⟩:=hg
    obtain ⟨its,rv,p,hz⟩:=I.list hq
    obtain ⟨u,hu,ru⟩:=rv.reverse.get hx
    obtain ⟨f0,f1,f2,f3,f4,f5⟩:=hf it (by simp)
    have hl:=rv.length
    have hi:i < its.length:=by
      have:=(List.getElem?_eq_some_iff.mp hu).1
      simpa using this
    have ei:(n:Int) - 1 - (i:Nat)=((n - 1 - i:Nat):Int):=by omega
    have hu2:its.toArray[n - 1 - i]?=some u:=by
      rw [List.getElem?_reverse (by omega)] at hu
      rw [List.getElem?_toArray,← hu]
      congr 1
      omega
    have st2:=st.2
    rw [ei] at st2
    refine wpAny_pyNext_rev_item st2 p.isList hu2 fun h' z sb => ?_
    have e2:((n - 1 - i:Nat):Int) - 1=(n:Int) - 1 - ((i + 1:Nat):Int):=by omega
    rw [e2] at z
    have I1:Inv X pins σ H { s with heap:=h' }:=I.turned (t':=s.toks) (fun b o hb e=>(sb.2 b hb).trans e) f0 f1 f3 f4 f5
    obtain ⟨o,e,c,d⟩:=id z
    exact ⟨u,rfl,Qiu (s:={ s with heap:=h' }) e c d (by decide) ⟨x,H,I1,ru,⟨rfl,fun ys hy _=>by rw [I.list_inj hy hq];exact hx⟩,⟨by omega,z⟩,fun b hb=>(hf b hb).1⟩⟩
  done:=by
    intro X hP hw hK hc i pins s σ H E I hf st hg
    subst hP hw hK
    obtain ⟨xs,hq,hn,rfl⟩:=hg
    obtain ⟨f0,f1,f2,f3,f4,f5⟩:=hf it (by simp)
    have st2:=st.2
    rw [show (i:Int) - 1 - (i:Nat) = -1 by omega] at st2
    exact wpAny_pyNext_rev_end (I.ok.hd hc) st2 fun h' eb=>⟨rfl,I.turned (t':=s.toks) (fun b o hb e=>eb b o hb e) f0 f1 f3 f4 f5⟩
  self:=fun _ _ _ _ _ st h=>wpAny_pyIter_revIter st.2 h
theorem pi_rev {ta:TA} (hg:Gl X "reversed") (hm:X.mg "reversed"=none) (ha:PA X [a] ta) (hs:starEach [a] X.env=[(false,eval a X.env)]:=by rfl) :
    PI X tg (.Call (.Name "reversed" p) [a] [] pos) (fun σ H R=>ta σ H fun vs H1=>∃ l xs,vs=[.ref l]∧SqL X.K H1 l xs∧R (Itv X.K l xs.length) H1):=by
  intro pins s σ H R I h
  refine Call_ (QaL I hg hm (show bootBuiltins "reversed"=some (.type "reversed") from by kernel_rfl) (PyProof.Rows.callWith_type1 (thn (ha pos pins s σ H _ I h) fun us s1 ⟨vs,H1,I1,r1,q1⟩ => ?_) hs rfl))
  obtain ⟨l,xs,rfl,hq,q⟩:=q1
  obtain ⟨u,rfl,ru⟩:=Qdl r1
  cases ru
  obtain ⟨its,rv,pl,hz⟩:=I1.list hq
  refine call_reversed_list pl.isList ?_
  have e:((its.toArray.size:Nat):Int)=(xs.length:Nat):=by rw [List.size_toArray,rv.length]
  have z:(s1.heap.push (revObj l ((its.toArray.size:Int) - 1))).IsRevIter s1.heap.objs.size l ((xs.length:Int) - 1 - ((0:Nat):Int)):=⟨_,Heap.get?_push_size _ rfl,rfl,by rw [← e];simp [revObj]⟩
  have nl:l≠s1.heap.objs.size:=fun y=>by
    obtain ⟨o,ho,_⟩:=pl.isList
    exact absurd (Heap.lt_size ho) (by rw [y];exact Nat.lt_irrefl _)
  refine wpAny_pyIter_revIter z ?_
  refine ⟨s1.heap.objs.size,[s1.heap.objs.size],_,_,H1,rfl,I1.kept (t':=s1.toks) fun b o q=>Heap.get?_push_of_some _ q,turn_rev l _ xs.length nl,⟨Nat.zero_le _,z⟩,fun b hb => ?_,q⟩
  rw [List.mem_singleton.mp hb]
  exact I1.fpOk (Nat.le_refl _) (I1.hok.fresh (Nat.le_refl _))
theorem im_revL (hc:X.calm=true) (hg:Gl X "reversed") (hm:X.mg "reversed"=none) (ha:AM X ms [a] ma) (hs:starEach [a] X.env=[(false,eval a X.env)]:=by rfl) :
    IM X ms tg (.Call (.Name "reversed" p) [a] [] pos) (Qk pRev ma) :=
  PI.imp (pi_rev hg hm ha hs) fun σ H R ⟨F,γ,xs,k1,k2,k3,w⟩=>by
    obtain ⟨qs,e1,k3⟩:=Qg k3
    refine ⟨F,γ,qs,k1,k2,e1,fun vs H1 F1 g1 q1 => ?_⟩
    unfold pRev at k3
    split at k3
    · rename_i ys
      cases k3
      unfold RepL at q1
      obtain ⟨v,t,rfl,q1,qt⟩:=q1
      unfold RepL at qt
      subst qt
      unfold Rep at q1
      obtain ⟨l,us,rfl,sl,rl⟩:=q1
      refine ⟨l,us,rfl,g1.sub.seq sl,w _ _ _ g1 ?_⟩
      have rr:=rl.reverse
      refine ⟨fun i H2 hi e2 => ?_,fun i H2 v H3 hi e2 y => ?_,fun H2 e2 => ?_⟩
      · have hv:i < us.reverse.length:=by rw [rr.length];exact hi
        exact ⟨us,us.reverse[i],e2.seq sl,rfl,List.getElem?_eq_getElem hv⟩
      · obtain ⟨rfl,y⟩:=y
        obtain ⟨p,e3,e4⟩:=rr.back (y us (e2.seq sl) rfl)
        exact ⟨p,e3,fun F2 x1 x2=>⟨F2,.refl x2,e4.mono x1⟩⟩
      · exact ⟨us,e2.seq sl,rfl,by rw [List.length_reverse,rl.length]⟩
    · cases k3
end
end L2.PM

noncomputable section
namespace L2.PM
open PySem
noncomputable def bls?:List PV→Option (List Bool)
  | []=>some []
  | .bl b :: xs=>(bls? xs).map (b :: ·)
  | _ :: _=>none
theorem Qhw:∀ {xs:List PV} {bs:List Bool},bls? xs=some bs→xs=bs.map PV.bl
  | [],bs,h=>by cases h;rfl
  | .bl b :: xs,bs,h=>by
    have h:(bls? xs).map (b :: ·)=some bs:=h
    cases e:bls? xs with
    | none=>rw [e] at h;cases h
    | some cs=>rw [e] at h;cases h;rw [Qhw e];rfl
  | .non :: _,_,h=>by cases h
  | .int _ :: _,_,h=>by cases h
  | .str _ :: _,_,h=>by cases h
  | .tup _ :: _,_,h=>by cases h
  | .lst _ :: _,_,h=>by cases h
theorem Qhv:∀ bs:List Bool,bls? (bs.map PV.bl)=some bs
  | []=>rfl
  | b :: bs=>by
    show (bls? (bs.map PV.bl)).map (b :: ·)=_
    rw [Qhv bs];rfl
noncomputable def Qkq:List PV→Option PV
  | [.lst xs]=>(bls? xs).map fun bs => .bl (bs.any id)
  | _=>none
end L2.PM

noncomputable section
namespace L2.PM
open PySem PySem.Spec PyProof.Rows
namespace SF
end SF
section
variable {prog:Program} {w:World} {A:Around} {E:Value→Shared→Prop} {s:Shared}
noncomputable def IsRv (h:Heap) (a l:Addr) (i:Int):Prop:=∃ o,h.get? a=some o∧o.cls = .type "reversed"∧o.data = .fields #[.ref l,rawInt i]
theorem IsRv.typeIs {a l:Addr} {i:Int} (x:IsRv s.heap a l i):s.TypeIs (.ref a) "reversed":=let ⟨o,ho,hc,_⟩:=x;⟨o,ho,hc⟩
theorem IsRv.at {h h':Heap} {a l:Addr} {i:Int} (x:IsRv h a l i) (e:∀ o,h.get? a=some o→h'.get? a=some o):IsRv h' a l i:=let ⟨o,ho,r⟩:=x;⟨o,e _ ho,r⟩
end
section
variable {X:Cx} {e a b c:Expr} {es:List Expr} {ms ns ls:List Nat} {m m1 m2 m3:MEx} {ma:PEnv→Option (List PV)} {pos p p1 p2 p3 pos':Pos} {x:Str} {id T:String} {tg:Expr}
theorem Qcq {n:Nat} (h:n≤sizeLine):(n:Int) < 2 ^ 63:=by
  have:sizeLine < 2 ^ 63:=by decide
  omega
end
end L2.PM

noncomputable section
namespace L2.PM
open PySem PySem.Spec PyProof.Rows
open PySem.AutoSeq1 (wpAny_loadPart')
section
variable {X:Cx} {e a b c:Expr} {es:List Expr} {ms ns ls:List Nat} {m m1 m2 m3:MEx} {ma:PEnv→Option (List PV)} {pos p p1 p2 p3 pos':Pos} {x:Str} {id T:String} {tg:Expr}
end
end L2.PM

noncomputable section
namespace L2.PM
open PySem PySem.Spec PyProof.Rows
section
variable {X:Cx}
theorem QgL:∀ {bs:List Bool} {its:List Value},Vals (bs.map V.bl) its→its=bs.map Value.bool
  | [],_,h=>by cases h;rfl
  | b :: bs,_,h=>by
    cases h with
    | cons h1 h2=>rw [QgL h2,show _=Value.bool b from h1];rfl
theorem QgS {K:PySem.W.Frag} {F:Hp}:∀ {bs:List Bool} {vs:List V},RepL K F (bs.map PV.bl) vs→vs=bs.map V.bl
  | [],vs,h=>by
    rw [List.map_nil] at h
    unfold RepL at h
    exact h
  | b :: bs,vs,h=>by
    rw [List.map_cons] at h
    unfold RepL at h
    obtain ⟨v,t,rfl,h1,h2⟩:=h
    unfold Rep at h1
    rw [h1,QgS h2];rfl
theorem kept_it {s:Shared} {h':Heap} {o:Obj} (hk:∀ b x,b∉[s.heap.objs.size]→(s.heap.push o).get? b=some x→h'.get? b=some x):∀ b x,s.heap.get? b=some x→h'.get? b=some x :=
  fun b x e=>hk b x (fun hm=>by rw [List.mem_singleton.mp hm] at e;exact Nat.lt_irrefl _ (Heap.lt_size e)) (Heap.get?_push_of_some _ e)
theorem rng_any (bs:List Bool):((List.range bs.length).any fun i=>(bs[i]?).getD false)=bs.any id:=by
  rw [Bool.eq_iff_iff,List.any_eq_true,List.any_eq_true]
  constructor
  · rintro ⟨i,hi,h⟩
    have hi:=List.mem_range.mp hi
    exact ⟨bs[i],List.getElem_mem hi,by simpa [hi] using h⟩
  · rintro ⟨x,hx,h⟩
    obtain ⟨i,hi,rfl⟩:=List.mem_iff_getElem.mp hx
    exact ⟨i,List.mem_range.mpr hi,by simpa [hi] using h⟩
theorem Qkk (hc:X.calm=true):Xv X (.builtin "any") (fun vs H Q=>∃ (a:Addr) (bs:List Bool),vs=[.ref a]∧SqL X.K H a (bs.map V.bl)∧Q (.bl (bs.any id)) H):=by
  intro pins s σ H vs us Q I rs h
  obtain ⟨a,bs,rfl,h2,h3⟩:=h
  obtain ⟨u,rfl,ru⟩:=Qdl rs
  cases ru
  obtain ⟨its,r,pl,_⟩:=I.list h2
  have e:=QgL r
  subst e
  have hl:=pl.isList
  have hlt:a < s.heap.objs.size:=by obtain ⟨_,e,_⟩:=hl;exact Heap.lt_size e
  refine call_any_walk (wpAny_pyIter_list hl ?_)
  refine ⟨s.heap.objs.size,[s.heap.objs.size,a],[s.heap.objs.size],(bs.map Value.bool).toArray.size,_,_,fun i=>(bs[i]?).getD false,rfl,Walks.list (A:=X.A.in1) (I.ok.hd hc) _ a (Nat.ne_of_lt hlt) (bs.map Value.bool).toArray,
    ⟨⟨_,Heap.get?_push_size _ rfl,rfl,rfl⟩,hl.push _⟩,fun i v s' Q' E' hP hQ => ?_,fun h' tk hk => ?_⟩
  · have hP:(bs.map Value.bool)[i]?=some v:=by simpa using hP
    rw [List.getElem?_map,Option.map_eq_some_iff] at hP
    obtain ⟨b,e,rfl⟩:=hP
    simp only [e,Option.getD_some] at hQ
    exact wpAny_truthy_bool hQ
  · have e:((List.range (bs.map Value.bool).toArray.size).any fun i=>(bs[i]?).getD false)=bs.any id:=by
      rw [List.size_toArray,List.length_map];exact rng_any bs
    rw [e]
    exact ⟨.bl (bs.any id),H,I.kept (t':=tk) (kept_it hk),rfl,h3⟩
theorem cm_any (hc:X.calm=true):QgJ X (.builtin "any") Qkq:=by
  intro pins s σ H vs us Q I rs h
  obtain ⟨F,ps,r,h1,h2,h3,w⟩:=h
  refine Qkk hc pins s σ H vs us Q I rs ?_
  unfold Qkq at h3
  split at h3
  · rename_i xs
    obtain ⟨bs,e1,rfl⟩:=Yl h3
    have e2:=Qhw e1
    subst e2
    unfold RepL at h2
    obtain ⟨v,t,rfl,h2,ht⟩:=h2
    unfold RepL at ht
    subst ht
    unfold Rep at h2
    obtain ⟨a,us,rfl,k2,k3⟩:=h2
    have e3:=QgS k3
    subst e3
    exact ⟨a,bs,rfl,h1.seq k2,w.here h1 (ZS _)⟩
  · cases h3
end
end L2.PM

noncomputable section
namespace L2.PM
open PySem PySem.Spec PyProof.Rows
section
variable {X:Cx} {pos:Pos}
end
end L2.PM

noncomputable section
namespace L2.PM
open PySem PySem.Spec PyProof.Rows
theorem QhI {P:Program} {w:World} {K:PySem.W.Frag} {elts:List Expr} {kk:Nat} {pp:Pos} (a it e:Addr) (hne:e≠it):Turn P w K (.Tuple elts kk pp) (Ite fun H xs=>SqL K H a xs) [e,it] e (fun i h=>(∃ old,IsEnum h e it i old)∧h.IsListIter it a i) where
  mem:=by simp
  obj:=fun i h st b hb=>by
    obtain ⟨⟨old,he⟩,o,ho,c,d⟩:=st
    rcases List.mem_cons.mp hb with z | z
    · subst z
      exact ⟨_,he,fun v q=>by
        have q:Data.fields _=Data.cell v:=q
        cases q⟩
    · rw [List.mem_singleton.mp z]
      exact ⟨o,ho,fun v q=>by rw [d] at q;cases q⟩
  keep:=fun i h h' st k=>by
    obtain ⟨⟨old,he⟩,st2⟩:=st
    exact ⟨⟨old,k e (by simp) _ he⟩,st2.at fun o q=>k it (by simp) o q⟩
  item:=by
    intro X hP hw hK hc i pins s σ H E I hf st hg
    subst hP hw hK
    obtain ⟨xs,x,hq,hx⟩:=hg
    obtain ⟨its,rv,pl,hz⟩:=I.list hq
    have p:=pl.isList
    obtain ⟨u,hu,ru⟩:=rv.get hx
    have hlen:=rv.length
    have hi:i < its.length:=(List.getElem?_eq_some_iff.mp hu).1
    have nai:a≠it:=fun z=>by
      obtain ⟨⟨oi,hoi,ci,_⟩⟩:=(⟨st.2⟩:Nonempty _)
      obtain ⟨oa,hoa,ca,_⟩:=p
      rw [z,hoi] at hoa
      cases hoa
      rw [ci] at ca
      exact absurd ca (by decide)
    have nae:e∉[it,a]:=fun z=>by
      rcases List.mem_cons.mp z with z | z
      · exact hne z
      · have z:=List.mem_singleton.mp z
        obtain ⟨⟨old,he⟩,_⟩:=st
        obtain ⟨oa,hoa,ca,_⟩:=p
        rw [← z,he] at hoa
        cases hoa
        exact absurd (show Value.type "enumerate"=Value.type "list" from ca) (by decide)
    have W:=WalksT.enumerateD (A:=X.A) (Draws.list (prog:=X.prog) (w:=X.w) (A:=X.A.in1) (by have:=I.ok.hd hc;simp [this]) it a nai its.toArray) e hne nae (by simp)
    refine W.item i s _ _ (by simpa using hi) ⟨st.1,st.2,p⟩ fun T vals h1 tk hp hT tup mid k1 => ?_
    obtain ⟨tt,y,hy,rfl⟩:=hp
    have hy:y=u:=by
      rw [List.getElem?_toArray,hu] at hy
      exact (Option.some.inj hy).symm
    subst hy
    have apart:=W.apart i T h1 mid
    refine ⟨_,rfl,W.go elts kk pp i T { s with heap:=h1,toks:=tk } _ _ mid fun h2 st2 k2 => ?_⟩
    have hn:H T=none:=I.hok.fresh hT
    have tup2:h2.IsTuple T #[.int i tt,y]:=tup.at fun o q=>k2 T o apart q
    have I2:Inv X pins σ (upd H T (.tup [.int i,x])) { s with heap:=h2,toks:=tk }:=I.turnsNew (ch:=[e,it]) (o := .tup [.int i,x]) hf (fun b o hb q=>k2 b o hb (k1 b o hb q)) hT ⟨by show 2≤sizeLine;decide,[.int i tt,y],.cons ⟨tt,rfl⟩ (.cons ru .nil),tup2⟩
    refine ⟨.ref T,_,I2,rfl,⟨T,x,rfl,hn,rfl,fun ys hy=>by rw [I.list_inj hy hq];exact hx⟩,⟨st2.1,st2.2.1⟩,fun b hb => ?_⟩
    have hbT:b≠T:=fun z=>apart (z ▸ hb)
    rw [Qt hbT]
    exact (hf b hb).1
  done:=by
    intro X hP hw hK hc i pins s σ H E I hf st hg
    subst hP hw hK
    obtain ⟨xs,hq,hx⟩:=hg
    obtain ⟨its,rv,pl,hz⟩:=I.list hq
    have p:=pl.isList
    have hlen:=rv.length
    obtain ⟨⟨old,he⟩,st2⟩:=st
    have D:Draws X.prog X.w X.A.in1 it [it,a] i (fun _ _=>True) (fun j h=>j=i∧h.IsListIter it a i∧h.IsList a its.toArray) :=
      { live:=fun _ _ q=>let ⟨_,⟨o,ho,_⟩,_⟩:=q;⟨o,ho⟩
        frame:=fun _ _ _ q k=>⟨q.1,q.2.1.at fun o z=>k it (by simp) o z,q.2.2.at fun o z=>k a (by simp) o z⟩
        item:=fun j s Q E hj q _=>absurd q.1 (Nat.ne_of_lt hj)
        done:=fun s Q E q fin=>wpAny_nextOf_list_end (by have:=I.ok.hd hc;simp [this]) q.2.1 q.2.2 (by simp;omega) fin }
    exact wpAny_pyNext_enum_endD D he ⟨rfl,st2,p⟩ fun h1 k=>⟨rfl,I.turns (tk:=s.toks) (ch:=[e,it]) hf fun b o hb q=>k b o (fun z=>hb (by simp [z])) q⟩
  self:=fun A i s Q E st h=>wpAny_pyIter_enum st.1.choose_spec h
section
variable {X:Cx} {e a b c:Expr} {es:List Expr} {ms ns ls:List Nat} {m m1 m2 m3:MEx} {ma:PEnv→Option (List PV)} {pos p p1 p2 p3 pos':Pos} {x:Str} {id T:String} {tg:Expr}
theorem star_int {i:Int} {j:Nat} {q:Pos} {es:List Expr} {env:Env}:starEach (.Constant (.int i) j q :: es) env=(false,eval (.Constant (.int i) j q) env) :: starEach es env:=rfl
theorem Xl {i:Int} {j:Nat} {q:Pos} (hr:AM X [] es ma):AM X [] (.Constant (.int i) j q :: es) (Qe (mC (.int i)) ma):=Qb Qi hr star_int
theorem pi_enumL {elts:List Expr} {kk:Nat} {pp:Pos} {ta:TA} (hg:Gl X "enumerate") (hm:X.mg "enumerate"=none) (ha:PA X [a] ta) (hs:starEach [a] X.env=[(false,eval a X.env)]:=by rfl) :
    PI X (.Tuple elts kk pp) (.Call (.Name "enumerate" p) [a] [] pos) (fun σ H R=>ta σ H fun vs H1=>∃ l,vs=[.ref l]∧(∃ xs,SqL X.K H1 l xs)∧R (Ite fun H xs=>SqL X.K H l xs) H1):=by
  intro pins s σ H R I h
  refine Call_ (QaL I hg hm (show bootBuiltins "enumerate"=some (.type "enumerate") from by kernel_rfl) (PyProof.Rows.callWith_type1 (thn (ha pos pins s σ H _ I h) fun us s1 ⟨vs,H1,I1,r1,q1⟩ => ?_) hs rfl))
  obtain ⟨l,rfl,⟨xs,hq⟩,q⟩:=q1
  obtain ⟨u,rfl,ru⟩:=Qdl r1
  cases ru
  obtain ⟨its,rv,pl,hz⟩:=I1.list hq
  refine call_enumerate_list pl.isList fun h' he hit _ k => ?_
  refine wpAny_pyIter_enum he ?_
  refine ⟨s1.heap.objs.size + 1,[s1.heap.objs.size + 1,s1.heap.objs.size],_,_,H1,rfl,I1.kept (t':=s1.toks) k,QhI l s1.heap.objs.size (s1.heap.objs.size + 1) (Nat.succ_ne_self _),⟨⟨_,he⟩,hit⟩,fun b hb => ?_,q⟩
  have hle:s1.heap.objs.size≤b:=by
    rcases List.mem_cons.mp hb with z | z
    · rw [z];exact Nat.le_succ _
    · rw [List.mem_singleton.mp z];exact Nat.le_refl _
  exact I1.fpOk hle (I1.hok.fresh hle)
theorem im_enumL {elts:List Expr} {kk:Nat} {pp:Pos} (hc:X.calm=true) (hg:Gl X "enumerate") (hm:X.mg "enumerate"=none) (ha:AM X ms [a] ma) (hs:starEach [a] X.env=[(false,eval a X.env)]:=by rfl) :
    IM X ms (.Tuple elts kk pp) (.Call (.Name "enumerate" p) [a] [] pos) (Qk Qga ma) :=
  PI.imp (pi_enumL hg hm ha hs) fun σ H R ⟨F,γ,xs,k1,k2,k3,w⟩=>by
    obtain ⟨qs,e1,k3⟩:=Qg k3
    refine ⟨F,γ,qs,k1,k2,e1,fun vs H1 F1 g1 q1 => ?_⟩
    unfold Qga at k3
    split at k3
    · rename_i ys
      cases k3
      unfold RepL at q1
      obtain ⟨v,t,rfl,q1,qt⟩:=q1
      unfold RepL at qt
      subst qt
      unfold Rep at q1
      obtain ⟨l,us,rfl,sl,rl⟩:=q1
      refine ⟨l,rfl,⟨us,g1.sub.seq sl⟩,w _ _ _ g1 ?_⟩
      refine ⟨fun i H2 hi e2 => ?_,fun i H2 v H3 hi e2 y => ?_,fun H2 e2 => ?_⟩
      · have hv:i < us.length:=by
          rw [rl.length]
          simpa using hi
        exact ⟨us,us[i],e2.seq sl,by simp [hv]⟩
      · obtain ⟨T,x,rfl,hn,rfl,y⟩:=y
        obtain ⟨p,e3,e4⟩:=rl.back (y us (e2.seq sl))
        refine ⟨.tup [pN i,p],?_,fun F2 x1 x2 => ?_⟩
        · simp [e3]
        · refine ⟨upd F2 T (.tup [.int i,x]),.laid x2 hn,?_⟩
          unfold Rep
          exact ⟨T,[.int i,x],rfl,.of Qv,.cons (QV _) (.cons (e4.mono (x1.trans (Grow.laid (o := .tup [.int i,x]) x2 hn).ext)) .nil)⟩
      · exact ⟨us,e2.seq sl,by rw [rl.length];simp⟩
    · cases k3
end
end L2.PM

noncomputable section
namespace L2.PM
open PySem PySem.Spec PyProof.Rows
section
variable {X:Cx}
end
end L2.PM

noncomputable section
namespace L2.PM
open PySem PySem.Spec PyProof.Rows
section
variable {X:Cx} {pos p:Pos} {x:Str}
end
end L2.PM

noncomputable section
namespace L2.PM
open PySem PySem.Spec PyProof.Rows
section
variable {X:Cx}
end
end L2.PM

noncomputable section
namespace L2.PM
open PySem PySem.Spec PyProof.Rows
section
variable {X:Cx} {tg e:Expr} {ms:List Nat} {m:MEx}
end
end L2.PM

noncomputable section
namespace L2.PM
open PySem PySem.Spec PyProof.Rows PySem.Builtin PySem.Builtin.Str
section
variable {prog:Program} {w:World} {A:Around} {E:Value→Shared→Prop} {s:Shared} {x y:Str} {t u:Tok}
end
section
variable {X:Cx} {o e:Expr} {es:List Expr} {ms ns:List Nat} {m:MEx} {ma:PEnv→Option (List PV)}
end
end L2.PM

noncomputable section
namespace L2.PM
open PySem PySem.Spec PyProof.Rows
section
variable {X:Cx}
variable {e k:Expr} {ms:List Nat} {m mk:MEx} {p2 pos:Pos}
end
end L2.PM

noncomputable section
namespace L2.PM
open PySem PySem.Spec PyProof.Rows
section
variable {X:Cx} {o e:Expr} {es:List Expr} {ms ns:List Nat} {m:MEx} {ma:PEnv→Option (List PV)}
end
end L2.PM

noncomputable section
namespace L2.PM
open PySem
noncomputable def rngD (hi lo:Int):List PV:=(List.range (hi - lo).toNat).map fun k => .int (hi - (k:Nat))
noncomputable def rg3K:PV→PV→PV→Option (List PV)
  | .int i,.int j,.int k=>if k = -1∧rOk i=true∧rOk j=true then some (rngD i j) else none
  | _,_,_=>none
noncomputable def iRg3 (m1 m2 m3:MEx):PEnv→Option (List PV):=fun γ=>(m1 γ).bind fun p=>(m2 γ).bind fun q=>(m3 γ).bind fun r=>rg3K p q r
end L2.PM

noncomputable section
namespace L2.PM
open PySem PySem.Spec PyProof.Rows
noncomputable def Itd (hi:Int) (n:Nat):It:=⟨fun i _=>i < n,fun i H x H'=>H'=H∧x = .int (hi - i),fun i _=>n≤i⟩
theorem Qjr {P:Program} {w:World} {K:PySem.W.Frag} {tg:Expr} (it:Addr) (hi:Int) (n:Nat):Turn P w K tg (Itd hi n) [it] it (fun i h=>IsRangeIter h it (hi + (i:Nat) * (-1)) ((n:Int) - (i:Nat)) (-1)) where
  mem:=List.mem_singleton.mpr rfl
  obj:=fun i h st b hb=>by
    obtain rfl:=List.mem_singleton.mp hb
    exact ⟨_,st,fun v z=>nomatch (show Data.fields _=Data.cell v from z)⟩
  keep:=fun i h h' st k=>k it (List.mem_singleton.mpr rfl) _ st
  item:=by
    intro X hP hw hK hc i pins s σ H E I hf st hg
    subst hP hw hK
    obtain ⟨y0,y1,y2,y3,y4,y5⟩:=hf it (List.mem_singleton.mpr rfl)
    refine (Walks.range (prog:=X.prog) (w:=X.w) (I.ok.hd hc) it hi (-1) n).item i s _ _ hg st fun v h' tk hv st' kk => ?_
    obtain ⟨t,rfl⟩:=hv
    have J:Inv X pins σ H { s with heap:=h',toks:=tk }:=I.turned (fun b o hb e=>kk b o (fun z=>hb (List.mem_singleton.mp z)) e) y0 y1 y3 y4 y5
    refine ⟨_,rfl,Qiu (s:={ s with heap:=h',toks:=tk }) (n := "range_iterator") st' rfl rfl (by decide) ⟨.int (hi - i),H,J,⟨t,?_⟩,⟨rfl,rfl⟩,st',fun b hb=>(hf b hb).1⟩⟩
    rw [show hi + (i:Int) * (-1)=hi - i by omega]
  done:=by
    intro X hP hw hK hc i pins s σ H E I hf st hg
    subst hP hw hK
    obtain ⟨y0,y1,y2,y3,y4,y5⟩:=hf it (List.mem_singleton.mpr rfl)
    exact wpAny_pyNext_range_end (I.ok.hd hc) st (by have z:n≤i:=hg;omega) fun h' eb=>⟨rfl,I.turned (t':=s.toks) (fun b o hb e=>eb b o hb e) y0 y1 y3 y4 y5⟩
  self:=fun _ _ _ _ _ st h=>wpAny_pyIter_rangeiter st h
theorem small_dn {a b:Int} (ha : -(2 ^ 62)≤a) (ha':a < 2 ^ 62) (hb : -(2 ^ 62)≤b) (hb':b < 2 ^ 62):Builtin.Range.small a b (-1)=true∧Builtin.Range.rangeSize a b (-1)=((a - b).toNat:Int):=by
  have e:Builtin.Range.rangeSize a b (-1)=if a > b then a - b else 0:=by
    unfold Builtin.Range.rangeSize
    simp only [show ¬ ((-1:Int) > 0) by decide,if_false,show (-(-1):Int)=1 from rfl,Int.ediv_one]
    split <;> omega
  refine ⟨?_,by rw [e];split <;> omega⟩
  unfold Builtin.Range.small
  rw [e]
  simp only [Builtin.Range.rangeFitsLong,Bool.and_eq_true,Bool.or_eq_true,decide_eq_true_eq,beq_iff_eq,show ¬ ((-1:Int) > 0) by decide,if_false]
  split <;> omega
section
variable {X:Cx} {e a b c:Expr} {es:List Expr} {ms ns ls:List Nat} {m m1 m2 m3:MEx} {ma:PEnv→Option (List PV)} {pos p p1 p2 p3 pos':Pos} {x:Str} {id T:String} {tg:Expr}
theorem pi_down {ta:TA} (hg:Gl X "range") (hm:X.mg "range"=none) (ha:PA X [a,b,c] ta) (hs:starEach [a,b,c] X.env=[(false,eval a X.env),(false,eval b X.env),(false,eval c X.env)]:=by rfl) (hs2:starEach [b,c] X.env=[(false,eval b X.env),(false,eval c X.env)]:=by rfl) :
    PI X tg (.Call (.Name "range" p) [a,b,c] [] pos) (fun σ H R=>ta σ H fun vs H1=>∃ i j:Int,vs=[.int i,.int j,.int (-1)]∧(-(2 ^ 62)≤i∧i < 2 ^ 62 ∧ -(2 ^ 62)≤j∧j < 2 ^ 62)∧R (Itd i (i - j).toNat) H1):=by
  intro pins s σ H R I h
  refine Call_ (QaL I hg hm boot_range (PyProof.Rows.callWith_type1 (thn (ha pos pins s σ H _ I h) fun us s1 ⟨vs,H1,I1,r1,q1⟩ => ?_) (by rw [hs,hs2]) (by rw [hs2];rfl)))
  obtain ⟨i,j,rfl,⟨q1,q2,q3,q4⟩,q⟩:=q1
  cases r1 with
  | cons r rr=>cases rr with
    | cons r' rr=>cases rr with
      | cons r'' rr =>
        cases rr
        obtain ⟨t,rfl⟩:=r
        obtain ⟨t',rfl⟩:=r'
        obtain ⟨t'',rfl⟩:=r''
        obtain ⟨sm,sz⟩:=small_dn q1 q2 q3 q4
        refine call_range_3 (by decide) ?_ (Or.inl (PyProof.noPylong_small (by decide)))
        refine wpAny_pyIter_range (IsRange.new ..) sm ?_
        have J:Inv X pins σ H1 { s1 with heap:=s1.heap.push { cls := .type "range",data := .fields #[.int i t,.int j t',.int (-1) t''] },toks:=s1.toks }:=I1.kept fun b o e=>Heap.get?_push_of_some _ e
        refine ⟨(s1.heap.push { cls := .type "range",data := .fields #[.int i t,.int j t',.int (-1) t''] }).objs.size,[(s1.heap.push { cls := .type "range",data := .fields #[.int i t,.int j t',.int (-1) t''] }).objs.size],_,_,H1,rfl,
          J.kept (t':=s1.toks) fun b o e=>Heap.get?_push_of_some _ e,Qjr _ i (i - j).toNat,?_,fun b hb => ?_,q⟩
        · show IsRangeIter _ _ (i + ((0:Nat):Int) * (-1)) ((((i - j).toNat:Nat):Int) - ((0:Nat):Int)) (-1)
          rw [show i + ((0:Nat):Int) * (-1)=i by simp,show (((i - j).toNat:Nat):Int) - ((0:Nat):Int)=Builtin.Range.rangeSize i j (-1) by rw [sz];simp]
          exact Heap.get?_push_size _ rfl
        · obtain rfl:=List.mem_singleton.mp hb
          exact J.fpOk (Nat.le_refl _) (J.hok.fresh (Nat.le_refl _))
theorem itd_rep {K:PySem.W.Frag} {F:Hp} (hi lo:Int):ItRep K (Itd hi (hi - lo).toNat) F (rngD hi lo):=by
  have hl:(rngD hi lo).length=(hi - lo).toNat:=by simp [rngD]
  refine ⟨fun i H h e => ?_,fun i H x H' h e y => ?_,fun H e => ?_⟩
  · rw [hl] at h;exact h
  · obtain ⟨rfl,rfl⟩:=y
    rw [hl] at h
    exact ⟨.int (hi - i),by simp [rngD,h],fun F1 x1 x2=>⟨F1,.refl x2,QV _⟩⟩
  · show (hi - lo).toNat≤_
    rw [hl];exact Nat.le_refl _
theorem rg3_get {p q r:PV} {xs:List PV} (h:rg3K p q r=some xs):∃ i j k,p = .int i∧q = .int j∧r = .int k∧(if k = -1∧rOk i=true∧rOk j=true then some (rngD i j) else none)=some xs:=by
  cases p with
  | int i =>
    cases q with
    | int j =>
      cases r with
      | int k=>exact ⟨i,j,k,rfl,rfl,rfl,h⟩
      | _=>cases h
    | _=>cases h
  | _=>cases h
theorem Qid (hg:Gl X "range") (hm:X.mg "range"=none) (ha:AM X ms [a,b,c] (Qe m1 (Qe m2 (Qe m3 aNil)))) (hs:starEach [a,b,c] X.env=[(false,eval a X.env),(false,eval b X.env),(false,eval c X.env)]:=by rfl) (hs2:starEach [b,c] X.env=[(false,eval b X.env),(false,eval c X.env)]:=by rfl) :
    IMR X ms tg (.Call (.Name "range" p) [a,b,c] [] pos) (iRg3 m1 m2 m3) :=
  PI.imp (pi_down hg hm ha hs hs2) fun σ H R ⟨F,γ,xs,h1,h2,h3,w⟩=>by
    obtain ⟨p,e1,h4⟩:=Qg h3
    obtain ⟨p',e1',h5⟩:=Qg h4
    obtain ⟨p'',e1'',h6⟩:=Qg h5
    clear h3 h4 h5
    refine ⟨F,γ,[p,p',p''],h1,h2,by simp [Qe,aNil,e1,e1',e1''],fun vs H' F' g q => ?_⟩
    unfold RepL at q
    obtain ⟨v,t,rfl,q,qt⟩:=q
    unfold RepL at qt
    obtain ⟨v',t',rfl,q',qt⟩:=qt
    unfold RepL at qt
    obtain ⟨v'',t'',rfl,q'',qt⟩:=qt
    unfold RepL at qt
    subst qt
    obtain ⟨i,j,k,rfl,rfl,rfl,h3⟩:=rg3_get h6
    obtain ⟨⟨ek,ci,cj⟩,rfl⟩:=Zo h3
    subst ek
    unfold Rep at q q' q''
    subst q q' q''
    exact ⟨i,j,rfl,⟨(Qbw ci).1,(Qbw ci).2,(Qbw cj).1,(Qbw cj).2⟩,w _ _ g.same fun F=>itd_rep i j⟩
end
open PySem.AutoSeq1 (wpAny_loadPart')
section
variable {X:Cx} {e a b c:Expr} {es:List Expr} {ms ns ls:List Nat} {m m1 m2 m3:MEx} {ma:PEnv→Option (List PV)} {pos p p1 p2 p3 pos':Pos} {x:Str} {id T:String} {tg:Expr}
end
structure FunD (K:PySem.W.Frag) (x qual:Str) (st:Stmt) (f:Addr) (fd:FuncData) (j:Int):Prop where
  ex:∃ (T:Addr) (oc:Value) (od:Option Addr) (kV doc pm:Value) (an:Option Addr) (cdv ct:Value) (osl:Array (Option Value)),
    fd=PySem.W.fnOf x qual (Qo st) (Qn st) (Qc st) (.ref T) kV doc pm an cdv ct∧K.lookup f=some ⟨oc,od,.func fd,osl⟩∧PySem.W.codeIn K cdv qual=true ∧
    ∃ (tc:Value) (td:Option Addr) (tk:Tok) (tn:Nat) (ts:Array (Option Value)),K.lookup T=some ⟨tc,td,.seq #[.int j tk] tn,ts⟩
  kp:PySem.W.keepIn K (.ref f)=true
theorem funD_mk {K:PySem.W.Frag} {x qual:Str} {st:Stmt} {f T:Addr} {oc tc:Value} {od an td:Option Addr} {osl ts:Array (Option Value)} {kV doc pm cdv ct:Value} {j:Int} {tk:Tok} {tn:Nat} (l:K.lookup f=some ⟨oc,od,.func (PySem.W.fnOf x qual (Qo st) (Qn st) (Qc st) (.ref T) kV doc pm an cdv ct),osl⟩)
    (c:PySem.W.codeIn K cdv qual=true) (k:PySem.W.keepIn K (.ref f)=true) (t:K.lookup T=some ⟨tc,td,.seq #[.int j tk] tn,ts⟩):FunD K x qual st f (PySem.W.fnOf x qual (Qo st) (Qn st) (Qc st) (.ref T) kV doc pm an cdv ct) j :=
  ⟨⟨T,oc,od,kV,doc,pm,an,cdv,ct,osl,rfl,l,c,tc,td,tk,tn,ts,t⟩,k⟩
section
variable {P:Program} {w:World} {K:PySem.W.Frag} {mg:Str→Option Value} {base:Heap}
theorem FunD.ok {x qual:Str} {st:Stmt} {f:Addr} {fd:FuncData} {j:Int} {N ps:List Str} {k:Nat} {sp:Sp} (F:FunD K x qual st f fd j) (S:FnScope N ps (Qc st)) (len:∀ vs H Q E,sp vs H Q E→vs.length=ps.length)
    (hbody:∀ (cdv:Value) (A:Around) (outer:List Env) (s:Shared) (H:Hp) (vs:List V) (Q:VK) (E:XK),Room k (A.deeper (envOfC qual (Qc st) s.heap.objs.size f cdv))→sp vs H Q E →
      ∃ t,PSs (cxOf CX0 P w K mg base N qual (Qc st) f cdv A outer s H E).nox (Qn st) t∧t { nx:=fun _ H'=>Q .non H',rt:=Q } (XV N vs) H):FnOk P w K mg base CX0 (k + 1) f fd ps sp:=by
  obtain ⟨T,oc,od,kV,doc,pm,an,cdv,ct,osl,rfl,lk,hcd,_⟩:=F.ex
  refine fn_of lk hcd S len fun A outer s H vs Q E hr hsp => ?_
  obtain ⟨t,h,q⟩:=hbody cdv A outer s H vs Q E hr hsp
  exact ⟨t,h.nox,q⟩
theorem fnMD {x qual:Str} {st:Stmt} {f:Addr} {fd:FuncData} {j:Int} {N ps:List Str} {k n:Nat} {m:MSt} (Fn:FunD K x qual st f fd j) (Sc:FnScope N ps (Qc st)) (hn:ps.length=n)
    (hbody:∀ (cdv:Value) (A:Around) (outer:List Env) (s:Shared) (H:Hp) (E:XK),Room k (A.deeper (envOfC qual (Qc st) s.heap.objs.size f cdv)) →
      SMs (cxOf CX0 P w K mg base N qual (Qc st) f cdv A outer s H E).nox (Qn st) m):FnOk P w K mg base CX0 (k + 1) f fd ps (spM K n (runV N.length n m)):=by
  refine Fn.ok Sc (fun vs H Q E h=>by rw [h.1,hn]) fun cdv A outer s H vs Q E hr h => ?_
  refine ⟨_,hbody cdv A outer s H E hr,?_⟩
  obtain ⟨hl,F,qs,r,h1,h2,h3,wv⟩:=h
  unfold runV at h3
  have hq:qs.length=n:=by rw [← h2.length];exact hl
  rw [if_pos hq] at h3
  obtain ⟨o,e1,e2⟩:=Qg h3
  refine ⟨H,F,F,_,o,Qcr h1 h2,e1,?_⟩
  cases o with
  | nx γ=>cases e2;exact fun σ' H' F' S=>wv .non H' F' S.gr QiS
  | rt p=>cases e2;exact fun v H' F' g q=>wv v H' F' g q
  | ro xs=>cases e2;exact fun a vs H' F' g n nF hH q=>wv.of_lst a vs H' F' g n nF hH q
  | bk γ=>cases e2
  | ct γ=>cases e2
theorem FunD.binds {x qual:Str} {st:Stmt} {f:Addr} {fd:FuncData} {j:Int} {ps:List Str} (F:FunD K x qual st f fd j)
    (h:∀ (dV kV doc pm:Value) (an:Option Addr) (cdv ct d:Value) (us:List Value),us.length=ps.length→∃ k:Option (Array Value)→Sem (List (Str×Value)),bindArgs (PySem.W.fnOf x qual (Qo st) (Qn st) (Qc st) dV kV doc pm an cdv ct) ⟨us,[]⟩=seqItems? dV >>= k∧k (some #[d])=pure (ps.zip us)):YR K fd ps []:=by
  obtain ⟨T,oc,od,kV,doc,pm,an,cdv,ct,osl,rfl,lk,hcd,tc,td,tk,tn,ts,t⟩:=F.ex
  intro s us X hl
  rw [List.append_nil] at hl ⊢
  obtain ⟨k,e1,e2⟩:=h (.ref T) kV doc pm an cdv ct (.int j tk) us hl
  exact BindsTo.of_defaults rfl (X _ _ t) rfl e1 e2
theorem FunD.bindsD {x qual:Str} {st:Stmt} {f:Addr} {fd:FuncData} {j:Int} {ps:List Str} (F:FunD K x qual st f fd j)
    (h:∀ (dV kV doc pm:Value) (an:Option Addr) (cdv ct d:Value) (us:List Value),us.length + 1=ps.length→∃ k:Option (Array Value)→Sem (List (Str×Value)),bindArgs (PySem.W.fnOf x qual (Qo st) (Qn st) (Qc st) dV kV doc pm an cdv ct) ⟨us,[]⟩=seqItems? dV >>= k∧k (some #[d])=pure (ps.zip (us++[d]))) :
    ∃ tk:Tok,YR K fd ps [.int j tk]:=by
  obtain ⟨T,oc,od,kV,doc,pm,an,cdv,ct,osl,rfl,lk,hcd,tc,td,tk,tn,ts,t⟩:=F.ex
  refine ⟨tk,fun s us X hl => ?_⟩
  obtain ⟨k,e1,e2⟩:=h (.ref T) kV doc pm an cdv ct (.int j tk) us (by simpa using hl)
  exact BindsTo.of_defaults rfl (X _ _ t) rfl e1 e2
end
noncomputable def CalD (P:Program) (w:World) (K:PySem.W.Frag) (mg:Str→Option Value) (base:Heap) (k:Nat) (x:Str) (n:Nat) (j:Int) (g:List PV→Option PV):Prop :=
  ∃ f fd ps,FnOk P w K mg base CX0 k f fd ps (spM K n g)∧mg x=some (.ref f)∧PySem.W.keepIn K (.ref f)=true∧YR K fd ps []∧∃ tk:Tok,YR K fd ps [.int j tk]
section
variable {X:Cx} {e:Expr} {es:List Expr} {ms:List Nat} {ma:PEnv→Option (List PV)} {x:Str} {p pos:Pos} {k n:Nat} {j:Int} {m:MEx}
theorem Qjg {g:List PV→Option PV} (c:CalD X.prog X.w X.K X.mg X.base k x n j g) (hn:∀ ps r,g ps=some r→ps.length=n) (hr:Room k X.A) (hg:Gl X x)
    (ha:AM X ms [e] (Qe m aNil)) (hdb:(x==("__debug__":Str))=false:=by decide) (he:starEach [e] X.env=(false,eval e X.env) :: starEach [] X.env:=by rfl) (hpl:(backTo pos (starEach [] X.env)).any (·.1)=false:=by rfl) :
    EM X ms (.Call (.Name x p) [e] [] pos) (Qk g (Qe m (Qe (mC (.int j)) aNil))):=by
  obtain ⟨f,fd,ps,F,hm,hk,_,tk,hb⟩:=c
  refine PE.imp (QfL (E:=E0) (dvs:=[.int j]) F hr hg hm hk hb (.cons ⟨tk,rfl⟩ .nil) Qgt ha hdb he hpl) fun σ H Q h => ?_
  obtain ⟨F,γ,r,k1,k2,k3,w⟩:=h
  obtain ⟨xs,e1,k3⟩:=Qg k3
  obtain ⟨q,e0,e1⟩:=Qg e1
  have e1:some [q,.int j]=some xs:=e1
  cases e1
  refine ⟨F,γ,[q],k1,k2,by simp [Qe,aNil,e0],fun vs H1 F1 g1 q1 => ?_⟩
  dsimp only
  have q2:RepL X.K F1 [q,.int j] (vs++[.int j]):=q1.append (.cons (QV _) .nil)
  exact ⟨by rw [q2.length];exact hn _ _ k3,F1,_,r,g1.sub,q2,k3,w.go g1⟩
end
end L2.PM

noncomputable section
namespace L2.PM
open PySem PySem.Spec PyProof.Rows
structure ZA (z TI TO i1 i2:Addr) (f1 f2:List Addr):Prop where
  ti:TI≠z∧TI≠TO∧TI≠i1∧TI≠i2
  to:TO≠z∧TO≠i1∧TO≠i2
  ii:i1≠z∧i2≠z∧i1≠i2
  o1:z∉f1∧TO∉f1∧i2∉f1
  o2:z∉f2∧TO∉f2∧i1∉f2
section
variable {prog:Program} {w:World} {A:Around} {E:Value→Shared→Prop} {s:Shared} {z TI TO i1 i2:Addr} {f1 f2:List Addr} {n1 n2 k1 k2:Nat} {P1 P2:Nat→Value→Prop} {S1 S2:Nat→Heap→Prop}
theorem QiC {a b:Addr} {f:List Addr} (h:a∉f) (hb:b∈f):b≠a:=fun e=>h (e ▸ hb)
theorem Zm {it a:Addr} {f:List Addr} {n i:Nat} {P:Nat→Value→Prop} {S:Nat→Heap→Prop} {h h':Heap} (D:Draws prog w A it f n P S) (st:S i h) (e:Heap.SameBut a h h') (na:a∉f):S i h' :=
  D.frame i h h' st fun b hb o q=>e.extBut b o (QiC na hb) q
theorem zn_item {a b:Value} {Q:Value→Shared→Prop} (D1:Draws prog w A i1 f1 n1 P1 S1) (D2:Draws prog w A i2 f2 n2 P2 S2) (Z:ZA z TI TO i1 i2 f1 f2) (gz:IsZip s.heap z TI TO .none) (gi:IsPair s.heap TI (.ref i1) (.ref i2)) (go:IsPair s.heap TO a b)
    (l1:k1 < n1) (l2:k2 < n2) (t1:S1 k1 s.heap) (t2:S2 k2 s.heap)
    (fin:∀ h' x y tk,P1 k1 x→P2 k2 y→IsZip h' z TI TO (rawInt s.heap.objs.size)→IsPair h' TO x y→S1 (k1 + 1) h'→S2 (k2 + 1) h'→IsPair h' s.heap.objs.size x y→(∀ c o,c∉[z,TO,i1,i2]→s.heap.get? c=some o→h'.get? c=some o)→Q (.ref s.heap.objs.size) { s with heap:=h',toks:=tk }) :
    wpAny (model prog w) A (Builtin.«zip.__next__» ⟨[.ref z],[]⟩) (fun fin s'=>∃ v,fin = .done (.ret v)∧Q v s') E s:=by
  show wpAny (model prog w) A (field (.ref z) 2 >>= _) _ _ s
  refine wpAny_bind (wpAny_field gz rfl (x := .bool false) rfl ?_)
  show wpAny (model prog w) A (field (.ref z) 3 >>= _) _ _ s
  refine wpAny_bind (wpAny_field gz rfl (x := .ref TI) rfl (wpAny_bind (wpAny_seqItems gi rfl ?_)))
  show wpAny (model prog w) A (Builtin.SmallTypes.ownedTupleIsFree (.ref z) >>= _) _ _ s
  refine wpAny_bind ?_
  unfold Builtin.SmallTypes.ownedTupleIsFree
  refine wpAny_bind (wpAny_field gz rfl (x := .none) rfl (wpAny_pure ?_))
  simp only [if_true]
  refine wpAny_bind (wpAny_rule (wpAny_bind (wpAny_field gz rfl (x := .ref TO) rfl (wpAny_bind (wpAny_setField_rec gz (by simp) fun ha za ea=>wpAny_bind ?_)))))
  replace za:IsZip ha z TI TO .ellipsis:=za
  simp only [List.zipIdx_cons,List.zipIdx_nil,List.forIn_cons,List.forIn_nil]
  refine wpAny_bind (wpAny_bind (wpAny_onRaise ?_))
  show wpAny (model prog w) A (Builtin.SmallTypes.nextOf (.ref i1) >>= _) _ _ _
  refine wpAny_bind (D1.item k1 _ _ _ l1 (Zm D1 t1 ea Z.o1.1) fun x hb tb px tb1 eb=>wpAny_pure ?_)
  have gb:IsPair hb TO a b:=eb.extBut _ _ Z.to.2.1 (ea.extBut _ _ Z.to.1 go)
  refine wpAny_bind (wpAny_seqItems gb rfl (wpAny_bind (wpAny_updateSeq_pair gb fun hc gc ec=>wpAny_bind (wpAny_letGo (wpAny_pure ?_)))))
  replace gc:IsPair hc TO x b:=gc
  refine wpAny_bind (wpAny_bind (wpAny_onRaise ?_))
  show wpAny (model prog w) A (Builtin.SmallTypes.nextOf (.ref i2) >>= _) _ _ _
  refine wpAny_bind (D2.item k2 _ _ _ l2 (Zm D2 (Zm D2 (Zm D2 t2 ea Z.o2.1) eb Z.o2.2.2) ec Z.o2.2.1) fun y hd td py td2 ed=>wpAny_pure ?_)
  have gd:IsPair hd TO x b:=ed.extBut _ _ Z.to.2.2 gc
  refine wpAny_bind (wpAny_seqItems gd rfl (wpAny_bind (wpAny_updateSeq_pair gd fun he ge ee=>wpAny_bind (wpAny_letGo (wpAny_pure (wpAny_pure ?_))))))
  replace ge:IsPair he TO x y:=ge
  refine wpAny_bind (wpAny_seqItems ge rfl (wpAny_bind (wpAny_newTuple ?_)))
  have sz:he.objs.size=s.heap.objs.size:=by rw [ee.1,ed.1,ec.1,eb.1,ea.1]
  have zd:IsZip he z TI TO .ellipsis:=ee.extBut _ _ Z.to.1.symm (ed.extBut _ _ Z.ii.2.1.symm (ec.extBut _ _ Z.to.1.symm (eb.extBut _ _ Z.ii.1.symm za)))
  have kp:∀ c o,c∉[z,TO,i1,i2]→s.heap.get? c=some o→he.get? c=some o:=fun c o hc e=>by
    simp at hc
    exact ee.extBut _ _ hc.2.1 (ed.extBut _ _ hc.2.2.2 (ec.extBut _ _ hc.2.1 (eb.extBut _ _ hc.2.2.1 (ea.extBut _ _ hc.1 e))))
  have te1:S1 (k1 + 1) he:=Zm D1 (Zm D1 (Zm D1 tb1 ec Z.o1.2.1) ed Z.o1.2.2) ee Z.o1.2.1
  have te2:S2 (k2 + 1) he:=Zm D2 td2 ee Z.o2.2.1
  have zl:z < he.objs.size:=Heap.lt_size zd
  show wpAny (model prog w) A (Builtin.SmallTypes.ownedTupleHandOut (.ref z) (.ref he.objs.size) >>= _) _ _ _
  refine wpAny_bind ?_
  unfold Builtin.SmallTypes.ownedTupleHandOut
  have zp:IsZip (he.push { cls := .type "tuple",data := .seq #[x,y] }) z TI TO .ellipsis:=Heap.get?_push_of_some _ zd
  refine wpAny_bind (wpAny_setField_rec zp (by simp) fun hg zg eg => ?_)
  replace zg:IsZip hg z TI TO (rawInt he.objs.size):=zg
  refine wpAny_setField_rec zg (by simp) fun hh zh eh => ?_
  replace zh:IsZip hh z TI TO (rawInt he.objs.size):=zh
  have up:∀ c o,c≠z→he.get? c=some o→hh.get? c=some o:=fun c o c1 e=>eh.extBut _ _ c1 (eg.extBut _ _ c1 (Heap.get?_push_of_some _ e))
  have pt:IsPair hh he.objs.size x y:=eh.extBut _ _ (Nat.ne_of_gt zl) (eg.extBut _ _ (Nat.ne_of_gt zl) (Heap.get?_push_size _ rfl))
  rw [sz] at zh pt
  refine wpAny_pure ⟨.ref he.objs.size,rfl,?_⟩
  rw [sz]
  exact fin hh x y _ px py zh (up _ _ Z.to.1 ge) (D1.frame _ _ _ te1 fun c hc o e=>up c o (QiC Z.o1.1 hc) e) (D2.frame _ _ _ te2 fun c hc o e=>up c o (QiC Z.o2.1 hc) e) pt fun c o hc e=>up c o (fun q=>hc (by simp [q])) (kp c o hc e)
theorem zn_end {a b:Value} {Q:Fin→Shared→Prop} (D1:Draws prog w A i1 f1 n1 P1 S1) (D2:Draws prog w A i2 f2 n2 P2 S2) (Z:ZA z TI TO i1 i2 f1 f2) (gz:IsZip s.heap z TI TO .none) (gi:IsPair s.heap TI (.ref i1) (.ref i2)) (go:IsPair s.heap TO a b)
    (ends:k1=n1∨k1 < n1∧k2=n2) (t1:S1 k1 s.heap) (t2:S2 k2 s.heap)
    (fin:∀ h' e tk,(∀ c o,c∉[z,TO,i1,i2]→s.heap.get? c=some o→h'.get? c=some o)→(∃ o,h'.get? e=some o∧o.cls = .type "StopIteration")→E (.ref e) { s with heap:=h',toks:=tk }) :
    wpAny (model prog w) A (Builtin.«zip.__next__» ⟨[.ref z],[]⟩) Q E s:=by
  show wpAny (model prog w) A (field (.ref z) 2 >>= _) _ _ s
  refine wpAny_bind (wpAny_field gz rfl (x := .bool false) rfl ?_)
  show wpAny (model prog w) A (field (.ref z) 3 >>= _) _ _ s
  refine wpAny_bind (wpAny_field gz rfl (x := .ref TI) rfl (wpAny_bind (wpAny_seqItems gi rfl ?_)))
  show wpAny (model prog w) A (Builtin.SmallTypes.ownedTupleIsFree (.ref z) >>= _) _ _ s
  refine wpAny_bind ?_
  unfold Builtin.SmallTypes.ownedTupleIsFree
  refine wpAny_bind (wpAny_field gz rfl (x := .none) rfl (wpAny_pure ?_))
  simp only [if_true]
  refine wpAny_bind (wpAny_rule (wpAny_bind (wpAny_field gz rfl (x := .ref TO) rfl (wpAny_bind (wpAny_setField_rec gz (by simp) fun ha za ea=>wpAny_bind ?_)))))
  replace za:IsZip ha z TI TO .ellipsis:=za
  simp only [List.zipIdx_cons,List.zipIdx_nil,List.forIn_cons,List.forIn_nil]
  refine wpAny_bind (wpAny_bind (wpAny_onRaise ?_))
  show wpAny (model prog w) A (Builtin.SmallTypes.nextOf (.ref i1) >>= _) _ _ _
  have stop:∀ {h:Heap} {e:Addr},(∃ o,h.get? e=some o∧o.cls = .type "StopIteration")→IsZip h z TI TO .ellipsis→e≠z:=fun he hz q=>by
    obtain ⟨o,ho,hc⟩:=he
    rw [q,hz] at ho
    cases ho
    simp at hc
  rcases ends with rfl | ⟨l1,rfl⟩
  · refine wpAny_bind (D1.done _ _ _ (Zm D1 t1 ea Z.o1.1) fun hb e eb he => ?_)
    have zb:IsZip hb z TI TO .ellipsis:=eb _ _ Z.ii.1.symm za
    have ne:=stop he zb
    obtain ⟨o,ho,hc⟩:=he
    refine wpAny_setField_rec zb (by simp) fun hc' _ ec=>fin hc' e _ (fun c o hn q => ?_) ⟨o,ec.extBut _ _ ne ho,hc⟩
    simp at hn
    exact ec.extBut _ _ hn.1 (eb _ _ hn.2.2.1 (ea.extBut _ _ hn.1 q))
  · refine wpAny_bind (D1.item k1 _ _ _ l1 (Zm D1 t1 ea Z.o1.1) fun x hb tb px tb1 eb=>wpAny_pure ?_)
    have gb:IsPair hb TO a b:=eb.extBut _ _ Z.to.2.1 (ea.extBut _ _ Z.to.1 go)
    refine wpAny_bind (wpAny_seqItems gb rfl (wpAny_bind (wpAny_updateSeq_pair gb fun hc gc ec=>wpAny_bind (wpAny_letGo (wpAny_pure ?_)))))
    refine wpAny_bind (wpAny_bind (wpAny_onRaise ?_))
    show wpAny (model prog w) A (Builtin.SmallTypes.nextOf (.ref i2) >>= _) _ _ _
    refine wpAny_bind (D2.done _ _ _ (Zm D2 (Zm D2 (Zm D2 t2 ea Z.o2.1) eb Z.o2.2.2) ec Z.o2.2.1) fun hd e ed he => ?_)
    have zd:IsZip hd z TI TO .ellipsis:=ed _ _ Z.ii.2.1.symm (ec.extBut _ _ Z.to.1.symm (eb.extBut _ _ Z.ii.1.symm za))
    have ne:=stop he zd
    obtain ⟨o,ho,hcl⟩:=he
    refine wpAny_setField_rec zd (by simp) fun he' _ ee=>fin he' e _ (fun c o hn q => ?_) ⟨o,ee.extBut _ _ ne ho,hcl⟩
    simp at hn
    exact ee.extBut _ _ hn.1 (ed _ _ hn.2.2.2 (ec.extBut _ _ hn.2.1 (eb.extBut _ _ hn.2.2.1 (ea.extBut _ _ hn.1 q))))
theorem Qgr {a b:Value} {Q:Option Value→Shared→Prop} (D1:Draws prog w A.in1 i1 f1 n1 P1 S1) (D2:Draws prog w A.in1 i2 f2 n2 P2 S2) (Z:ZA z TI TO i1 i2 f1 f2) (gz:IsZip s.heap z TI TO .none) (gi:IsPair s.heap TI (.ref i1) (.ref i2)) (go:IsPair s.heap TO a b)
    (l1:k1 < n1) (l2:k2 < n2) (t1:S1 k1 s.heap) (t2:S2 k2 s.heap)
    (fin:∀ h' x y tk,P1 k1 x→P2 k2 y→IsZip h' z TI TO (rawInt s.heap.objs.size)→IsPair h' TO x y→S1 (k1 + 1) h'→S2 (k2 + 1) h'→IsPair h' s.heap.objs.size x y→(∀ c o,c∉[z,TO,i1,i2]→s.heap.get? c=some o→h'.get? c=some o)→Q (some (.ref s.heap.objs.size)) { s with heap:=h',toks:=tk }) :
    wpAny (model prog w) A (pyNext (.ref z)) Q E s:=by
  have ty:s.TypeIs (.ref z) "zip":=⟨_,gz,rfl⟩
  unfold pyNext
  refine wpAny_bind (wpAny_attempt (wpAny_callSpecial?_slot (name:=Str.ofString "__next__") ty F.slot_zip_next ?_))
  exact wpAny_call_entry F.slot_zip_next ty F.entry_zip_next (zn_item D1 D2 Z gz gi go l1 l2 t1 t2 fun h' x y tk p1 p2 a1 a2 a3 a4 a5 a6=>wpAny_pure (fin h' x y tk p1 p2 a1 a2 a3 a4 a5 a6)) (F.args_zip_next_1 _)
theorem QcV {a b:Value} {Q:Option Value→Shared→Prop} (D1:Draws prog w A.in1 i1 f1 n1 P1 S1) (D2:Draws prog w A.in1 i2 f2 n2 P2 S2) (Z:ZA z TI TO i1 i2 f1 f2) (gz:IsZip s.heap z TI TO .none) (gi:IsPair s.heap TI (.ref i1) (.ref i2)) (go:IsPair s.heap TO a b)
    (ends:k1=n1∨k1 < n1∧k2=n2) (t1:S1 k1 s.heap) (t2:S2 k2 s.heap) (fin:∀ h' tk,(∀ c o,c∉[z,TO,i1,i2]→s.heap.get? c=some o→h'.get? c=some o)→Q none { s with heap:=h',toks:=tk }):wpAny (model prog w) A (pyNext (.ref z)) Q E s:=by
  have ty:s.TypeIs (.ref z) "zip":=⟨_,gz,rfl⟩
  unfold pyNext
  refine wpAny_bind (wpAny_attempt (wpAny_callSpecial?_slot (name:=Str.ofString "__next__") ty F.slot_zip_next ?_))
  refine wpAny_call_entry F.slot_zip_next ty F.entry_zip_next (zn_end D1 D2 Z gz gi go ends t1 t2 fun h' e tk kp he => ?_) (F.args_zip_next_1 _)
  obtain ⟨o,ho,hc⟩:=he
  exact wpAny_bind (wpAny_isInstance (T := "StopIteration") (b:=true) ⟨o,ho,hc⟩ isSubtype_stop (wpAny_pure (fin _ _ kp)))
end
section
variable {X:Cx} {e a b c:Expr} {es:List Expr} {ms ns ls:List Nat} {m m1 m2 m3:MEx} {ma:PEnv→Option (List PV)} {pos p p1 p2 p3 pos':Pos} {x:Str} {id T:String} {tg:Expr}
theorem za_new {n t l:Nat} (h1:t < n) (h2:l < n):ZA (n + 4) (n + 2) (n + 3) n (n + 1) [n,t] [n + 1,l]:=by
  have q:∀ {u v w:Nat},u≠v→u≠w→u∉([v,w]:List Nat):=fun a b e=>by
    rcases List.mem_cons.mp e with e | e
    · exact a e
    · exact b (List.mem_singleton.mp e)
  refine ⟨⟨?_,?_,?_,?_⟩,⟨?_,?_,?_⟩,⟨?_,?_,?_⟩,⟨q ?_ ?_,q ?_ ?_,q ?_ ?_⟩,⟨q ?_ ?_,q ?_ ?_,q ?_ ?_⟩⟩
  all_goals (show (_:Nat)≠(_:Nat);omega)
end
end L2.PM

noncomputable section
namespace L2.PM
open PySem PySem.Spec PyProof.Rows
section
variable {prog:Program} {w:World} {A:Around} {E:Value→Shared→Prop} {s:Shared}
noncomputable def SetLS (prog:Program) (w:World) (L:Bool) (h:Heap) (a:Addr) (M:List Str):Prop :=
  ∃ o es ep t,h.get? a=some o∧o.ExactSet∧o.data = .set es ep t∧ElemsOf (strKind prog w) es.toList∧(∀ k,k∈M↔∃ e∈es.toList,(strKind prog w).is k e.2=true) ∧
    es.size < scanBound∧t.fits es.size=true∧es.size=M.length∧M.Nodup∧Kept L t
theorem SetLS.at {L:Bool} {h h':Heap} {a:Addr} {M:List Str} (x:SetLS prog w L h a M) (e:∀ o,h.get? a=some o→h'.get? a=some o):SetLS prog w L h' a M:=by
  obtain ⟨o,es,ep,t,ho,r⟩:=x
  exact ⟨o,es,ep,t,e o ho,r⟩
end
end L2.PM

noncomputable section
namespace L2.PM
open PySem PySem.Spec PyProof.Rows
section
variable {prog:Program} {w:World} {A:Around} {E:Value→Shared→Prop} {s:Shared}
end
end L2.PM

noncomputable section
namespace L2.PM
open PySem PySem.Spec PyProof.Rows
section
variable {X:Cx} {e a b c:Expr} {es:List Expr} {ms ns ls:List Nat} {m m1 m2 m3:MEx} {ma:PEnv→Option (List PV)} {pos p p1 p2 p3 pos':Pos} {x:Str} {id T:String}
end
end L2.PM

noncomputable section
namespace L2.PM
open PySem PySem.Spec PyProof.Rows
section
variable {X:Cx} {pos p:Pos} {x:Str}
theorem star_str {i:Str} {j:Nat} {q:Pos} {es:List Expr} {env:Env}:starEach (.Constant (.str i) j q :: es) env=(false,eval (.Constant (.str i) j q) env) :: starEach es env:=rfl
theorem Qgm {es:List Expr} {ma:PEnv→Option (List PV)} {i:Str} {j:Nat} {q:Pos} (hr:AM X [] es ma):AM X [] (.Constant (.str i) j q :: es) (Qe (mC (.str i)) ma):=Qb QaM hr star_str
end
end L2.PM

noncomputable section
namespace L2.PM
open PySem PySem.Spec PyProof.Rows
noncomputable def orH (B E:Hp):Hp:=fun b=>match B b with
  | some o=>some o
  | none=>E b
theorem Qft {B E:Hp}:Same B (orH B E):=fun b o h=>by unfold orH;rw [h]
theorem QbY {B E:Hp} {b:Addr} {o:HO} (n:B b=none) (h:E b=some o):orH B E b=some o:=by unfold orH;rw [n];exact h
theorem QaX {B E:Hp} {b:Addr} (h:orH B E b=none):B b=none∧E b=none:=by
  unfold orH at h
  cases q:B b with
  | none=>rw [q] at h;exact ⟨rfl,h⟩
  | some o=>rw [q] at h;cases h
theorem QeH {B E:Hp} {b:Addr} (h1:B b=none) (h2:E b=none):orH B E b=none:=by unfold orH;rw [h1];exact h2
theorem Qbz {B E:Hp} {b:Addr} {o:HO} (h:orH B E b=some o):B b=some o∨(B b=none∧E b=some o):=by
  unfold orH at h
  cases q:B b with
  | none=>rw [q] at h;exact .inr ⟨rfl,h⟩
  | some u=>rw [q] at h;exact .inl h
noncomputable def Qaq (γ:PEnv) (j:Nat):Option Addr:=match γ[j]? with
  | some (.fz (.opq a))=>some a
  | _=>none
theorem Qbd {γ:PEnv} {j:Nat} {a:Addr} (h:Qaq γ j=some a):γ[j]?=some (.fz (.opq a)):=by
  unfold Qaq at h
  split at h
  · rename_i b q
    cases h
    exact q
  · cases h
section
variable {τ:Type}
structure SX (K:PySem.W.Frag) (P:Hp→Hp→Addr→τ→Prop) (j:Nat) (B F₀ F E:Hp) (a:Addr) (σ:St) (H:Hp) (γ:PEnv) (t:τ):Prop where
  sr:SR K (orH B E) F₀ F σ H γ
  at_:Qaq γ j=some a
  own:P F E a t
  db:∀ b o,E b=some o→B b=none
  df:∀ b o,E b=some o→F b=none
inductive OutX (τ:Type) where
  | nx (γ:PEnv) (t:τ) | rt (p:PV) | ro (xs:List PV) | bk (γ:PEnv) (t:τ) | ct (γ:PEnv) (t:τ)
noncomputable abbrev MX (τ:Type):=PEnv→τ→Option (OutX τ)
noncomputable def OutXOk (K:PySem.W.Frag) (P:Hp→Hp→Addr→τ→Prop) (j:Nat) (B F₀:Hp) (a:Addr) (D:Ends):OutX τ→Prop
  | .nx γ t=>∀ σ H F E,SX K P j B F₀ F E a σ H γ t→D.nx σ H
  | .rt p=>∀ v H F,Grow F₀ B F H→Rep K F p v→D.rt v H
  | .ro xs=>∀ c vs H F,Grow F₀ B F H→B c=none→F c=none→H c=some (.lst vs)→RepL K F xs vs→D.rt (.ref c) H
  | .bk γ t=>∀ σ H F E,SX K P j B F₀ F E a σ H γ t→D.bk σ H
  | .ct γ t=>∀ σ H F E,SX K P j B F₀ F E a σ H γ t→D.ct σ H
noncomputable def tMX (K:PySem.W.Frag) (P:Hp→Hp→Addr→τ→Prop) (j:Nat) (m:MX τ):TS:=fun D σ H=>∃ B F₀ F E a γ t o,SX K P j B F₀ F E a σ H γ t∧m γ t=some o∧OutXOk K P j B F₀ a D o
noncomputable def XM (X:Cx) (P:Hp→Hp→Addr→τ→Prop) (j:Nat) (st:Stmt) (m:MX τ):Prop:=PS X st (tMX X.K P j m)
noncomputable def XMs (X:Cx) (P:Hp→Hp→Addr→τ→Prop) (j:Nat) (sts:List Stmt) (m:MX τ):Prop:=PSs X sts (tMX X.K P j m)
noncomputable def PMono (P:Hp→Hp→Addr→τ→Prop):Prop:=∀ (F F' E:Hp) (a:Addr) (t:τ),Same F F'→P F E a t→P F' E a t
variable {K:PySem.W.Frag} {P:Hp→Hp→Addr→τ→Prop} {j:Nat} {B F₀ F F' E H H':Hp} {a:Addr} {σ σ':St} {γ γ':PEnv} {t:τ}
theorem SX.next (S:SX K P j B F₀ F E a σ H γ t) (mono:PMono P) (S':SR K (orH B E) F₀ F' σ' H' γ') (hj:Qaq γ' j=Qaq γ j) (hF:Same F F'):SX K P j B F₀ F' E a σ' H' γ' t:=by
  refine ⟨S',hj.trans S.at_,mono _ _ _ _ _ hF S.own,S.db,fun b o e => ?_⟩
  cases q:F' b with
  | none=>rfl
  | some u =>
    rcases S'.fb b u q with z | z
    · have:=S.sr.f0 b u z
      rw [S.df b o e] at this;cases this
    · rw [QbY (S.db b o e) e] at z;cases z
end
end L2.PM

noncomputable section
namespace L2.PM
open PySem PySem.Spec PyProof.Rows
section
variable {τ:Type} {X:Cx} {K:PySem.W.Frag} {P:Hp→Hp→Addr→τ→Prop} {j:Nat} {st:Stmt} {sts:List Stmt} {e c:Expr} {ms:List Nat} {pos p2:Pos}
noncomputable def xSeq (s1 s2:MX τ):MX τ:=fun γ t=>(s1 γ t).bind fun o=>match o with
  | .nx γ' t'=>s2 γ' t'
  | o=>some o
theorem Qbv {s1 s2:MX τ} (h:XM X P j st s1) (hr:XMs X P j sts s2):XMs X P j (st :: sts) (xSeq s1 s2):=PSs.imp (QgV h hr) fun D σ H ⟨B,F₀,F,E,a,γ,t,o,S,e,ok⟩=>by
  obtain ⟨o1,e1,e2⟩:=Qg e
  refine ⟨B,F₀,F,E,a,γ,t,o1,S,e1,?_⟩
  cases o1 with
  | nx γ' t'=>exact fun σ' H' F' E' S'=>⟨B,F₀,F',E',a,γ',t',o,S',e2,ok⟩
  | rt p=>cases e2;exact ok
  | ro xs=>cases e2;exact ok
  | bk γ' t'=>cases e2;exact ok
  | ct γ' t'=>cases e2;exact ok
theorem QeC {s1:MX τ} (h:XM X P j st s1):XMs X P j [st] s1:=QiU h
noncomputable def Reads' (K:PySem.W.Frag) (P:Hp→Hp→Addr→τ→Prop) (rd:τ→Option PV):Prop:=∀ (F E:Hp) (a:Addr) (t:τ) (p:PV),(∀ b o,E b=some o→F b=none)→P F E a t→rd t=some p→Rep K (orH F E) p (.ref a)
theorem SX.see {B F₀ F E H:Hp} {a:Addr} {σ:St} {γ:PEnv} {t:τ} (S:SX K P j B F₀ F E a σ H γ t) {rd:τ→Option PV} (hr:Reads' K P rd) {p:PV} (hp:rd t=some p) (ms:List Nat):∃ F1,Same F1 H∧ERep K F1 σ (γ.set j (.fz p)) ms:=by
  obtain ⟨F1,S1,x1,er⟩:=S.sr.see (ms.filter (· != j))
  have hE:∀ b o,E b=some o→F1 b=none:=fun b o e=>by
    cases q:F1 b with
    | none=>rfl
    | some u =>
      rcases S1.fb b u q with z | z
      · have:=S.sr.f0 b u z
        rw [S.df b o e] at this;cases this
      · rw [QbY (S.db b o e) e] at z;cases z
  have hj:=Qbd S.at_
  have hjl:j < γ.length:=(List.getElem?_eq_some_iff.mp hj).1
  obtain ⟨v,hv,rv⟩:=S.sr.fz j _ hj
  unfold Rep at rv
  subst rv
  refine ⟨orH F1 E,fun b o e => ?_,fun i hi q e => ?_⟩
  · rcases Qbz e with z | ⟨z1,z2⟩
    · exact S1.sub b o z
    · exact S.sr.base b o (QbY (S.db b o z2) z2)
  · by_cases z:j=i
    · subst z
      unfold getV at e
      rw [List.getElem?_set_self hjl] at e
      cases e
      have h0:=hr F E a t p S.df S.own hp
      refine ⟨.ref a,hv,h0.mono fun b o e => ?_⟩
      rcases Qbz e with z | ⟨z1,z2⟩
      · exact Qft b o (x1 b o z)
      · exact QbY (hE b o z2) z2
    · unfold getV at e
      rw [List.getElem?_set_ne z] at e
      obtain ⟨v,k1,k2⟩:=er i (List.mem_filter.mpr ⟨hi,by simpa using fun h=>z h.symm⟩) q e
      exact ⟨v,k1,k2.mono Qft⟩
theorem SX.same {B F₀ F E H H':Hp} {a:Addr} {σ:St} {γ:PEnv} {t:τ} (S:SX K P j B F₀ F E a σ H γ t) (e:Same H H'):SX K P j B F₀ F E a σ H' γ t:=⟨S.sr.same e,S.at_,S.own,S.db,S.df⟩
end
end L2.PM

noncomputable section
namespace L2.PM
open PySem PySem.Spec PyProof.Rows
theorem Qcw {α:Type} {c:Prop} [Decidable c] {a:Option α} {r:α} (h:(if c then a else none)=some r):c∧a=some r:=by
  by_cases z:c
  · rw [if_pos z] at h;exact ⟨z,h⟩
  · rw [if_neg z] at h;cases h
noncomputable def Qbt (K:PySem.W.Frag) (E:Hp) (a:Addr):List (List PV)→List V→Prop
  | [],vs=>vs=[]
  | xs :: r,vs=>∃ h us t,vs = .ref h :: t∧h≠a∧E h=some (.lst us)∧RepL K (fun _=>none) xs us∧Qbt K E a r t
theorem Qbt.length {K:PySem.W.Frag} {E:Hp} {a:Addr}:∀ {xss:List (List PV)} {vs:List V},Qbt K E a xss vs→vs.length=xss.length
  | [],_,h=>by unfold Qbt at h;subst h;rfl
  | xs :: r,_,h=>by
    unfold Qbt at h
    obtain ⟨h1,us,t,rfl,_,_,_,h5⟩:=h
    simp [Qbt.length h5]
theorem Qbt.snoc {K:PySem.W.Frag} {E E':Hp} {a:Addr} (hE:∀ b o,b≠a→E b=some o→E' b=some o) {c:Addr} {xs:List PV} {us:List V} (hc:c≠a) (h2:E' c=some (.lst us)) (h3:RepL K (fun _=>none) xs us):∀ {xss:List (List PV)} {vs:List V},Qbt K E a xss vs→Qbt K E' a (xss++[xs]) (vs++[.ref c])
  | [],_,h=>by
    unfold Qbt at h
    subst h
    exact ⟨c,us,[],rfl,hc,h2,h3,rfl⟩
  | ys :: r,_,h=>by
    unfold Qbt at h
    obtain ⟨h1,ws,t,rfl,k2,k3,k4,k5⟩:=h
    exact ⟨h1,ws,_,rfl,k2,hE _ _ k2 k3,k4,Qbt.snoc hE hc h2 h3 k5⟩
section
variable {X:Cx} {j:Nat} {st:Stmt} {sts:List Stmt} {e c:Expr} {ms ns:List Nat} {pos p2 p3 apos cpos:Pos} {x:Str}
end
end L2.PM

noncomputable section
namespace L2.PM
open PySem PySem.Spec PyProof.Rows
section
variable {X:Cx} {o e:Expr} {es:List Expr} {ms ns:List Nat} {m:MEx} {ma:PEnv→Option (List PV)} {C:Addr} {f:Str} {pos apos:Pos}
theorem QdI {K:PySem.W.Frag} {F:Hp} {f:Str}:∀ {ks:List Str} {ps:List PV} {vs:List V} {p:PV},ks.length=vs.length→RepL K F ps vs→(ks.zip ps).lookup f=some p→∃ v,(ks.zip vs).lookup f=some v∧Rep K F p v
  | [],_,_,_,_,_,h=>by simp at h
  | k :: ks,[],_,_,_,_,h=>by simp at h
  | k :: ks,q :: ps,vs,p,hl,hr,h=>by
    unfold RepL at hr
    obtain ⟨v,t,rfl,h2,h3⟩:=hr
    simp only [List.zip_cons_cons,List.lookup_cons] at h ⊢
    cases hk:f==k with
    | true =>
      rw [hk] at h
      cases h
      exact ⟨v,rfl,h2⟩
    | false =>
      rw [hk] at h
      exact QdI (by simpa using hl) h3 h
theorem Qda {f:Str}:∀ {ks:List Str} {vs:List V},ks.contains f=false→(ks.zip vs).lookup f=none
  | [],_,_=>by simp
  | k :: ks,[],_=>by simp
  | k :: ks,v :: vs,h=>by
    rw [List.contains_cons,Bool.or_eq_false_iff] at h
    simp only [List.zip_cons_cons,List.lookup_cons,h.1]
    exact Qda h.2
variable {k n:Nat} {fa:Addr} {fd:FuncData} {ps:List Str}
end
end L2.PM

noncomputable section
namespace L2.PM
open PySem PySem.Spec PyProof.Rows
structure GrowX (F E H F' E' H':Hp):Prop where
  ext:Same F F'
  sub:Same F' H'
  esub:Same E' H'
  same:∀ b o,H b=some o→E b=none→H' b=some o
  new:∀ b o,F' b=some o→F b=some o∨H b=none∨E b≠none
  enew:∀ b o,E' b=some o→E b≠none∨H b=none
  dj:∀ b o,E' b=some o→F' b=none
section
variable {τ:Type}
noncomputable def spX (K:PySem.W.Frag) (P:Hp→Hp→Addr→τ→Prop) (n:Nat) (g:Addr→List PV→τ→Option τ):Sp:=fun vs H Q _=>vs.length=n∧∃ F E a t us qs t',vs = .ref a :: us∧Same F H∧Same E H∧(∀ b o,E b=some o→F b=none)∧P F E a t∧RepL K F qs us∧g a qs t=some t' ∧
  ∀ H' F' E',GrowX F E H F' E' H'→P F' E' a t'→Q .non H'
noncomputable def outX:OutX τ→Option τ
  | .nx _ t=>some t
  | _=>none
noncomputable def runX (N n:Nat) (m:MX τ) (a:Addr) (qs:List PV) (t:τ):Option τ:=if qs.length + 1=n then (m (ZR N (.opq a :: qs)) t).bind outX else none
noncomputable def minH (H E:Hp):Hp:=fun b=>match E b with
  | none=>H b
  | some _=>none
theorem minH_l {H E:Hp} {b:Addr} {o:HO} (h:minH H E b=some o):H b=some o∧E b=none:=by
  unfold minH at h
  cases q:E b with
  | none=>rw [q] at h;exact ⟨h,rfl⟩
  | some u=>rw [q] at h;cases h
theorem minH_of {H E:Hp} {b:Addr} {o:HO} (h:H b=some o) (n:E b=none):minH H E b=some o:=by unfold minH;rw [n];exact h
theorem QeS {H E:Hp} {b:Addr} (h:minH H E b=none):E b≠none∨H b=none:=by
  unfold minH at h
  cases q:E b with
  | none=>rw [q] at h;exact .inr h
  | some u=>exact .inl fun z=>by cases z
variable {P':Program} {w:World} {K:PySem.W.Frag} {mg:Str→Option Value} {base:Heap} {P:Hp→Hp→Addr→τ→Prop}
theorem fnX {x qual:Str} {st:Stmt} {f:Addr} {fd:FuncData} {N ps:List Str} {k n:Nat} {m:MX τ} (Fn:Fun K x qual st f fd) (Sc:FnScope N ps (Qc st)) (hn:ps.length=n)
    (hbody:∀ (cdv:Value) (A:Around) (outer:List Env) (s:Shared) (H:Hp) (E:XK),Room k (A.deeper (envOfC qual (Qc st) s.heap.objs.size f cdv)) →
      XMs (cxOf CX0 P' w K mg base N qual (Qc st) f cdv A outer s H E).nox P 0 (Qn st) m):FnOk P' w K mg base CX0 (k + 1) f fd ps (spX K P n (runX N.length n m)):=by
  refine Fn.ok Sc (fun vs H Q E h=>by rw [h.1,hn]) fun cdv A outer s H vs Q E hr h => ?_
  refine ⟨_,hbody cdv A outer s H E hr,?_⟩
  obtain ⟨hl,F,G,a,t,us,qs,t',rfl,h1,h2,h3,h4,h5,h6,wv⟩:=h
  unfold runX at h6
  have hq:qs.length + 1=n:=by rw [← h5.length];exact hl
  rw [if_pos hq] at h6
  obtain ⟨o,e1,e2⟩:=Qg h6
  have T:SR K H F F (XV N (.ref a :: us)) H (ZR N.length (.opq a :: qs)):=Qcr h1 (.cons (by unfold Rep;rfl) h5)
  have hsub:∀ b o,orH (minH H G) G b=some o→H b=some o:=fun b o e=>by
    rcases Qbz e with z | ⟨_,z⟩
    · exact (minH_l z).1
    · exact h2 b o z
  refine ⟨minH H G,F,F,G,a,_,t,o,⟨⟨T.sub,hsub,T.f0,fun b o e => .inl e,T.len,T.fz,fun i xs e => ?_,T.dj⟩,?_,h4,fun b o e => ?_,h3⟩,e1,?_⟩
  · obtain ⟨c,vs,k1,k2,k3,k4,k5⟩:=T.ow i xs e
    rw [k5] at k2;cases k2
  · unfold Qaq ZR
    rfl
  · unfold minH;rw [e]
  · cases o with
    | nx γ t2 =>
      cases e2
      intro σ' H' F' E' S
      refine wv H' F' E' ⟨S.sr.f0,S.sr.sub,fun b o e=>S.sr.base b o (QbY (S.db b o e) e),fun b o e n=>S.sr.base b o (Qft b o (minH_of e n)),fun b o e => ?_,fun b o e=>QeS (S.db b o e),S.df⟩ S.own
      rcases S.sr.fb b o e with z | z
      · exact .inl z
      · exact .inr ((QeS (QaX z).1).symm)
    | _=>cases e2
theorem frz1_fz {γ:PEnv} {i j:Nat} {p:PV} (h:γ[j]?=some (.fz p)):(PM.frz1 γ i)[j]?=some (.fz p):=by
  unfold PM.frz1
  split
  · rename_i ys e
    by_cases e':i=j
    · subst e';rw [h] at e;cases e
    · rw [List.getElem?_set_ne e'];exact h
  · exact h
theorem QiD:∀ (ms:List Nat) {γ:PEnv} {j:Nat} {p:PV},γ[j]?=some (.fz p)→(PM.frz ms γ)[j]?=some (.fz p)
  | [],_,_,_,h=>h
  | i :: ms,γ,j,p,h=>QiD ms (γ:=PM.frz1 γ i) (frz1_fz h)
theorem SX.called {K:PySem.W.Frag} {P:Hp→Hp→Addr→τ→Prop} {j:Nat} {B F₀ F' E F2 E2 H' H2:Hp} {a:Addr} {σ:St} {γ:PEnv} {t':τ} (T:SR K (orH B E) F₀ F' σ H' γ) (hat:Qaq γ j=some a) (hdb:∀ b o,E b=some o→B b=none) (G:GrowX F' E H' F2 E2 H2) (hp:P F2 E2 a t'):SX K P j B F₀ F2 E2 a σ H2 γ t':=by
  have e0:∀ b o,B b=some o→E b=none:=fun b o h=>by
    cases q:E b with
    | none=>rfl
    | some u=>rw [hdb b u q] at h;cases h
  refine ⟨⟨G.sub,fun b o e => ?_,T.f0.trans G.ext,fun b o e => ?_,T.len,fun i p e => ?_,fun i ys e => ?_,T.dj⟩,hat,hp,fun b o e => ?_,G.dj⟩
  · rcases Qbz e with z | ⟨z1,z2⟩
    · exact G.same b o (T.base b o (Qft b o z)) (e0 b o z)
    · exact G.esub b o z2
  · have hE2:E2 b=none:=by
      cases q:E2 b with
      | none=>rfl
      | some u=>rw [G.dj b u q] at e;cases e
    rcases G.new b o e with z | z | z
    · exact (T.fb b o z).imp id fun y=>QeH (QaX y).1 hE2
    · exact .inr (QeH (QaX (T.base.free z)).1 hE2)
    · refine .inr (QeH ?_ hE2)
      cases q:E b with
      | none=>exact absurd q z
      | some u=>exact hdb b u q
  · obtain ⟨v,k1,k2⟩:=T.fz i p e
    exact ⟨v,k1,k2.mono G.ext⟩
  · obtain ⟨c,ts,k1,k2,k3,k4,k5⟩:=T.ow i ys e
    obtain ⟨z1,z2⟩:=QaX k5
    refine ⟨c,ts,k1,G.same c _ k2 z2,k3.mono G.ext,?_,QeH z1 ?_⟩
    · cases q:F2 c with
      | none=>rfl
      | some u =>
        rcases G.new c u q with y | y | y
        · rw [k4] at y;cases y
        · rw [k2] at y;cases y
        · exact absurd z2 y
    · cases q:E2 c with
      | none=>rfl
      | some u =>
        rcases G.enew c u q with y | y
        · exact absurd z2 y
        · rw [k2] at y;cases y
  · rcases G.enew b o e with z | z
    · cases q:E b with
      | none=>exact absurd q z
      | some u=>exact hdb b u q
    · exact (QaX (T.base.free z)).1
end
end L2.PM

noncomputable section
namespace L2.PM
open PySem PySem.Spec PyProof.Rows
structure OT where
  ks:List Str
  ps:List PV
  mv:Option Nat
noncomputable def Qdp (km:Str) (b:Addr):Option Nat→List (Str×V)
  | none=>[]
  | some _=>[(km,.ref b)]
noncomputable def Qkr (E:Hp) (a dx b:Addr):Option Nat→Prop
  | none=>True
  | some n=>b≠a∧b≠dx∧∃ ws,E b=some (.lst ws)∧ws.length=n
noncomputable def ObjG (K:PySem.W.Frag) (C:Addr) (km:Str) (F E:Hp) (a:Addr) (t:OT):Prop:=∃ dx b vs,E a=some (.ins C dx (t.ks.zip vs++Qdp km b t.mv))∧E dx=some (.own a)∧dx≠a∧t.ks.length=vs.length∧Qkr E a dx b t.mv∧RepL K F t.ps vs
theorem QeR (K:PySem.W.Frag) (C:Addr) (km:Str):PMono (ObjG K C km):=fun _ _ _ _ _ e ⟨dx,b,vs,h1,h2,h3,h4,h5,h6⟩=>⟨dx,b,vs,h1,h2,h3,h4,h5,h6.mono e⟩
noncomputable def Qkp (C:Addr) (km:Str) (t:OT) (b:Addr):PV:=match t.mv with
  | none => .obj C t.ks t.ps
  | some _ => .obj C (t.ks++[km]) (t.ps++[.opq b])
theorem QgK {ks:List Str} {vs:List V} {km:Str} {v:V} (h:ks.length=vs.length):(ks++[km]).zip (vs++[v])=ks.zip vs++[(km,v)]:=by
  rw [List.zip_append h];rfl
theorem QhS {K:PySem.W.Frag} {C:Addr} {km:Str} {F E:Hp} {a:Addr} {t:OT} (hE:∀ b o,E b=some o→F b=none) (h:ObjG K C km F E a t):∃ b,Rep K (orH F E) (Qkp C km t b) (.ref a):=by
  obtain ⟨dx,b,vs,h1,h2,h3,h4,h5,h6⟩:=h
  refine ⟨b,?_⟩
  unfold Qkp
  cases q:t.mv with
  | none =>
    rw [q] at h1
    unfold Rep
    exact ⟨a,dx,vs,rfl,by rw [← List.append_nil (t.ks.zip vs)];exact QbY (hE _ _ h1) h1,QbY (hE _ _ h2) h2,h4,h6.mono Qft⟩
  | some n =>
    rw [q] at h1
    unfold Rep
    refine ⟨a,dx,vs++[.ref b],rfl,?_,QbY (hE _ _ h2) h2,by simp [h4],(h6.mono Qft).snoc (by unfold Rep;rfl)⟩
    rw [QgK h4]
    exact QbY (hE _ _ h1) h1
section
variable {τ:Type} {X:Cx} {P:Hp→Hp→Addr→τ→Prop} {j:Nat} {st:Stmt} {sts:List Stmt} {e c:Expr} {ms ns:List Nat} {pos p2:Pos}
noncomputable def allB {α:Type} (f:Addr→Option α):Option α:=open Classical in if h:∃ k,∀ b,f b=some k then some (Classical.choose h) else none
theorem Qhy {α:Type} {f:Addr→Option α} {k:α} (h:allB f=some k) (b:Addr):f b=some k:=by
  unfold allB at h
  split at h
  · rename_i q
    cases h
    exact Classical.choose_spec q b
  · cases h
theorem allB_ok {α:Type} {f:Addr→Option α} {k:α} (h:∀ b,f b=some k):allB f=some k:=by
  unfold allB
  have q:∃ k,∀ b,f b=some k:=⟨k,h⟩
  rw [dif_pos q]
  have:=Classical.choose_spec q 0
  rw [h 0] at this
  exact this.symm
end
end L2.PM

noncomputable section
namespace L2.PM
open PySem PySem.Spec PyProof.Rows
theorem QjS {F E H:Hp} {c:Addr} {o0 o:HO} (h1:Same F H) (h2:Same E H) (h3:∀ b o,E b=some o→F b=none) (hc:E c=some o0):GrowX F E H F (upd E c o) (upd H c o):=by
  have cF:=h3 c o0 hc
  refine ⟨Same.refl _,fun b u e => ?_,fun b u e => ?_,fun b u e n => ?_,fun b u e => .inl e,fun b u e => ?_,fun b u e => ?_⟩
  · rw [Qt (Qu e cF)];exact h1 b u e
  · by_cases z:b=c
    · subst z;rw [Qv] at e ⊢;exact e
    · rw [Qt z] at e ⊢;exact h2 b u e
  · rw [Qt fun z=>by subst z;rw [hc] at n;cases n];exact e
  · by_cases z:b=c
    · subst z;exact .inl (by rw [hc];exact fun q=>by cases q)
    · rw [Qt z] at e;exact .inl (by rw [e];exact fun q=>by cases q)
  · by_cases z:b=c
    · subst z;exact cF
    · rw [Qt z] at e;exact h3 b u e
theorem QgT {f:Str} {y:V} {tl:List (Str×V)}:∀ {ks:List Str} {vs:List V} {i:Nat},ks.length=vs.length→ks[i]?=some f→f∉ks.take i→putF f y (ks.zip vs++tl)=ks.zip (vs.set i y)++tl
  | [],vs,i,_,h,_=>by simp at h
  | k :: ks,[],i,h,_,_=>by simp at h
  | k :: ks,v :: vs,0,_,h,_=>by
    simp at h
    subst h
    simp [putF]
  | k :: ks,v :: vs,i + 1,hl,h,hn=>by
    rw [List.take_succ_cons,List.mem_cons,not_or] at hn
    have ih:=QgT (f:=f) (y:=y) (tl:=tl) (ks:=ks) (vs:=vs) (i:=i) (by simpa using hl) (by simpa using h) hn.2
    simp only [List.zip_cons_cons,List.set_cons_succ,List.cons_append,putF]
    rw [if_neg (fun z=>hn.1 z.symm),ih]
theorem QgU {f:Str} {y:V}:∀ {ks:List Str} {vs:List V},ks.length=vs.length→f∉ks→putF f y (ks.zip vs)=ks.zip vs++[(f,y)]
  | [],[],_,_=>rfl
  | [],_ :: _,h,_=>by simp at h
  | _ :: _,[],h,_=>by simp at h
  | k :: ks,v :: vs,h,hn=>by
    rw [List.mem_cons,not_or] at hn
    have ih:=QgU (f:=f) (y:=y) (ks:=ks) (vs:=vs) (by simpa using h) hn.2
    simp only [List.zip_cons_cons,List.cons_append,putF]
    rw [if_neg (fun z=>hn.1 z.symm),ih]
section
variable {X:Cx} {j:Nat} {st:Stmt} {sts:List Stmt} {e c:Expr} {ms ns:List Nat} {pos p2:Pos} {C:Addr} {km f:Str}
noncomputable def QcG (ks:List Str) (f:Str):Option Nat:=ks.findIdx? (·==f)
noncomputable def putT (f:Str) (r:PV) (t:OT):Option OT:=if t.ks.length < 900 then match QcG t.ks f with
  | some i=>some ⟨t.ks,t.ps.set i r,t.mv⟩
  | none=>match t.mv with
    | none=>some ⟨t.ks++[f],t.ps++[r],none⟩
    | some _=>none
  else none
noncomputable def Qdk (ms:List Nat) (f:Str) (m:MEx):MX OT:=fun γ t=>(m γ).bind fun r=>(putT f r t).map fun t' => .nx (frz ms γ) t'
theorem QfG {ks:List Str} {i:Nat} (h:QcG ks f=some i):ks[i]?=some f∧f∉ks.take i:=by
  unfold QcG at h
  rw [List.findIdx?_eq_some_iff_getElem] at h
  obtain ⟨h1,h2,h3⟩:=h
  refine ⟨by rw [List.getElem?_eq_getElem h1,beq_iff_eq.mp h2],fun z => ?_⟩
  obtain ⟨k,hk,e⟩:=List.mem_iff_getElem.mp z
  rw [List.getElem_take] at e
  rw [List.length_take] at hk
  have:=h3 k (by omega)
  rw [e] at this
  simp at this
theorem QfH {ks:List Str} (h:QcG ks f=none):f∉ks:=by
  unfold QcG at h
  rw [List.findIdx?_eq_none_iff] at h
  intro z
  have:=h f z
  simp at this
theorem put_ok {K:PySem.W.Frag} {F E:Hp} {a dx b:Addr} {t t':OT} {vs:List V} {r:PV} {y:V} (hp:putT f r t=some t') (h1:E a=some (.ins C dx (t.ks.zip vs++Qdp km b t.mv))) (h2:E dx=some (.own a)) (h3:dx≠a) (h4:t.ks.length=vs.length) (h5:Qkr E a dx b t.mv) (h6:RepL K F t.ps vs) (hy:Rep K F r y) :
    (t.ks.zip vs++Qdp km b t.mv).length < 1000∧ObjG K C km F (upd E a (.ins C dx (putF f y (t.ks.zip vs++Qdp km b t.mv)))) a t':=by
  unfold putT at hp
  obtain ⟨hl,hp⟩:=Qcw hp
  have hz:(t.ks.zip vs++Qdp km b t.mv).length < 1000:=by
    rw [List.length_append,List.length_zip]
    have:(Qdp km b t.mv).length≤1:=by cases t.mv <;> simp [Qdp]
    omega
  refine ⟨hz,?_⟩
  have hdx:upd E a (.ins C dx (putF f y (t.ks.zip vs++Qdp km b t.mv))) dx=some (.own a):=by rw [Qt h3];exact h2
  have hlast:∀ mv,Qkr E a dx b mv→Qkr (upd E a (.ins C dx (putF f y (t.ks.zip vs++Qdp km b t.mv)))) a dx b mv:=fun mv h=>by
    cases mv with
    | none=>trivial
    | some n =>
      obtain ⟨q1,q2,ws,q3,q4⟩:=h
      exact ⟨q1,q2,ws,by rw [Qt q1];exact q3,q4⟩
  split at hp
  · rename_i i hi
    cases hp
    obtain ⟨k1,k2⟩:=QfG hi
    refine ⟨dx,b,vs.set i y,?_,hdx,h3,by rw [List.length_set];exact h4,hlast _ h5,h6.set i hy⟩
    rw [Qv,QgT h4 k1 k2]
  · rename_i hi
    split at hp
    · rename_i hm
      cases hp
      refine ⟨dx,b,vs++[y],?_,hdx,h3,by simp [h4],trivial,h6.snoc hy⟩
      rw [Qv,hm]
      show some (HO.ins C dx (putF f y (t.ks.zip vs++[])))=some (HO.ins C dx ((t.ks++[f]).zip (vs++[y])++[]))
      rw [List.append_nil,List.append_nil,QgU h4 (QfH hi),QgK h4]
    · cases hp
theorem xm_fset (hc:Cls X.K C) (hn:QbI X.K C f) {m:MEx} (ps:PS X st (sFld X.K (tVar j) (tM X.K ms m) f)):XM X (ObjG X.K C km) j st (Qdk ms f m):=PS.imp ps fun D σ H ⟨B,F₀,F,E,a,γ,t,o,S,e,ok⟩=>by
  obtain ⟨r,e1,e⟩:=Qg e
  obtain ⟨t',e2,rfl⟩:=Yl e
  obtain ⟨v,hv,rv⟩:=S.sr.fz j _ (Qbd S.at_)
  unfold Rep at rv
  subst rv
  obtain ⟨F1,S1,x1,er⟩:=S.sr.see ms
  refine ⟨F1,γ,r,S1.sub,er,e1,fun y H' F' gr q => ?_⟩
  have T:=S1.grow gr
  have hat:Qaq (PM.frz ms γ) j=some a:=by
    have:=QiD ms (Qbd S.at_)
    unfold Qaq
    rw [this]
  have SX1:=S.next (QeR X.K C km) T (hat.trans S.at_.symm) (x1.trans gr.ext)
  have hE:Same E H':=fun b o e=>gr.same b o (S.sr.base b o (QbY (S.db b o e) e))
  obtain ⟨dx,b,vs,h1,h2,h3,h4,h5,h6⟩:=SX1.own
  obtain ⟨hz,hp⟩:=put_ok e2 h1 h2 h3 h4 h5 h6 q
  refine ⟨.ref a,hv,a,C,dx,_,rfl,hE _ _ h1,hc,hn,hz,?_⟩
  exact ok σ _ F' _ (SX.called T hat S.db (QjS gr.sub hE SX1.df h1) hp)
end
end L2.PM

noncomputable section
namespace L2.PM
open PySem PySem.Spec PyProof.Rows
section
variable {X:Cx} {j:Nat} {st:Stmt} {sts:List Stmt} {e c:Expr} {ms ns:List Nat} {pos p2:Pos} {C:Addr} {km f:Str}
theorem opq_frz {γ:PEnv} {a:Addr} (ms:List Nat) (h:Qaq γ j=some a):Qaq (PM.frz ms γ) j=some a:=by
  have:=QiD ms (Qbd h)
  unfold Qaq
  rw [this]
end
end L2.PM

noncomputable section
namespace L2.PM
open PySem PySem.Spec PyProof.Rows
section
variable {X:Cx} {j n:Nat} {st:Stmt} {sts:List Stmt} {e c:Expr} {ms ns:List Nat} {pos p2:Pos} {C:Addr} {km f:Str}
end
end L2.PM

noncomputable section
namespace L2.PM
open PySem PySem.Spec PyProof.Rows
section
variable {τ:Type} {X:Cx} {K:PySem.W.Frag} {P:Hp→Hp→Addr→τ→Prop} {j:Nat} {ms:List Nat} {pos:Pos}
theorem SX.up {B F₀ F F1 E H:Hp} {a:Addr} {σ:St} {γ:PEnv} {t:τ} (S:SX K P j B F₀ F E a σ H γ t) (e1:Same F₀ F1) (e:Same F1 F):SX K P j B F1 F E a σ H γ t:=⟨S.sr.up e1 e,S.at_,S.own,S.db,S.df⟩
theorem SX.down {B F₀ F F1 E H:Hp} {a:Addr} {σ:St} {γ:PEnv} {t:τ} (S:SX K P j B F1 F E a σ H γ t) (e1:Same F₀ F1) (fb1:∀ b o,F1 b=some o→F₀ b=some o∨(B b=none∧E b=none)):SX K P j B F₀ F E a σ H γ t :=
  ⟨S.sr.down e1 fun b o e=>(fb1 b o e).imp id fun z=>QeH z.1 z.2,S.at_,S.own,S.db,S.df⟩
end
end L2.PM

noncomputable section
namespace L2.PM
open PySem PySem.Spec PyProof.Rows
noncomputable def Qdr (P:Program) (w:World) (K:PySem.W.Frag) (mg:Str→Option Value) (base:Heap) (k:Nat) (C:Addr) (m:Str) (n:Nat) (g:List PV→Option PV):Prop :=
  ∃ f fd ps,FnOk P w K mg base CX0 k f fd ps (spM K n g)∧Cls K C∧Meth K C m f∧YR K fd ps []
noncomputable def Qds (P:Program) (w:World) (K:PySem.W.Frag) (mg:Str→Option Value) (base:Heap) (k:Nat) (C:Addr) (km x:Str) (n:Nat) (g:Addr→List PV→OT→Option OT):Prop :=
  ∃ f fd ps,FnOk P w K mg base CX0 k f fd ps (spX K (ObjG K C km) n g)∧Mk K C f∧mg x=some (.ref C)∧YR K fd ps []
noncomputable def CFld (K:PySem.W.Frag) (C:Addr) (f:Str):Prop:=Cls K C∧QbI K C f
theorem QaV {τ:Type} {N n:Nat} {m:MX τ}:∀ a qs t t',runX N n m a qs t=some t'→qs.length + 1=n:=fun a qs t t' h=>by
  unfold runX at h
  by_cases c:qs.length + 1=n
  · exact c
  · rw [if_neg c] at h;cases h
noncomputable def Qcl:List PV→Option PV:=fun qs=>open Classical in if ∃ ns:List Int,ns.length≤63∧qs=[.lst (ns.map .int)] then some (.bl true) else none
theorem trueOn_ok (ns:List Int) (h:ns.length≤63):Qcl [.lst (ns.map .int)]=some (.bl true):=if_pos ⟨ns,h,rfl⟩
theorem QhJ {g:List PV→Option PV} (h:∀ ns:List Int,ns.length≤63→g [.lst (ns.map .int)]=some (.bl true)) {qs:List PV} {r:PV} (e:Qcl qs=some r):g qs=some r:=by
  unfold Qcl at e
  split at e
  · rename_i q
    obtain ⟨ns,hn,rfl⟩:=q
    cases e
    exact h ns hn
  · cases e
section
variable {X:Cx} {o e:Expr} {es:List Expr} {sts:List Stmt} {ms ns:List Nat} {m mo:MEx} {ma:PEnv→Option (List PV)} {C:Addr} {f mm km x y:Str} {p p1 p2 p3 pos apos cpos:Pos} {k n j:Nat}
theorem Qfq (hx:PE X (.Name x p3) (tVar j)) (c:CFld X.K C f) (h:EM X ms e m) (hs:swapsWith e (some (.Attribute (.Name x p3) f p2)) pos.line X.env=pure false:=by rfl):XM X (ObjG X.K C km) j (.Assign [.Attribute (.Name x p3) f p2] e pos) (Qdk ms f m) :=
  xm_fset c.1 c.2 (ps_fld hx h hs)
end
end L2.PM

noncomputable section
namespace L2.PM
open PySem PySem.Spec PyProof.Rows
end L2.PM
namespace L2.PM
open PySem PySem.Spec PyProof.Rows
section
variable {X:Cx}
end
end L2.PM

noncomputable section
namespace L2.PM
open PySem PySem.Spec PyProof.Rows
noncomputable def famC (l:List Addr) (i:Nat):Addr:=l.getD i 0
noncomputable def mkK (C:Addr) (t:OT):Option PV:=match t.mv with
  | none=>some (.obj C t.ks t.ps)
  | some _=>none
noncomputable def mNew (C:Addr) (g:Addr→List PV→OT→Option OT) (ma:PEnv→Option (List PV)):MEx:=fun γ=>(ma γ).bind fun qs=>(allB fun a=>g a qs ⟨[],[],none⟩).bind (mkK C)
noncomputable def fldS (Cs:List Addr) (f:Str):PV→Option PV
  | .obj D ks ps=>if Cs.contains D=true then (ks.zip ps).lookup f else none
  | _=>none
noncomputable def Qar (Cs:List Addr) (f:Str) (m:MEx):MEx:=fun γ=>(m γ).bind (fldS Cs f)
noncomputable def famK (tab:List (Addr×(List PV→Option PV))) (f:Str):PV→Option (List PV→Option PV)
  | .obj D ks _=>if ks.contains f=false then tab.lookup D else none
  | _=>none
noncomputable def Qgf (tab:List (Addr×(List PV→Option PV))) (f:Str) (m:MEx) (ma:PEnv→Option (List PV)):MEx:=fun γ=>(m γ).bind fun q=>(famK tab f q).bind fun g=>(ma γ).bind fun ps=>g (q :: ps)
noncomputable def isiS (tab:List (Addr×Bool)):PV→Option PV
  | .obj D _ _=>(tab.lookup D).map .bl
  | _=>none
noncomputable def QcI (tab:List (Addr×Bool)) (m:MEx):MEx:=fun γ=>(m γ).bind (isiS tab)
noncomputable def baseK (g:Addr→List PV→OT→Option OT) (a:Addr) (t:OT):List PV→Option OT
  | .opq b :: rs=>if b=a then g a rs t else none
  | _=>none
noncomputable def Qeq (j:Nat) (ms:List Nat) (g:Addr→List PV→OT→Option OT) (ma:PEnv→Option (List PV)):MX OT:=fun γ t=>(ma γ).bind fun qs=>(Qaq γ j).bind fun a=>(baseK g a t qs).map fun t' => .nx (frz ms γ) t'
end L2.PM
namespace L2.PM
open PySem PySem.Spec PyProof.Rows
theorem famA {P:Addr→Prop} {a:Addr} {t:List Addr} (h1:P a) (h2:∀ D,D∈t→P D):∀ D,D∈a :: t→P D:=fun D h=>by
  rcases List.mem_cons.mp h with rfl | h
  · exact h1
  · exact h2 D h
theorem Qdw {α:Type} {P:Addr→α→Prop}:∀ D g,([]:List (Addr×α)).lookup D=some g→P D g:=fun D g h=>by simp at h
theorem QN {α:Type} {P:Addr→α→Prop} {a:Addr} {x:α} {t:List (Addr×α)} (h1:P a x) (h2:∀ D g,t.lookup D=some g→P D g):∀ D g,((a,x) :: t).lookup D=some g→P D g:=fun D g h=>by
  rw [List.lookup_cons] at h
  cases q:D==a with
  | true =>
    rw [q] at h
    cases h
    rw [beq_iff_eq.mp q]
    exact h1
  | false=>rw [q] at h;exact h2 D g h
noncomputable def CalR (X:Cx) (C:Addr) (m:Str) (n:Nat) (g:List PV→Option PV):Prop:=∃ k,Qdr X.prog X.w X.K X.mg X.base k C m n g∧Room k X.A
structure IsiC (K:PySem.W.Frag) (T C:Addr) (b:Bool):Prop where
  cl:Cls K C
  ha:PySem.W.findIn K (.ref C) "__class__"=some (some (.builtin "object.__class__"))
  hn:PySem.W.specialIn K (.builtin "object.__class__") "__get__"=some (some (.builtin "getset_descriptor.__get__"))
  htk:PySem.W.takesIn K (.builtin "object.__class__")=some true
  hm:PySem.W.mroIn K C (.type "object")=some true
  one:PySem.W.kitOne K (.ref C) (.ref T)=some b
theorem Qer {K:PySem.W.Frag} {T C:Addr} (h1:PySem.W.isClsIn K T=true) (h2:PySem.W.typeIn K (.ref T)=some (.type "type")) (h3:PySem.W.mroIn K C (.ref T)=some true):PySem.W.kitOne K (.ref C) (.ref T)=some true:=by
  unfold PySem.W.kitOne
  split
  · rfl
  · show (if ((PySem.W.clsIn K T).isSome&&PySem.W.typeIn K (.ref T)==some (.type "type"))=true then PySem.W.subIn K (.ref C) (.ref T) else none)=_
    rw [if_pos (by rw [h2,show (PySem.W.clsIn K T).isSome=true from h1];decide +kernel)]
    exact h3
theorem Qbu {K:PySem.W.Frag} {T C:Addr} (h1:PySem.W.isClsIn K T=true) (h2:PySem.W.typeIn K (.ref T)=some (.type "type")) (h3:PySem.W.mroIn K C (.ref T)=some false) (hn:(C==T)=false):PySem.W.kitOne K (.ref C) (.ref T)=some false:=by
  unfold PySem.W.kitOne
  rw [if_neg (fun h=>by
    have:Value.ref C=Value.ref T:=beq_iff_eq.mp h
    cases this
    simp at hn)]
  show (if ((PySem.W.clsIn K T).isSome&&PySem.W.typeIn K (.ref T)==some (.type "type"))=true then PySem.W.subIn K (.ref C) (.ref T) else none)=_
  rw [if_pos (by rw [h2,show (PySem.W.clsIn K T).isSome=true from h1];decide +kernel)]
  exact h3
noncomputable def CalB (P:Program) (w:World) (K:PySem.W.Frag) (mg:Str→Option Value) (base:Heap) (k:Nat) (C:Addr) (km x m:Str) (n:Nat) (g:Addr→List PV→OT→Option OT):Prop :=
  ∃ f fd ps B,FnOk P w K mg base CX0 k f fd ps (spX K (ObjG K C km) n g)∧mg x=some (.ref B)∧PySem.W.specialIn K (.ref B) "__getattribute__"=some (some (.builtin "type.__getattribute__"))∧PySem.W.readsIn K B (.type "type")=true ∧
    PySem.W.findCls K (.ref B) (.type "type") m=some (.val (.ref f))∧PySem.W.keepIn K (.ref f)=true∧YR K fd ps []
section
variable {X:Cx} {o e:Expr} {es:List Expr} {sts:List Stmt} {ms ns:List Nat} {m mo:MEx} {ma:PEnv→Option (List PV)} {C:Addr} {f mm km x y:Str} {p p1 p2 p3 pos apos cpos:Pos} {k n j:Nat}
theorem Qgh {g:Addr→List PV→OT→Option OT} (c:Qds X.prog X.w X.K X.mg X.base k C km x n g) (hn:∀ a qs t t',g a qs t=some t'→qs.length + 1=n) (hr:Room (k + 1) X.A) (hg:Gl X x)
    (ha:AM X ms (e :: es) ma) (hdb:(x==("__debug__":Str))=false:=by decide) (he:starEach (e :: es) X.env=(false,eval e X.env) :: starEach es X.env:=by rfl) (hpl:(backTo cpos (starEach es X.env)).any (·.1)=false:=by rfl) :
    EM X ms (.Call (.Name x p) (e :: es) [] cpos) (mNew C g ma):=by
  obtain ⟨f,fd,ps,F,M,hm,hbd⟩:=c
  refine PE.imp (pe_make (E:=E0) M F hr hg hm hbd .nil Qgt ha hdb he hpl) fun σ H Q ⟨F,γ,r,k1,k2,k3,w⟩ => ?_
  obtain ⟨qs,e1,k3⟩:=Qg k3
  obtain ⟨t,e2,e3⟩:=Qg k3
  refine ⟨F,γ,qs,k1,k2,e1,fun us H' F' gr q x dx nx ndx hdx => ?_⟩
  rw [List.append_nil]
  generalize hHn:upd (upd H' dx (.own x)) x (.ins C dx [])=Hn
  generalize hEn:upd (upd (fun _=>none) dx (.own x)) x (HO.ins C dx [])=En
  have sH:Same H' Hn:=fun b u e=>by
    rw [← hHn,Qt (Qu e nx),Qt (Qu e ndx)];exact e
  have Ex:En x=some (.ins C dx []):=by rw [← hEn];exact Qv
  have Ed:En dx=some (.own x):=by rw [← hEn,Qt hdx];exact Qv
  have Eg:∀ b u,En b=some u→b=x∨b=dx:=fun b u e=>by
    by_cases z1:b=x
    · exact .inl z1
    by_cases z2:b=dx
    · exact .inr z2
    rw [← hEn,Qt z1,Qt z2] at e
    cases e
  have sE:Same En Hn:=fun b u e=>by
    rcases Eg b u e with rfl | rfl
    · rw [Ex] at e;cases e;rw [← hHn];exact Qv
    · rw [Ed] at e;cases e;rw [← hHn,Qt hdx];exact Qv
  have nE:∀ b u,H' b=some u→En b=none:=fun b u e=>by
    cases y:En b with
    | none=>rfl
    | some w =>
      rcases Eg b w y with rfl | rfl
      · rw [nx] at e;cases e
      · rw [ndx] at e;cases e
  have Edis:∀ b u,En b=some u→F' b=none:=fun b u e=>by
    cases y:F' b with
    | none=>rfl
    | some w=>rw [nE b w (gr.sub b w y)] at e;cases e
  have hnl:=hn _ _ _ _ (Qhy e2 x)
  have free:∀ b,H' b=none→H b=none:=fun b e=>by
    cases y:H b with
    | none=>rfl
    | some u=>rw [gr.same b u y] at e;cases e
  have free2:∀ b,(En b≠none∨Hn b=none)→H b=none:=fun b e=>by
    refine free b ?_
    cases y:H' b with
    | none=>rfl
    | some u =>
      rcases e with z | z
      · exact absurd (nE b u y) z
      · rw [sH b u y] at z;cases z
  refine ⟨by rw [List.length_cons,q.length];exact hnl,F',En,x,⟨[],[],none⟩,us,qs,t,rfl,gr.sub.trans sH,sE,Edis,⟨dx,x,[],Ex,Ed,hdx,rfl,trivial,.nil⟩,q,Qhy e2 x,fun H2 F2 E2 G hp=>⟨rfl,?_⟩⟩
  obtain ⟨b,hb⟩:=QhS G.dj hp
  have er:Qkp C km t b=r:=by
    unfold mkK at e3
    unfold Qkp
    revert e3
    cases t.mv with
    | none=>intro e3;exact Option.some.inj e3
    | some n=>intro e3;cases e3
  rw [er] at hb
  refine w (.ref x) H2 (orH F2 E2) ⟨fun b u e=>Qft b u (G.ext b u (gr.ext b u e)),fun b u e => ?_,fun b u e => ?_,fun b u e => ?_⟩ hb
  · rcases Qbz e with z | ⟨_,z⟩
    · exact G.sub b u z
    · exact G.esub b u z
  · have:=gr.same b u e
    exact G.same b u (sH b u this) (nE b u this)
  · rcases Qbz e with z | ⟨_,z⟩
    · rcases G.new b u z with y | y | y
      · exact gr.new b u y
      · exact .inr (free2 b (.inr y))
      · exact .inr (free2 b (.inl y))
    · exact .inr (free2 b (G.enew b u z))
theorem Ys {Cs:List Addr} (h:EM X ms o m) (hall:∀ D,D∈Cs→CFld X.K D f) (hb:attributeBase o f X.env (eval o X.env)=eval o X.env:=by rfl):EM X ms (.Attribute o f pos) (Qar Cs f m) :=
  PE.imp (pe_fld h hb) fun σ H Q ⟨F,γ,r,k1,k2,k3,w⟩=>by
    obtain ⟨q,e1,e2⟩:=Qg k3
    refine ⟨F,γ,q,k1,k2,e1,fun v H1 F1 g1 q1 => ?_⟩
    cases q with
    | obj D ks ps =>
      obtain ⟨hD,e2⟩:=Qcw (show (if Cs.contains D=true then (ks.zip ps).lookup f else none)=some r from e2)
      obtain ⟨hc,hn⟩:=hall D (by simpa using hD)
      unfold Rep at q1
      obtain ⟨a,dx,vs,rfl,h2,h3,h4,h5⟩:=q1
      obtain ⟨v',l,rv⟩:=QdI h4 h5 e2
      exact ⟨a,D,dx,_,v',rfl,g1.sub _ _ h2,hc,hn,l,w _ _ _ g1 rv⟩
    | _=>cases e2
noncomputable def tMethS (X:Cx) (m:Str) (ta:TE) (t:TA):TE:=fun σ H Q=>ta σ H fun x H1=>∃ a C dx fs f fd ps sp k,x = .ref a∧H1 a=some (.ins C dx fs)∧fs.lookup m=none∧Cls X.K C∧Meth X.K C m f∧FnOk X.prog X.w X.K X.mg X.base CX0 k f fd ps sp∧Room k X.A∧YR X.K fd ps [] ∧
  t σ H1 fun vs H2=>sp (.ref a :: (vs++[])) H2 Q E0
theorem Qjz {ta:TE} {pl:Sem Bool} (he:PE X o ta)
    (ht:eval (.Call (.Attribute o mm apos) [] [] pos) X.env=(do
      let ov ← eval o X.env
      standAt apos.atName
      let (f,first) ← holding [ov] (getMethod ov mm pl)
      callWith pos f first (backTo pos (starEach [] X.env)) (backToKw pos (keywordEach [] X.env))):=by rfl) :
    PE X (.Call (.Attribute o mm apos) [] [] pos) (tMethS X mm ta tNil):=by
  intro pins s σ H Q I h
  refine PySem.W.methodCall_KW (pl:=pl) (thn (he pins s σ H _ I h) fun u s1 ⟨x,H1,I1,rx,a,C,dx,fs,f,fd,ps,sp,k,ex,ea,l,c,hm,F,hr,hb,q⟩ => ?_) ht
  subst ex
  obtain rfl:u=Value.ref a:=rx
  refine Qie I1 ea c hm l ?_
  exact PySem.W.callWith_K0 (first:=[.ref a]) I1.kIn hm.kp (Qix (us:=[.ref a]) (vs:=[.ref a]) F hr hb .nil Qgt I1 (.cons rfl .nil) q)
theorem famK_get {tab:List (Addr×(List PV→Option PV))} {q:PV} {g:List PV→Option PV} (h:famK tab f q=some g):∃ D ks ps,q = .obj D ks ps∧ks.contains f=false∧tab.lookup D=some g:=by
  cases q with
  | obj D ks ps =>
    obtain ⟨h1,h2⟩:=Qcw (show (if ks.contains f=false then tab.lookup D else none)=some g from h)
    exact ⟨D,ks,ps,rfl,h1,h2⟩
  | _=>cases h
theorem Qka {tab:List (Addr×(List PV→Option PV))} {pl:Sem Bool} (h:EM X ms o mo) (hall:∀ D g,tab.lookup D=some g→CalR X D mm n g∧∀ ps r,g ps=some r→ps.length=n)
    (ht:eval (.Call (.Attribute o mm apos) [] [] pos) X.env=(do
      let ov ← eval o X.env
      standAt apos.atName
      let (f,first) ← holding [ov] (getMethod ov mm pl)
      callWith pos f first (backTo pos (starEach [] X.env)) (backToKw pos (keywordEach [] X.env))):=by rfl) :
    EM X ms (.Call (.Attribute o mm apos) [] [] pos) (Qgf tab mm mo aNil) :=
  PE.imp (Qjz h ht) fun σ H Q ⟨F,γ,r,k1,k2,k3,w⟩=>by
    obtain ⟨q,e1,k3⟩:=Qg k3
    obtain ⟨g,e4,k3⟩:=Qg k3
    have k3:g [q]=some r:=k3
    obtain ⟨D,ks,qs,rfl,hk,hl⟩:=famK_get e4
    obtain ⟨⟨k,⟨fa,fd,ps,FO,hc,hm,hb⟩,hr⟩,hn⟩:=hall D g hl
    refine ⟨F,γ,_,k1,k2,e1,fun v H1 F1 g1 q1 => ?_⟩
    have q0:=q1
    unfold Rep at q1
    obtain ⟨a,dx,vs,rfl,h2,h3,h4,h5⟩:=q1
    refine ⟨a,D,dx,_,fa,fd,ps,_,k,rfl,g1.sub _ _ h2,Qda hk,hc,hm,FO,hr,hb,?_⟩
    exact ⟨by have:=hn _ _ k3;simpa using this,F1,_,r,g1.sub,.cons q0 .nil,k3,w.go g1⟩
theorem Qkj:Xv X (.builtin "isinstance") (fun vs H Q=>∃ v T t b,vs=[v,.ref T]∧TyOf X.K H v t∧PySem.W.kitOne X.K t (.ref T)=some b∧Q (.bl b) H):=by
  intro pins s σ H vs us Q I rs h
  obtain ⟨v,T,t,b,rfl,h1,h2,h3⟩:=h
  obtain ⟨u,w,rfl,ru,rw'⟩:=vals2 rs
  obtain rfl:w=Value.ref T:=rw'
  exact QjK I ru h1 h2 fun tk=>⟨.bl b,H,I.tok tk,rfl,h3⟩
theorem XQ {tab:List (Addr×Bool)} {T:Addr} (hall:∀ D b,tab.lookup D=some b→IsiC X.K T D b) (h:EM X ms e m) (hg:Gl X "isinstance") (hm:X.mg "isinstance"=none) (hgT:Gl X x) (hmT:X.mg x=some (.ref T))
    (hdb:(x==("__debug__":Str))=false:=by decide)
    (hs1:starEach (e :: [.Name x p3]) X.env=(false,eval e X.env) :: starEach [.Name x p3] X.env:=by rfl) (hs2:starEach [.Name x p3] X.env=(false,eval (.Name x p3) X.env) :: starEach [] X.env:=by rfl) (hpl:(backTo pos (starEach [.Name x p3] X.env)).any (·.1)=false:=by rfl) :
    EM X ms (.Call (.Name "isinstance" p2) [e,.Name x p3] [] pos) (QcI tab m) :=
  PE.imp (Qct Qkj hg hm (by kernel_rfl) (Qby h (Qby (QiW (v := .ref T) hgT hmT rfl hdb) QfX hs2) hs1) (by decide) (by decide) hs1 hpl) fun σ H Q ⟨F,γ,r,k1,k2,k3,w⟩=>by
    obtain ⟨q,e1,e2⟩:=Qg k3
    refine ⟨F,γ,q,k1,k2,e1,fun v H1 F1 g1 q1 => ?_⟩
    cases q with
    | obj D ks ps =>
      obtain ⟨b,eb,rfl⟩:=Yl (show (tab.lookup D).map PV.bl=some r from e2)
      have i:=hall D b eb
      unfold Rep at q1
      obtain ⟨a,dx,vs,rfl,h2,h3,h4,h5⟩:=q1
      exact ⟨.ref a,T,_,b,rfl,.ins (g1.sub _ _ h2) i.cl i.ha i.hn i.htk i.hm,i.one,(w.go g1).here g1.sub (ZS _)⟩
    | _=>cases e2
theorem pe_cls {B fa:Addr} {fd:FuncData} {ps:List Str} {sp:Sp} {t:TA} {pl:Sem Bool} (F:FnOk X.prog X.w X.K X.mg X.base CX0 k fa fd ps sp) (hr:Room k X.A) (hg:Gl X x) (hm:X.mg x=some (.ref B))
    (h1:PySem.W.specialIn X.K (.ref B) "__getattribute__"=some (some (.builtin "type.__getattribute__"))) (h2:PySem.W.readsIn X.K B (.type "type")=true) (h3:PySem.W.findCls X.K (.ref B) (.type "type") mm=some (.val (.ref fa))) (hk:PySem.W.keepIn X.K (.ref fa)=true) (hb:YR X.K fd ps [])
    (ha:PA X (e :: es) t) (hdb:(x==("__debug__":Str))=false:=by decide) (hst:starEach (e :: es) X.env=(false,eval e X.env) :: starEach es X.env:=by rfl) (hpl:(backTo pos (starEach es X.env)).any (·.1)=false:=by rfl)
    (ht:eval (.Call (.Attribute (.Name x p) mm apos) (e :: es) [] pos) X.env=(do
      let ov ← eval (.Name x p) X.env
      standAt apos.atName
      let (f,first) ← holding [ov] (getMethod ov mm pl)
      callWith pos f first (backTo pos (starEach (e :: es) X.env)) (backToKw pos (keywordEach [] X.env))):=by rfl) :
    PE X (.Call (.Attribute (.Name x p) mm apos) (e :: es) [] pos) (Qgn sp [] E0 t):=by
  intro pins s σ H Q I h
  refine PySem.W.methodCall_KW (pl:=pl) (thn (QiW (v := .ref B) hg hm rfl hdb pins s σ H (fun v H1=>v = .ref B∧Qgn sp [] E0 t σ H1 Q) I ⟨rfl,h⟩) fun u s1 ⟨x,H1,I1,rx,ex,q⟩ => ?_) ht
  subst ex
  obtain rfl:u=Value.ref B:=rx
  refine PySem.W.method_cls I1.kIn h1 (PySem.W.cls_value I1.kIn h2 h3 rfl ?_)
  have I2:=I1.tok (s1.toks + 1)
  refine PySem.W.callWith_K (first:=[]) (h₀:=X.base) I.ok.mod.kin hk (thn (ha pos pins _ σ H1 _ I2 q) fun us s2 ⟨vs,H2,I3,r,q2⟩=>⟨I3.kIn,?_⟩) hst hpl
  exact Qix F hr hb .nil Qgt I3 r q2
theorem Qkm {g:Addr→List PV→OT→Option OT} {a:Addr} {t t':OT} {qs:List PV} (h:baseK g a t qs=some t'):∃ rs,qs = .opq a :: rs∧g a rs t=some t':=by
  unfold baseK at h
  split at h
  · rename_i b rs
    obtain ⟨rfl,h⟩:=Qcw h
    exact ⟨rs,rfl,h⟩
  · cases h
theorem xm_base {g:Addr→List PV→OT→Option OT} {st:Stmt} {E0':XK} (hn:∀ a qs t t',g a qs t=some t'→qs.length + 1=n)
    (ps:PS X st (tDrop (Qgn (spX X.K (ObjG X.K C km) n g) [] E0' (tMA X.K ms ma)))):XM X (ObjG X.K C km) j st (Qeq j ms g ma):=PS.imp ps fun D σ H ⟨B,F₀,F,E,a,γ,t,o,S,e,ok⟩=>by
  obtain ⟨qs,e1,e⟩:=Qg e
  obtain ⟨a',e2,e⟩:=Qg e
  rw [S.at_] at e2
  cases e2
  obtain ⟨t',e3,rfl⟩:=Yl e
  obtain ⟨rs,rfl,e4⟩:=Qkm e3
  obtain ⟨F1,S1,x1,er⟩:=S.sr.see ms
  refine ⟨F1,γ,_,S1.sub,er,e1,fun us H' F' gr q => ?_⟩
  dsimp only
  rw [List.append_nil]
  unfold RepL at q
  obtain ⟨v,us,rfl,q1,q⟩:=q
  unfold Rep at q1
  subst q1
  have T:=S1.grow gr
  have hE:Same E H':=fun b o e=>gr.same b o (S.sr.base b o (QbY (S.db b o e) e))
  have hat:=opq_frz ms S.at_
  have SX1:=S.next (QeR X.K C km) T (hat.trans S.at_.symm) (x1.trans gr.ext)
  refine ⟨by have:=hn _ _ _ _ e4;rw [List.length_cons,q.length];exact this,F',E,_,t,us,rs,t',rfl,gr.sub,hE,SX1.df,SX1.own,q,e4,fun H2 F2 E2 G hp => ?_⟩
  exact ok σ H2 F2 E2 (SX.called T hat S.db G hp)
theorem Qkn {pl:Sem Bool} {g:Addr→List PV→OT→Option OT} (c:CalB X.prog X.w X.K X.mg X.base k C km x mm n g) (hn:∀ a qs t t',g a qs t=some t'→qs.length + 1=n) (hr:Room k X.A) (hg:Gl X x)
    (ha:AM X ms (e :: es) ma) (hdb:(x==("__debug__":Str))=false:=by decide) (hst:starEach (e :: es) X.env=(false,eval e X.env) :: starEach es X.env:=by rfl) (hpl:(backTo cpos (starEach es X.env)).any (·.1)=false:=by rfl)
    (ht:eval (.Call (.Attribute (.Name x p2) mm apos) (e :: es) [] cpos) X.env=(do
      let ov ← eval (.Name x p2) X.env
      standAt apos.atName
      let (f,first) ← holding [ov] (getMethod ov mm pl)
      callWith cpos f first (backTo cpos (starEach (e :: es) X.env)) (backToKw cpos (keywordEach [] X.env))):=by rfl)
    (hs:swapsWith (.Call (.Attribute (.Name x p2) mm apos) (e :: es) [] cpos) none pos.line X.env=pure false:=by rfl) :
    XM X (ObjG X.K C km) j (.Expr (.Call (.Attribute (.Name x p2) mm apos) (e :: es) [] cpos) pos) (Qeq j ms g ma):=by
  obtain ⟨f,fd,ps,B,F,hm,h1,h2,h3,hk,hb⟩:=c
  exact xm_base hn (XN (pe_cls F hr hg hm h1 h2 h3 hk hb ha hdb hst hpl ht) hs)
end
end L2.PM

noncomputable section
namespace L2.PM
open PySem PySem.Spec PyProof.Rows
noncomputable def QfY:List PV→Option (List PV)
  | [.tup xs,.tup ys]=>some (List.zipWith (fun x y => .tup [x,y]) xs ys)
  | _=>none
end L2.PM
namespace L2.PM
open PySem PySem.Spec PyProof.Rows
noncomputable abbrev ht1 (h:Heap) (a:Addr):Heap:=h.push { cls := .type "tuple_iterator",data := .fields #[.ref a,.int 0 0] }
noncomputable abbrev ht2 (h:Heap) (a c:Addr):Heap:=(ht1 h a).push { cls := .type "tuple_iterator",data := .fields #[.ref c,.int 0 0] }
noncomputable abbrev ht3 (h:Heap) (a c:Addr):Heap:=(ht2 h a c).push { cls := .type "tuple",data := .seq #[.ref h.objs.size,.ref (ht1 h a).objs.size] }
noncomputable abbrev ht4 (h:Heap) (a c:Addr):Heap:=(ht3 h a c).push { cls := .type "tuple",data := .seq #[.none,.none] }
noncomputable abbrev ht5 (h:Heap) (a c:Addr):Heap:=(ht4 h a c).push { cls := .type "zip",data := .fields #[.none,.bool false,.bool false,.ref (ht2 h a c).objs.size,.ref (ht3 h a c).objs.size] }
theorem QgA (a c:Addr) (xs ys:Array Value) :
    Meets (Builtin.«zip.__new__» ⟨[.type "zip",.ref a,.ref c],[]⟩) (fun _ R s=>s.heap.IsTuple a xs∧s.heap.IsTuple c ys∧R (.ok (.ret (.ref (ht4 s.heap a c).objs.size))) { s with heap:=ht5 s.heap a c }) :=
  .of_wp fun prog w A R s h=>by
    obtain ⟨hp,g,d,tk,os⟩:=s
    obtain ⟨ha,hc,h⟩:=h
    have sub:=sub_zip
    have la:Heap.IsTuple (Shared.heap ⟨hp,g,d,tk,os⟩) a xs:=ha
    have lc:Heap.IsTuple (Shared.heap ⟨hp.push { cls := .type "tuple_iterator",data := .fields #[.ref a,.int 0 0] },g,d,tk,os⟩) c ys:=hc.at fun o q=>Heap.get?_push_of_some _ q
    wp_walk using wpAny_pyIter_tuple la,wpAny_pyIter_tuple lc
    exact ⟨_,rfl,h⟩
theorem Qim {prog:Program} {w:World} {A:Around} {E:Value→Shared→Prop} {s:Shared} {a c:Addr} {xs ys:Array Value} {Q:Value→Shared→Prop} (ha:s.heap.IsTuple a xs) (hc:s.heap.IsTuple c ys)
    (fin:∀ h',IsZip h' (s.heap.objs.size + 4) (s.heap.objs.size + 2) (s.heap.objs.size + 3) .none→IsPair h' (s.heap.objs.size + 2) (.ref s.heap.objs.size) (.ref (s.heap.objs.size + 1))→IsPair h' (s.heap.objs.size + 3) .none .none →
      h'.IsTupleIter s.heap.objs.size a 0→h'.IsTupleIter (s.heap.objs.size + 1) c 0→(∀ d o,s.heap.get? d=some o→h'.get? d=some o)→Q (.ref (s.heap.objs.size + 4)) { s with heap:=h' }) :
    wpAny (model prog w) A (call (.type "zip") [.ref a,.ref c]) Q E s:=by
  refine callType_new F.called_zip (by decide) (F.typeCall_zip_2 _ _) (F.newCall_zip_2 _ _) (fun obj=>F.args_object_init_3 obj _ _) F.entry_zip_new (QgA a c xs ys) ⟨ha,hc,?_⟩
  have y1:(ht1 s.heap a).objs.size=s.heap.objs.size + 1:=Heap.size_push ..
  have y2:(ht2 s.heap a c).objs.size=s.heap.objs.size + 2:=by rw [Heap.size_push,y1]
  have y3:(ht3 s.heap a c).objs.size=s.heap.objs.size + 3:=by rw [Heap.size_push,y2]
  have y4:(ht4 s.heap a c).objs.size=s.heap.objs.size + 4:=by rw [Heap.size_push,y3]
  have q5:(ht5 s.heap a c).get? (ht4 s.heap a c).objs.size=some _:=Heap.get?_push_size _ rfl
  have up5:∀ {d o},(ht4 s.heap a c).get? d=some o→(ht5 s.heap a c).get? d=some o:=fun e=>Heap.get?_push_of_some _ e
  have up4:∀ {d o},(ht3 s.heap a c).get? d=some o→(ht5 s.heap a c).get? d=some o:=fun e=>up5 (Heap.get?_push_of_some _ e)
  have up3:∀ {d o},(ht2 s.heap a c).get? d=some o→(ht5 s.heap a c).get? d=some o:=fun e=>up4 (Heap.get?_push_of_some _ e)
  have up2:∀ {d o},(ht1 s.heap a).get? d=some o→(ht5 s.heap a c).get? d=some o:=fun e=>up3 (Heap.get?_push_of_some _ e)
  have q4:(ht5 s.heap a c).get? (ht3 s.heap a c).objs.size=some _:=up5 (Heap.get?_push_size _ rfl)
  have q3:(ht5 s.heap a c).get? (ht2 s.heap a c).objs.size=some _:=up4 (Heap.get?_push_size _ rfl)
  have q2:(ht5 s.heap a c).get? (ht1 s.heap a).objs.size=some _:=up3 (Heap.get?_push_size _ rfl)
  have q1:(ht5 s.heap a c).get? s.heap.objs.size=some _:=up2 (Heap.get?_push_size _ rfl)
  show _∧_
  rw [y2,y3,y4] at q5
  rw [y1,y2] at q3
  rw [y3] at q4
  rw [y1] at q2
  rw [y4]
  exact ⟨⟨_,q5,rfl⟩,fin _ q5 q3 q4 ⟨_,q1,rfl,rfl⟩ ⟨_,q2,rfl,rfl⟩ fun d o e=>up2 (Heap.get?_push_of_some _ e)⟩
noncomputable def Itzt (K:PySem.W.Frag) (a c:Addr):It :=
  ⟨fun i H=>∃ xs ys x y,SqT K H a xs∧SqT K H c ys∧xs[i]?=some x∧ys[i]?=some y,
   fun i H v H'=>∃ T x y,v = .ref T∧H T=none∧H'=upd H T (.tup [x,y])∧(∀ xs,SqT K H a xs→xs[i]?=some x)∧∀ ys,SqT K H c ys→ys[i]?=some y,
   fun i H=>(∃ xs ys,SqT K H a xs∧SqT K H c ys∧xs.length≤i)∨∃ xs ys,SqT K H a xs∧SqT K H c ys∧i < xs.length∧ys.length≤i⟩
theorem Qjp {P:Program} {w:World} {K:PySem.W.Frag} {elts:List Expr} {kk:Nat} {pp:Pos} (a c z TI TO i1 i2:Addr) (Z:ZA z TI TO i1 i2 [i1,a] [i2,c]) (nn:a≠i1∧c≠i2) :
    Turn P w K (.Tuple elts kk pp) (Itzt K a c) [z,TI,TO,i1,i2] z (fun i h=>IsZip h z TI TO .none∧IsPair h TI (.ref i1) (.ref i2)∧(∃ u v,IsPair h TO u v)∧h.IsTupleIter i1 a i∧h.IsTupleIter i2 c i) where
  mem:=by simp
  obj:=fun i h st b hb=>by
    obtain ⟨gz,gi,⟨u,v,go⟩,⟨o1,e1,_,d1⟩,⟨o2,e2,_,d2⟩⟩:=st
    simp only [List.mem_cons,List.not_mem_nil,or_false] at hb
    rcases hb with rfl | rfl | rfl | rfl | rfl
    · exact ⟨_,gz,fun v q=>nomatch (show Data.fields _=Data.cell v from q)⟩
    · exact ⟨_,gi,fun v q=>nomatch (show Data.seq _ _=Data.cell v from q)⟩
    · exact ⟨_,go,fun v q=>nomatch (show Data.seq _ _=Data.cell v from q)⟩
    · exact ⟨_,e1,fun v q=>by rw [d1] at q;cases q⟩
    · exact ⟨_,e2,fun v q=>by rw [d2] at q;cases q⟩
  keep:=fun i h h' st k=>by
    obtain ⟨gz,gi,⟨u,v,go⟩,t1,t2⟩:=st
    exact ⟨k z (by simp) _ gz,k TI (by simp) _ gi,⟨u,v,k TO (by simp) _ go⟩,t1.at fun o q=>k i1 (by simp) o q,t2.at fun o q=>k i2 (by simp) o q⟩
  item:=by
    intro X hP hw hK hc i pins s σ H E I hf st hg
    subst hP hw hK
    obtain ⟨xs,ys,x,y,hx,hy,ex,ey⟩:=hg
    obtain ⟨its,rv,p,hz⟩:=I.tuple hx
    obtain ⟨its2,rv2,p2,ht2⟩:=I.tuple hy
    obtain ⟨u,hu,ru⟩:=rv.get ex
    obtain ⟨v,hv,rw2⟩:=rv2.get ey
    have hi:i < its.length:=(List.getElem?_eq_some_iff.mp hu).1
    have hi2:i < its2.length:=(List.getElem?_eq_some_iff.mp hv).1
    obtain ⟨gz,gi,⟨u0,v0,go⟩,t1,t2⟩:=st
    have calm:X.A.in1.handled=none:=by have:=I.ok.hd hc;simp [this]
    have D1:=XT (prog:=X.prog) (w:=X.w) (A:=X.A.in1) calm i1 a nn.1 its.toArray
    have D2:=XT (prog:=X.prog) (w:=X.w) (A:=X.A.in1) calm i2 c nn.2 its2.toArray
    refine Qgr D1 D2 Z gz gi go (by simpa using hi) (by simpa using hi2) ⟨t1,p⟩ ⟨t2,p2⟩ fun h1 x' y' tk q1 q2 z1 o1 s1 s2 pt kp => ?_
    have q1:x'=u:=by
      rw [List.getElem?_toArray,hu] at q1
      exact (Option.some.inj q1).symm
    have q2:y'=v:=by
      rw [List.getElem?_toArray,hv] at q2
      exact (Option.some.inj q2).symm
    subst q1 q2
    have lt:∀ {d o},s.heap.get? d=some o→s.heap.objs.size≠d:=fun e=>Nat.ne_of_gt (Heap.lt_size e)
    have nT:s.heap.objs.size∉[z,TI,TO,i1,i2]:=fun q=>by
      simp only [List.mem_cons,List.not_mem_nil,or_false] at q
      rcases q with q | q | q | q | q
      · exact lt gz q
      · exact lt gi q
      · exact lt go q
      · obtain ⟨o,e,_⟩:=t1
        exact lt e q
      · obtain ⟨o,e,_⟩:=t2
        exact lt e q
    have gi1:IsPair h1 TI (.ref i1) (.ref i2):=kp TI _ (by simp [Z.ti.1,Z.ti.2.1,Z.ti.2.2.1,Z.ti.2.2.2]) gi
    refine ⟨_,rfl,wpAny_letOwnedTupleGo_zip z1 fun h2 z2 e2 => ?_⟩
    have hn:H s.heap.objs.size=none:=I.hok.fresh (Nat.le_refl _)
    have nz:s.heap.objs.size≠z:=fun q=>nT (by simp [q])
    have tup2:h2.IsTuple s.heap.objs.size #[x',y']:=⟨_,e2.extBut _ _ nz pt,rfl,_,rfl⟩
    have k2:∀ b o,b∉[z,TI,TO,i1,i2]→s.heap.get? b=some o→h2.get? b=some o:=fun b o hb q=>by
      simp only [List.mem_cons,List.not_mem_nil,or_false,not_or] at hb
      exact e2.extBut _ _ hb.1 (kp b o (by simp [hb]) q)
    have I2:Inv X pins σ (upd H s.heap.objs.size (.tup [x,y])) { s with heap:=h2,toks:=tk }:=I.turnsNew (ch:=[z,TI,TO,i1,i2]) (o := .tup [x,y]) hf k2 (Nat.le_refl _) ⟨by show 2≤sizeLine;decide,[x',y'],.cons ru (.cons rw2 .nil),tup2⟩
    refine ⟨.ref s.heap.objs.size,_,I2,rfl,⟨_,x,y,rfl,hn,rfl,fun zs hz'=>by rw [I.tuple_inj hz' hx];exact ex,fun zs hz'=>by rw [I.tuple_inj hz' hy];exact ey⟩,
      ⟨z2,e2.extBut _ _ Z.ti.1 gi1,⟨_,_,e2.extBut _ _ Z.to.1 o1⟩,s1.1.at fun o q=>e2.extBut _ o Z.ii.1 q,s2.1.at fun o q=>e2.extBut _ o Z.ii.2.1 q⟩,fun b hb => ?_⟩
    have hbT:b≠s.heap.objs.size:=fun q=>nT (q ▸ hb)
    rw [Qt hbT]
    exact (hf b hb).1
  done:=by
    intro X hP hw hK hc i pins s σ H E I hf st hg
    subst hP hw hK
    obtain ⟨gz,gi,⟨u0,v0,go⟩,t1,t2⟩:=st
    have calm:X.A.in1.handled=none:=by have:=I.ok.hd hc;simp [this]
    have last:∀ h1 tk,(∀ b o,b∉[z,TO,i1,i2]→s.heap.get? b=some o→h1.get? b=some o)→Inv X pins σ H { s with heap:=h1,toks:=tk }:=fun h1 tk kp=>I.turns (ch:=[z,TI,TO,i1,i2]) hf fun b o hb q=>kp b o (fun m=>hb (by
      simp only [List.mem_cons,List.not_mem_nil,or_false] at m ⊢
      rcases m with m | m | m | m <;> simp [m])) q
    rcases hg with ⟨xs,ys,hx,hy,hl⟩ | ⟨xs,ys,hx,hy,hl,hl2⟩
    · obtain ⟨its,rv,p,hz⟩:=I.tuple hx
      obtain ⟨its2,rv2,p2,ht2⟩:=I.tuple hy
      have hlen:=rv.length
      have D1:Draws X.prog X.w X.A.in1 i1 [i1,a] i (fun _ _=>True) (fun j h=>j=i∧h.IsTupleIter i1 a i∧h.IsTuple a its.toArray) :=
        { live:=fun _ _ q=>let ⟨_,⟨o,ho,_⟩,_⟩:=q;⟨o,ho⟩
          frame:=fun _ _ _ q k=>⟨q.1,q.2.1.at fun o z=>k i1 (by simp) o z,q.2.2.at fun o z=>k a (by simp) o z⟩
          item:=fun j s Q E hj q _=>absurd q.1 (Nat.ne_of_lt hj)
          done:=fun s Q E q fin=>YE calm q.2.1 q.2.2 (by simp;omega) fin }
      have D2:=XT (prog:=X.prog) (w:=X.w) (A:=X.A.in1) calm i2 c nn.2 its2.toArray
      exact QcV D1 D2 Z gz gi go (k1:=i) (k2:=i) (.inl rfl) ⟨rfl,t1,p⟩ ⟨t2,p2⟩ fun h1 tk kp=>⟨rfl,last h1 tk kp⟩
    · obtain ⟨its,rv,p,hz⟩:=I.tuple hx
      obtain ⟨its2,rv2,p2,ht2⟩:=I.tuple hy
      have hlen:=rv.length
      have hlen2:=rv2.length
      have D1:=XT (prog:=X.prog) (w:=X.w) (A:=X.A.in1) calm i1 a nn.1 its.toArray
      have D2:Draws X.prog X.w X.A.in1 i2 [i2,c] i (fun _ _=>True) (fun j h=>j=i∧h.IsTupleIter i2 c i∧h.IsTuple c its2.toArray) :=
        { live:=fun _ _ q=>let ⟨_,⟨o,ho,_⟩,_⟩:=q;⟨o,ho⟩
          frame:=fun _ _ _ q k=>⟨q.1,q.2.1.at fun o z=>k i2 (by simp) o z,q.2.2.at fun o z=>k c (by simp) o z⟩
          item:=fun j s Q E hj q _=>absurd q.1 (Nat.ne_of_lt hj)
          done:=fun s Q E q fin=>YE calm q.2.1 q.2.2 (by simp;omega) fin }
      exact QcV D1 D2 Z gz gi go (k1:=i) (k2:=i) (.inr ⟨by simp;omega,rfl⟩) ⟨t1,p⟩ ⟨rfl,t2,p2⟩ fun h1 tk kp=>⟨rfl,last h1 tk kp⟩
  self:=fun A i s Q E st h=>wpAny_pyIter_zip st.1 h
section
variable {X:Cx} {e a b c:Expr} {es:List Expr} {ms ns ls:List Nat} {m m1 m2 m3:MEx} {ma:PEnv→Option (List PV)} {pos p p1 p2 p3 pos':Pos} {x:Str} {id T:String} {tg:Expr}
theorem pi_zipTT {elts:List Expr} {kk:Nat} {pp:Pos} {ta:TA} (hg:Gl X "zip") (hm:X.mg "zip"=none) (ha:PA X [a,b] ta) (hs:starEach [a,b] X.env=[(false,eval a X.env),(false,eval b X.env)]:=by rfl) (hs2:starEach [b] X.env=[(false,eval b X.env)]:=by rfl) :
    PI X (.Tuple elts kk pp) (.Call (.Name "zip" p) [a,b] [] pos) (fun σ H R=>ta σ H fun vs H1=>∃ t l,vs=[.ref t,.ref l]∧(∃ xs,SqT X.K H1 t xs)∧(∃ ys,SqT X.K H1 l ys)∧R (Itzt X.K t l) H1):=by
  intro pins s σ H R I h
  refine Call_ (QaL I hg hm (show bootBuiltins "zip"=some (.type "zip") from by kernel_rfl) (PyProof.Rows.callWith_type1 (thn (ha pos pins s σ H _ I h) fun us s1 ⟨vs,H1,I1,r1,q1⟩ => ?_) (by rw [hs,hs2]) (by rw [hs2];rfl)))
  obtain ⟨t,l,rfl,⟨xs,hx⟩,⟨ys,hy⟩,q⟩:=q1
  cases r1 with
  | cons r rr=>cases rr with
    | cons r' rr =>
      cases rr
      cases r
      cases r'
      obtain ⟨its,rv,pt,_⟩:=I1.tuple hx
      obtain ⟨its2,rv2,p2,_⟩:=I1.tuple hy
      have lt1:t < s1.heap.objs.size:=by obtain ⟨o,e,_⟩:=pt;exact Heap.lt_size e
      have lt2:l < s1.heap.objs.size:=by obtain ⟨o,e,_⟩:=p2;exact Heap.lt_size e
      refine Qim pt p2 fun h' gz gi go t1 t2 k => ?_
      refine wpAny_pyIter_zip gz ?_
      have Z:=za_new lt1 lt2
      refine ⟨s1.heap.objs.size + 4,[s1.heap.objs.size + 4,s1.heap.objs.size + 2,s1.heap.objs.size + 3,s1.heap.objs.size,s1.heap.objs.size + 1],_,_,H1,rfl,I1.kept (t':=s1.toks) k,Qjp t l _ _ _ _ _ Z ⟨Nat.ne_of_lt lt1,Nat.ne_of_lt (Nat.lt_succ_of_lt lt2)⟩,⟨gz,gi,⟨_,_,go⟩,t1,t2⟩,fun d hd => ?_,q⟩
      have hle:s1.heap.objs.size≤d:=by
        simp only [List.mem_cons,List.not_mem_nil,or_false] at hd
        rcases hd with rfl | rfl | rfl | rfl | rfl
        · exact Nat.le_add_right _ 4
        · exact Nat.le_add_right _ 2
        · exact Nat.le_add_right _ 3
        · exact Nat.le_refl _
        · exact Nat.le_add_right _ 1
      exact I1.fpOk hle (I1.hok.fresh hle)
theorem im_zipTT {elts:List Expr} {kk:Nat} {pp:Pos} (hc:X.calm=true) (hg:Gl X "zip") (hm:X.mg "zip"=none) (ha:AM X ms [a,b] ma) (hs:starEach [a,b] X.env=[(false,eval a X.env),(false,eval b X.env)]:=by rfl) (hs2:starEach [b] X.env=[(false,eval b X.env)]:=by rfl) :
    IM X ms (.Tuple elts kk pp) (.Call (.Name "zip" p) [a,b] [] pos) (Qk QfY ma) :=
  PI.imp (pi_zipTT hg hm ha hs hs2) fun σ H R ⟨F,γ,zs,k1,k2,k3,w⟩=>by
    obtain ⟨qs,e1,k3⟩:=Qg k3
    refine ⟨F,γ,qs,k1,k2,e1,fun vs H1 F1 g1 q1 => ?_⟩
    unfold QfY at k3
    split at k3
    · rename_i xs ys
      cases k3
      unfold RepL at q1
      obtain ⟨v,t,rfl,q1,qt⟩:=q1
      unfold RepL at qt
      obtain ⟨v',t',rfl,q2,qt⟩:=qt
      unfold RepL at qt
      subst qt
      unfold Rep at q1 q2
      obtain ⟨l,us,rfl,sl,rl⟩:=q1
      obtain ⟨l',us',rfl,sl',rl'⟩:=q2
      have hl:=rl.length
      have hl':=rl'.length
      refine ⟨l,l',rfl,⟨us,g1.sub.seqT sl⟩,⟨us',g1.sub.seqT sl'⟩,w _ _ _ g1 ?_⟩
      refine ⟨fun i H2 hi e2 => ?_,fun i H2 v H3 hi e2 y => ?_,fun H2 e2 => ?_⟩
      · rw [List.length_zipWith] at hi
        have h1:i < us.length:=by omega
        have h2:i < us'.length:=by omega
        exact ⟨us,us',us[i],us'[i],e2.seqT sl,e2.seqT sl',by simp [h1],by simp [h2]⟩
      · obtain ⟨T,x,y0,rfl,hn,rfl,y1,y2⟩:=y
        obtain ⟨p,e3,e4⟩:=rl.back (y1 us (e2.seqT sl))
        obtain ⟨p',e3',e4'⟩:=rl'.back (y2 us' (e2.seqT sl'))
        refine ⟨.tup [p,p'],?_,fun F2 x1 x2 => ?_⟩
        · rw [List.getElem?_zipWith,e3,e3']
        · refine ⟨upd F2 T (.tup [x,y0]),.laid x2 hn,?_⟩
          unfold Rep
          exact ⟨T,[x,y0],rfl,.of Qv,.cons (e4.mono (x1.trans (Grow.laid (o := .tup [x,y0]) x2 hn).ext)) (.cons (e4'.mono (x1.trans (Grow.laid (o := .tup [x,y0]) x2 hn).ext)) .nil)⟩
      · rw [List.length_zipWith]
        by_cases hc:us.length≤min xs.length ys.length
        · exact .inl ⟨us,us',e2.seqT sl,e2.seqT sl',hc⟩
        · exact .inr ⟨us,us',e2.seqT sl,e2.seqT sl',by omega,by omega⟩
    · cases k3
end
end L2.PM

noncomputable section
namespace L2.PM
open PySem PySem.Spec PyProof.Rows
end L2.PM

noncomputable section
namespace L2.PM
open PySem PySem.Spec PyProof.Rows
end L2.PM
namespace L2.PM
open PySem PySem.Spec PyProof.Rows
section
variable {X:Cx} {o e:Expr} {es:List Expr} {ms ns:List Nat} {mo:MEx} {ma:PEnv→Option (List PV)} {f mm x:Str} {p2 pos apos cpos:Pos} {n i:Nat}
end
end L2.PM

noncomputable section
namespace L2.PM
open PySem PySem.Spec PyProof.Rows

theorem Qio {i j:Int} (h1 : -(2 ^ 64) < j) (h2:j < 2 ^ 64):cMul i j=true:=by
  unfold cMul
  rw [Bool.or_eq_true]
  exact .inr (QeK ⟨h1,h2⟩)
theorem Qkl {i j:Int} (h1 : -(2 ^ 64) < i) (h2:i < 2 ^ 64):cMul i j=true:=by
  unfold cMul
  rw [Bool.or_eq_true]
  exact .inl (QeK ⟨h1,h2⟩)
theorem pAdd_i (i j:Int):pAdd (.int i) (.int j)=some (.int (i + j)):=rfl
theorem pSub_i (i j:Int):pSub (.int i) (.int j)=some (.int (i - j)):=rfl
theorem pMul_l {i j:Int} (h1 : -(2 ^ 64) < i) (h2:i < 2 ^ 64):pMul (.int i) (.int j)=some (.int (i * j)):=if_pos (Qkl h1 h2)
theorem pMul_r {i j:Int} (h1 : -(2 ^ 64) < j) (h2:j < 2 ^ 64):pMul (.int i) (.int j)=some (.int (i * j)):=if_pos (Qio h1 h2)
theorem pMod_i {i j:Int} (h:0 < j):pMod (.int i) (.int j)=some (.int (i % j)):=if_pos (decide_eq_true h)
theorem pDiv_i {i j:Int} (h:0 < j) (h2:j < 2 ^ 200):pDiv (.int i) (.int j)=some (.int (i / j)):=if_pos (QeK ⟨h,h2⟩)
theorem pLt_i (i j:Int):pLt (.int i) (.int j)=some (.bl (decide (i < j))):=rfl
theorem pLe_i (i j:Int):pLe (.int i) (.int j)=some (.bl (decide (i≤j))):=rfl
theorem pGt_i (i j:Int):pGt (.int i) (.int j)=some (.bl (decide (j < i))):=rfl
theorem pAnd_i (i j:Int):pAnd (.int i) (.int j)=some (.int (Builtin.bitAnd i j)):=rfl
theorem pOr_i (i j:Int):pOr (.int i) (.int j)=some (.int (Builtin.bitOr i j)):=rfl
theorem pShl_one {k:Int} (h0:0≤k) (h1:k≤1000000):pShl (.int 1) (.int k)=some (.int (2 ^ k.toNat)):=by
  have e:pShl (.int 1) (.int k)=some (.int (1 * 2 ^ k.toNat)):=if_pos (QeK ⟨h0,h1,by decide⟩)
  rw [e,Int.one_mul]
theorem pShr_i {i k:Int} (h0:0≤k):pShr (.int i) (.int k)=some (.int (i / 2 ^ k.toNat)):=if_pos (decide_eq_true h0)
theorem QcF (i:Int):okv (.int i)=true:=by simp [okv,dep,okS]
theorem QiY {s:Str} (h:PyData.strOk s=true):okv (.str s)=true:=by simp [okv,dep,okS,h]
theorem pEq_ok {p q:PV} (h1:okv p=true) (h2:okv q=true):pEq p q=some (.bl (peq p q)):=if_pos ⟨h1,h2⟩
theorem QeE {p q:PV} (h1:okv p=true) (h2:okv q=true):pNe p q=some (.bl (!peq p q)):=if_pos ⟨h1,h2⟩
theorem pEq_i (i j:Int):pEq (.int i) (.int j)=some (.bl (i==j)):=by rw [pEq_ok (QcF i) (QcF j)];rfl
theorem pNe_i (i j:Int):pNe (.int i) (.int j)=some (.bl (!(i==j))):=by rw [QeE (QcF i) (QcF j)];rfl
theorem pIs_non (p:PV):pIs p .non=some (.bl (isN p)):=by cases p <;> rfl
theorem pIsNot_non (p:PV):QfZ p .non=some (.bl (!isN p)):=by cases p <;> rfl
theorem Qdx {n:Nat} (h:n≤100000):n≤LIM:=Nat.le_trans h (by decide)
theorem lt_lim {n:Nat} (h:n≤100000):n < LIM:=Nat.lt_of_le_of_lt h (by decide)
theorem keepE_true (ms:List Nat) (γ:PEnv):ZD true ms γ=γ:=rfl
theorem keepE_false (ms:List Nat) (γ:PEnv):ZD false ms γ=frz ms γ:=rfl
theorem flat_int (i:Int):flat (.int i)=true:=rfl
theorem flat_bl (i:Bool):flat (.bl i)=true:=rfl
theorem flat_str (i:Str):flat (.str i)=true:=rfl
theorem flat_non:flat .non=true:=rfl
theorem flat_tup (i:List PV):flat (.tup i)=false:=rfl
theorem flat_lst (i:List PV):flat (.lst i)=false:=rfl
theorem allflat_ints (ns:List Int):(ns.map PV.int).all flat=true:=by simp [flat]
theorem allflat_strs (ns:List Str):(ns.map PV.str).all flat=true:=by simp [flat]
theorem pIx_lst (xs:List PV) (i:Int):pIx (.lst xs) (.int i)=atI xs i:=rfl
theorem pIx_tup (xs:List PV) (i:Int):pIx (.tup xs) (.int i)=atI xs i:=rfl

theorem Qej {α:Type} {g:PV→PEnv→Option PEnv} {t:PEnv→Option Bool} {e:MEx} {γ:PEnv} (f:α→PV) (b:α→Bool) (y:α→PV) :
    ∀ (xs:List α),(∀ x∈xs,∃ γ1,g (f x) γ=some γ1∧t γ1=some (b x)∧(b x=true→e γ1=some (y x)))→Xc g t e γ (xs.map f)=some ((xs.filter b).map y)
  | [],_=>rfl
  | x :: xs,h=>by
    obtain ⟨γ1,h1,h2,h3⟩:=h x List.mem_cons_self
    have ih:=Qej f b y xs fun z hz=>h z (List.mem_cons_of_mem _ hz)
    rw [List.map_cons,Xc,h1,Option.bind_some,h2,Option.bind_some]
    cases hb:b x with
    | true =>
      rw [if_pos rfl,h3 hb,Option.bind_some,ih,List.filter_cons_of_pos hb]
      rfl
    | false =>
      rw [if_neg Bool.false_ne_true,ih,List.filter_cons_of_neg (by simp [hb])]
theorem XU {α:Type} {g:PV→PEnv→Option PEnv} {e:MEx} {γ:PEnv} (f:α→PV) (y:α→PV) (xs:List α) (h:∀ x∈xs,∃ γ1,g (f x) γ=some γ1∧e γ1=some (y x)):Xc g Qap e γ (xs.map f)=some (xs.map y):=by
  have:=Qej (g:=g) (t:=Qap) (e:=e) (γ:=γ) f (fun _=>true) y xs fun x hx=>by
    obtain ⟨γ1,h1,h2⟩:=h x hx
    exact ⟨γ1,h1,rfl,fun _=>h2⟩
  rw [this,List.filter_eq_self.mpr (fun _ _=>rfl)]
theorem Qhk {α β:Type} {g:PV→PEnv→Option PEnv} {b:MSt} (f:α→PV) (step:β→α→β) (R:β→PEnv→Prop) :
    ∀ (xs:List α) (acc:β) (γ:PEnv),R acc γ→(∀ acc γ x,x∈xs→R acc γ→∃ γ1 γ2,g (f x) γ=some γ1∧b γ1=some (.nx γ2)∧R (step acc x) γ2)→∃ γ',forL g b (xs.map f) γ=some (.nx γ')∧R (xs.foldl step acc) γ'
  | [],acc,γ,r,_=>⟨γ,rfl,r⟩
  | x :: xs,acc,γ,r,h=>by
    obtain ⟨γ1,γ2,h1,h2,h3⟩:=h acc γ x List.mem_cons_self r
    obtain ⟨γ',e,r'⟩:=Qhk f step R xs (step acc x) γ2 h3 fun a γ z hz=>h a γ z (List.mem_cons_of_mem _ hz)
    refine ⟨γ',?_,r'⟩
    rw [List.map_cons,forL,h1,Option.bind_some,h2,Option.bind_some]
    exact e
theorem Yg {α:Type} {g:PV→PEnv→Option PEnv} {b:MSt} (f:α→PV) (R:List α→PEnv→Prop) (xs:List α) :
    ∀ (ys pre:List α) (γ:PEnv),pre++ys=xs→R pre γ→(∀ pre x post γ,pre++x :: post=xs→R pre γ→∃ γ1 γ2,g (f x) γ=some γ1∧b γ1=some (.nx γ2)∧R (pre++[x]) γ2)→∃ γ',forL g b (ys.map f) γ=some (.nx γ')∧R xs γ'
  | [],pre,γ,e,r,_=>by
    rw [List.append_nil] at e
    subst e
    exact ⟨γ,rfl,r⟩
  | x :: ys,pre,γ,e,r,h=>by
    obtain ⟨γ1,γ2,h1,h2,h3⟩:=h pre x ys γ e r
    obtain ⟨γ',e',r'⟩:=Yg f R xs ys (pre++[x]) γ2 (by rw [List.append_assoc];exact e) h3 h
    refine ⟨γ',?_,r'⟩
    rw [List.map_cons,forL,h1,Option.bind_some,h2,Option.bind_some]
    exact e'
end L2.PM

noncomputable section
namespace L2.PM
open PySem PySem.Spec PyProof.Rows
noncomputable def pw (row:List Nat):Nat:=(row.map fun i=>2 ^ i).sum
noncomputable def bitsN (m:Nat):Nat:=if m=0 then 0 else m.log2 + 1
noncomputable def plN (m:Nat):List Nat:=(List.range (bitsN m)).filter fun k=>m.testBit k
theorem Qfw {m k:Nat} (h:m.testBit k=true):k < bitsN m:=by
  have h1:2 ^ k≤m:=Nat.ge_two_pow_of_testBit h
  have h0:m≠0:=by
    rintro rfl
    simp at h
  unfold bitsN
  rw [if_neg h0]
  have:=(Nat.le_log2 h0).mpr h1
  omega
theorem Qja {m k:Nat}:k∈plN m↔m.testBit k=true:=by
  unfold plN
  rw [List.mem_filter,List.mem_range]
  exact ⟨fun h=>h.2,fun h=>⟨Qfw h,h⟩⟩
theorem QgE (m:Nat):Builtin.Int.intBits (m:Int)=bitsN m:=by
  unfold Builtin.Int.intBits bitsN
  by_cases h:m=0
  · subst h;rfl
  · rw [if_neg h,if_neg (by simpa using h)]
    simp
theorem QjA (m:Nat):Qgu (.int (m:Int)) []=some (.int (bitsN m:Nat)):=by
  have e:=QgE m
  show some (PV.int ((Builtin.Int.intBits (m:Int):Nat):Int))=_
  rw [e]
end L2.PM

noncomputable section
namespace L2.PM
open PySem PySem.Spec PyProof.Rows

theorem rngL_0 (j:Int):rngL 0 j=(List.range j.toNat).map fun (k:Nat)=>PV.int k:=by
  unfold rngL
  rw [show (j - 0)=j by omega]
  exact List.map_congr_left fun k _=>by simp
noncomputable def rg1:PV→Option (List PV)
  | .int j=>if rOk j=true then some (rngL 0 j) else none
  | _=>none
theorem rg1_i {j:Int} (h1 : -100000≤j) (h2:j≤100000):rg1 (.int j)=some ((List.range j.toNat).map fun (k:Nat)=>PV.int k):=by
  have e:rg1 (.int j)=if rOk j=true then some (rngL 0 j) else none:=rfl
  rw [e,if_pos (Qiz (by omega) (by omega)),rngL_0]
theorem ev_iRg1 (m:MEx) (γ:PEnv):iRg1 m γ=(m γ).bind rg1:=by
  unfold iRg1
  cases m γ with
  | none=>rfl
  | some p=>cases p <;> rfl
noncomputable def itL:PV→Option (List PV)
  | .lst xs=>some xs
  | _=>none
theorem itL_l (xs:List PV):itL (.lst xs)=some xs:=rfl
theorem ev_iLst (m:MEx) (γ:PEnv):iLst m γ=(m γ).bind itL:=by
  unfold iLst
  cases m γ with
  | none=>rfl
  | some p=>cases p <;> rfl
noncomputable def itT:PV→Option (List PV)
  | .tup xs=>some xs
  | _=>none
theorem itT_t (xs:List PV):itT (.tup xs)=some xs:=rfl
theorem ev_iTpl (m:MEx) (γ:PEnv):iTpl m γ=(m γ).bind itT:=by
  unfold iTpl
  cases m γ with
  | none=>rfl
  | some p=>cases p <;> rfl
noncomputable def itS:PV→Option (List PV)
  | .lst xs=>some xs
  | .tup xs=>some xs
  | _=>none
theorem itS_l (xs:List PV):itS (.lst xs)=some xs:=rfl
theorem itS_t (xs:List PV):itS (.tup xs)=some xs:=rfl
theorem ev_iSeq (m:MEx) (γ:PEnv):iSeq m γ=(m γ).bind itS:=by
  unfold iSeq
  cases m γ with
  | none=>rfl
  | some p=>cases p <;> rfl
theorem pEnum_l (xs:List PV):Qga [.lst xs]=some (xs.zipIdx.map fun x => .tup [pN x.2,x.1]):=rfl
theorem pEnum_t (xs:List PV):QeG [.tup xs]=some (xs.zipIdx.map fun x => .tup [pN x.2,x.1]):=rfl
theorem pRev_l (xs:List PV):pRev [.lst xs]=some xs.reverse:=rfl
noncomputable def cmpK (g:PV→PEnv→Option PEnv) (t:PEnv→Option Bool) (e:MEx) (γ:PEnv) (xs:List PV):Option (List PV):=if xs.length≤LIM then Xc g t e γ xs else none
theorem cmpK_ok {g:PV→PEnv→Option PEnv} {t:PEnv→Option Bool} {e:MEx} {γ:PEnv} {xs:List PV} (h:xs.length≤100000):cmpK g t e γ xs=Xc g t e γ xs:=if_pos (Qdx h)
theorem ev_mComp (mi:PEnv→Option (List PV)) (nt:Nat) (caps:List Nat) (g:PV→PEnv→Option PEnv) (t:PEnv→Option Bool) (e:MEx) (γ:PEnv):YQ mi nt caps g t e γ=(mi γ).bind (cmpK g t e (blkG nt caps γ)):=rfl
noncomputable def seqK (s2:MSt):Out→Option Out
  | .nx γ=>s2 γ
  | o=>some o
theorem seqK_nx (s2:MSt) (γ:PEnv):seqK s2 (.nx γ)=s2 γ:=rfl
theorem seqK_rt (s2:MSt) (p:PV):seqK s2 (.rt p)=some (.rt p):=rfl
theorem seqK_ro (s2:MSt) (p:List PV):seqK s2 (.ro p)=some (.ro p):=rfl
theorem seqK_ct (s2:MSt) (γ:PEnv):seqK s2 (.ct γ)=some (.ct γ):=rfl
theorem seqK_bk (s2:MSt) (γ:PEnv):seqK s2 (.bk γ)=some (.bk γ):=rfl
theorem ev_sSeq (s1 s2:MSt) (γ:PEnv):sSeq s1 s2 γ=(s1 γ).bind (seqK s2):=by
  unfold sSeq
  cases s1 γ with
  | none=>rfl
  | some o=>cases o <;> rfl
theorem ev_startG1 (N:Nat) (ps:List PV):ZR N ps=ps.map .fz++List.replicate (N - ps.length) .un:=rfl
theorem outV_rt (p:PV):outV (.rt p)=some p:=rfl
theorem outV_ro (xs:List PV):outV (.ro xs)=some (.lst xs):=rfl
theorem outV_nx (γ:PEnv):outV (.nx γ)=some .non:=rfl
theorem ev_bin2 {α:Type} (f:PV→PV→Option α) (m1 m2:MEx) (γ:PEnv):bin2 f m1 m2 γ=(m1 γ).bind fun x=>(m2 γ).bind (f x):=rfl
theorem ev_mVar (i:Nat) (γ:PEnv):mVar i γ=getV γ i:=rfl
theorem ev_mC (p:PV) (γ:PEnv):mC p γ=some p:=rfl
theorem ev_mCall {α:Type} (g:List PV→Option α) (ma:PEnv→Option (List PV)) (γ:PEnv):Qk g ma γ=(ma γ).bind g:=rfl
theorem ev_mLst (m:PEnv→Option (List PV)) (γ:PEnv):mLst m γ=(m γ).map PV.lst:=rfl
noncomputable def tupK (xs:List PV):Option PV:=if xs.length≤LIM then some (.tup xs) else none
theorem tupK_ok {xs:List PV} (h:xs.length≤100000):tupK xs=some (.tup xs):=if_pos (Qdx h)
theorem ev_mTup (m:PEnv→Option (List PV)) (γ:PEnv):mTup m γ=(m γ).bind tupK:=rfl
noncomputable def limK (xs:List PV):Option (List PV):=if xs.length≤LIM then some xs else none
theorem limK_ok {xs:List PV} (h:xs.length≤100000):limK xs=some xs:=if_pos (Qdx h)
theorem ev_mLim (m:PEnv→Option (List PV)) (γ:PEnv):mLim m γ=(m γ).bind limK:=rfl
theorem ev_aNil (γ:PEnv):aNil γ=some []:=rfl
theorem ev_aCons (m:MEx) (ma:PEnv→Option (List PV)) (γ:PEnv):Qe m ma γ=(m γ).bind fun x=>(ma γ).map (x :: ·):=rfl
theorem isB_bl (b:Bool):isB (.bl b)=some b:=rfl
theorem ev_truB (m:MEx) (γ:PEnv):truB m γ=(m γ).bind isB:=rfl
theorem ev_mIsi (f:PV→Bool) (m:MEx) (γ:PEnv):mIsi f m γ=(m γ).bind (isiK f):=rfl
theorem isiK_i (f:PV→Bool) (i:Int):isiK f (.int i)=some (.bl (f (.int i))):=rfl
theorem isiK_b (f:PV→Bool) (i:Bool):isiK f (.bl i)=some (.bl (f (.bl i))):=rfl
theorem isiK_s (f:PV→Bool) (i:Str):isiK f (.str i)=some (.bl (f (.str i))):=rfl
theorem isiK_t (f:PV→Bool) (i:List PV):isiK f (.tup i)=some (.bl (f (.tup i))):=rfl
theorem isiK_l (f:PV→Bool) (i:List PV):isiK f (.lst i)=some (.bl (f (.lst i))):=rfl
theorem isiK_0 (f:PV→Bool):isiK f .non=some (.bl (f .non)):=rfl
theorem isiK_n (f:PV→Bool) (i:Nat):isiK f (pN i)=some (.bl (f (pN i))):=rfl
theorem getV_0 (s:Slot) (γ:PEnv):getV (s :: γ) 0=s.val:=rfl
theorem getV_s (s:Slot) (γ:PEnv) (i:Nat):getV (s :: γ) (i + 1)=getV γ i:=rfl
theorem val_fz (p:PV):(Slot.fz p).val=some p:=rfl
theorem val_ow (p:List PV):(Slot.ow p).val=some (.lst p):=rfl
noncomputable def keep (k:Bool) (ms:List Nat) (γ:PEnv):PEnv:=ZD k ms γ
theorem ev_sRet (m:MEx) (γ:PEnv):sRet m γ=(m γ).map .rt:=rfl
theorem ev_sRetO (m:PEnv→Option (List PV)) (γ:PEnv):sRetO m γ=(m γ).map .ro:=rfl
noncomputable def retS:Option Slot→Option Out
  | some (.ow xs)=>some (.ro xs)
  | some (.fz p)=>some (.rt p)
  | _=>none
theorem retS_ow (xs:List PV):retS (some (.ow xs))=some (.ro xs):=rfl
theorem retS_fz (p:PV):retS (some (.fz p))=some (.rt p):=rfl
theorem ev_sRetV (i:Nat) (γ:PEnv):Qbs i γ=retS γ[i]?:=by
  unfold Qbs
  cases γ[i]? with
  | none=>rfl
  | some s=>cases s <;> rfl
noncomputable def ifK (s1 s2:MSt) (γ:PEnv) (k:Bool):Option Out:=if k=true then s1 γ else s2 γ
theorem ifK_t (s1 s2:MSt) (γ:PEnv):ifK s1 s2 γ true=s1 γ:=rfl
theorem ifK_f (s1 s2:MSt) (γ:PEnv):ifK s1 s2 γ false=s2 γ:=rfl
theorem ev_sIf (t:PEnv→Option Bool) (s1 s2:MSt) (γ:PEnv):sIf t s1 s2 γ=(t γ).bind (ifK s1 s2 γ):=rfl
theorem ev_sNx (γ:PEnv):sNx γ=some (.nx γ):=rfl
theorem ev_sBk (γ:PEnv):sBk γ=some (.bk γ):=rfl
theorem ev_sCt (γ:PEnv):sCt γ=some (.ct γ):=rfl
theorem ev_sSet (ms:List Nat) (i:Nat) (m:MEx) (γ:PEnv):sSet ms i m γ=(m γ).map fun r => .nx ((ZD (flat r) ms γ).set i (.fz r)):=rfl
theorem ev_sSetO (ms:List Nat) (i:Nat) (m:PEnv→Option (List PV)) (γ:PEnv):Yv ms i m γ=(m γ).map fun xs => .nx ((ZD (xs.all flat) ms γ).set i (.ow xs)):=rfl
noncomputable def augK (i:Nat) (γ:PEnv) (r:PV):Option Out:=if flat r=true then some (.nx (γ.set i (.fz r))) else none
theorem augK_i (i:Nat) (γ:PEnv) (r:Int):augK i γ (.int r)=some (.nx (γ.set i (.fz (.int r)))):=rfl
theorem ev_sAug (i:Nat) (f:PV→PV→Option PV) (m:MEx) (γ:PEnv):sAug i f m γ=(getV γ i).bind fun x=>(m γ).bind fun y=>(f x y).bind (augK i γ):=rfl
theorem ev_gSet (i:Nat) (p:PV) (γ:PEnv):gSet i p γ=some (γ.set i (.fz p)):=rfl
theorem gSet2_t (i j:Nat) (x y:PV) (γ:PEnv):XC i j (.tup [x,y]) γ=some ((γ.set i (.fz x)).set j (.fz y)):=rfl
theorem gSet3_t (i j k:Nat) (x y z:PV) (γ:PEnv):gSet3 i j k (.tup [x,y,z]) γ=some (((γ.set i (.fz x)).set j (.fz y)).set k (.fz z)):=rfl
noncomputable def appK (ms:List Nat) (i:Nat) (γ:PEnv) (r:PV):Option Slot→Option Out
  | some (.ow xs)=>if xs.length < LIM∧(flat r || !ms.contains i)=true then some (.nx ((ZD (flat r) ms γ).set i (.ow (xs++[r])))) else none
  | _=>none
theorem Qau {ms:List Nat} {i:Nat} {γ:PEnv} {r:PV} {xs:List PV} (h:xs.length≤100000) (h2:(flat r || !ms.contains i)=true):appK ms i γ r (some (.ow xs))=some (.nx ((ZD (flat r) ms γ).set i (.ow (xs++[r])))):=if_pos ⟨lt_lim h,h2⟩
theorem ev_sApp (ms:List Nat) (i:Nat) (m:MEx) (γ:PEnv):sApp ms i m γ=(m γ).bind fun r=>appK ms i γ r γ[i]?:=by
  unfold sApp
  cases γ[i]? with
  | none=>cases m γ <;> rfl
  | some s =>
    cases s with
    | ow xs=>rfl
    | _=>cases m γ <;> rfl
noncomputable def sixK (ms:List Nat) (i:Nat) (γ:PEnv) (r k:PV):Option Slot→Option Out
  | some (.ow xs)=>match k with
    | .int j=>(ixN xs.length j).bind fun n=>if (flat r || !ms.contains i)=true then some (.nx ((ZD (flat r) ms γ).set i (.ow (xs.set n r)))) else none
    | _=>none
  | _=>none
theorem sixK_ow {ms:List Nat} {i:Nat} {γ:PEnv} {r:PV} {xs:List PV} {j:Int} (h0:0≤j) (h1:j < xs.length) (h2:(flat r || !ms.contains i)=true):sixK ms i γ r (.int j) (some (.ow xs))=some (.nx ((ZD (flat r) ms γ).set i (.ow (xs.set j.toNat r)))):=by
  show ((ixN xs.length j).bind fun n=>if (flat r || !ms.contains i)=true then some (Out.nx ((ZD (flat r) ms γ).set i (.ow (xs.set n r)))) else none)=_
  unfold ixN
  rw [if_pos h0,if_pos h1,Option.bind_some,if_pos h2]
theorem ev_sSetIx (ms:List Nat) (i:Nat) (mv mi:MEx) (γ:PEnv):Qco ms i mv mi γ=(mv γ).bind fun r=>(mi γ).bind fun k=>sixK ms i γ r k γ[i]?:=by
  unfold Qco
  cases γ[i]? with
  | none=>cases mv γ <;> cases mi γ <;> rfl
  | some s =>
    cases s with
    | ow xs =>
      cases mv γ with
      | none=>rfl
      | some r =>
        cases mi γ with
        | none=>rfl
        | some k=>cases k <;> rfl
    | _=>cases mv γ <;> cases mi γ <;> rfl
theorem ev_sFor (ms:List Nat) (mi:PEnv→Option (List PV)) (g:PV→PEnv→Option PEnv) (b:MSt) (γ:PEnv):sFor ms mi g b γ=(mi γ).bind fun xs=>forL g b xs (frz ms γ):=rfl
theorem ev_sForR (mi:PEnv→Option (List PV)) (g:PV→PEnv→Option PEnv) (b:MSt) (γ:PEnv):Qgp mi g b γ=(mi γ).bind fun xs=>forL g b xs γ:=rfl
noncomputable def capO:Option PV→Slot
  | some p => .fz p
  | none => .un
theorem capO_s (p:PV):capO (some p) = .fz p:=rfl
theorem ev_capS (γ:PEnv) (j:Nat):capS γ j=capO (getV γ j):=by
  unfold capS
  cases getV γ j <;> rfl
theorem ev_blkG (nt:Nat) (caps:List Nat) (γ:PEnv):blkG nt caps γ=List.replicate nt .un++caps.map (capS γ):=rfl
theorem ev_tYesM (γ:PEnv):Qap γ=some true:=rfl
theorem ev_mTru (m:MEx) (γ:PEnv):mTru m γ=(m γ).bind tru:=rfl
theorem tru_i (i:Int):tru (.int i)=some (i != 0):=rfl
theorem tru_b (i:Bool):tru (.bl i)=some i:=rfl
theorem tru_l (i:List PV):tru (.lst i)=some (!i.isEmpty):=rfl
theorem tru_t (i:List PV):tru (.tup i)=some (!i.isEmpty):=rfl
noncomputable def andK (t2:PEnv→Option Bool) (γ:PEnv) (x:Bool):Option Bool:=if x=true then t2 γ else some false
theorem andK_t (t2:PEnv→Option Bool) (γ:PEnv):andK t2 γ true=t2 γ:=rfl
theorem andK_f (t2:PEnv→Option Bool) (γ:PEnv):andK t2 γ false=some false:=rfl
theorem ev_bAnd (t1 t2:PEnv→Option Bool) (γ:PEnv):bAnd t1 t2 γ=(t1 γ).bind (andK t2 γ):=rfl
noncomputable def orK (t2:PEnv→Option Bool) (γ:PEnv) (x:Bool):Option Bool:=if x=true then some true else t2 γ
theorem orK_t (t2:PEnv→Option Bool) (γ:PEnv):orK t2 γ true=some true:=rfl
theorem orK_f (t2:PEnv→Option Bool) (γ:PEnv):orK t2 γ false=t2 γ:=rfl
theorem ev_bOr (t1 t2:PEnv→Option Bool) (γ:PEnv):bOr t1 t2 γ=(t1 γ).bind (orK t2 γ):=rfl
theorem ev_bNot (t1:PEnv→Option Bool) (γ:PEnv):bNot t1 γ=(t1 γ).map not:=rfl
noncomputable def vAndK (m2:MEx) (γ:PEnv) (k:Bool):Option PV:=if k=true then m2 γ else some (.bl false)
theorem vAndK_t (m2:MEx) (γ:PEnv):vAndK m2 γ true=m2 γ:=rfl
theorem vAndK_f (m2:MEx) (γ:PEnv):vAndK m2 γ false=some (.bl false):=rfl
theorem ev_vAnd (m1 m2:MEx) (γ:PEnv):vAnd m1 m2 γ=(m1 γ).bind fun x=>(isB x).bind (vAndK m2 γ):=rfl
theorem ev_vNot (m1:MEx) (γ:PEnv):vNot m1 γ=(m1 γ).bind fun x=>(isB x).map fun k => .bl (!k):=rfl
noncomputable def chK (g:PV→PV→Option PV) (m3:MEx) (γ:PEnv) (y:PV) (k:Bool):Option PV:=if k=true then (m3 γ).bind fun w=>g y w else some (.bl false)
theorem chK_t (g:PV→PV→Option PV) (m3:MEx) (γ:PEnv) (y:PV):chK g m3 γ y true=(m3 γ).bind (g y):=rfl
theorem chK_f (g:PV→PV→Option PV) (m3:MEx) (γ:PEnv) (y:PV):chK g m3 γ y false=some (.bl false):=rfl
theorem ev_ch3 (f g:PV→PV→Option PV) (m1 m2 m3:MEx) (γ:PEnv):ch3 f g m1 m2 m3 γ=(m1 γ).bind fun x=>(m2 γ).bind fun y=>(f x y).bind fun z=>(isB z).bind (chK g m3 γ y):=rfl
theorem ev_un1 (f:PV→Option PV) (m:MEx) (γ:PEnv):un1 f m γ=(m γ).bind f:=rfl
theorem pNeg_i (i:Int):pNeg (.int i)=some (.int (-i)):=rfl
noncomputable def mtK {α:Type} (T:String) (g:PV→List PV→Option α) (q:Option (List PV)) (p:PV):Option α:=if tyOk T p=true then q.bind (g p) else none
theorem mtK_i {α:Type} (g:PV→List PV→Option α) (q:Option (List PV)) (i:Int):mtK "int" g q (.int i)=q.bind (g (.int i)):=rfl
theorem mtK_s {α:Type} (g:PV→List PV→Option α) (q:Option (List PV)) (i:Str):mtK "str" g q (.str i)=q.bind (g (.str i)):=rfl
theorem mtK_l {α:Type} (g:PV→List PV→Option α) (q:Option (List PV)) (i:List PV):mtK "list" g q (.lst i)=q.bind (g (.lst i)):=rfl
theorem ev_mMt {α:Type} (T:String) (g:PV→List PV→Option α) (m:MEx) (ma:PEnv→Option (List PV)) (γ:PEnv):mMt T g m ma γ=(m γ).bind (mtK T g (ma γ)):=rfl
theorem ev_mMt0 {α:Type} (T:String) (g:PV→List PV→Option α) (m:MEx) (γ:PEnv):mMt0 T g m γ=(m γ).bind (mtK T g (some [])):=rfl
theorem ev_sl3 {α:Type} (f:PV→Option Int→Option Int→Option α) (m:MEx) (ml mh:PEnv→Option (Option Int)) (γ:PEnv):sl3 f m ml mh γ=(m γ).bind fun x=>(ml γ).bind fun l=>(mh γ).bind (f x l):=rfl
theorem ev_mNo (γ:PEnv):mNo γ=some none:=rfl
theorem ev_mSo (m:MEx) (γ:PEnv):mSo m γ=(m γ).bind pInt:=rfl
theorem pInt_i (i:Int):pInt (.int i)=some (some i):=rfl
theorem pCut_l (xs:List PV) (lo hi:Option Int):pCut (.lst xs) lo hi=some (cutP xs lo hi):=rfl
theorem pItems_l (xs:List PV):QeF [.lst xs]=some xs:=rfl
theorem pItems_t (xs:List PV):QeF [.tup xs]=some xs:=rfl
theorem pTuple_l (xs:List PV):Qae [.lst xs]=some (.tup xs):=rfl
theorem pTuple_t (xs:List PV):Qae [.tup xs]=some (.tup xs):=rfl
theorem pMax_i (i j:Int):pMax [.int i,.int j]=some (.int (if j > i then j else i)):=rfl
theorem pAdd_s {a b:Str} (h:a.length + b.length≤100000):pAdd (.str a) (.str b)=some (.str (a++b)):=if_pos (Qdx h)
theorem pCat_l {a b:List PV} (h:a.length + b.length≤100000):pCat (.lst a) (.lst b)=some (a++b):=if_pos (Qdx h)
theorem tru_bit (b:Bool):(((if b=true then 1 else 0):Int) != 0)=b:=by cases b <;> rfl
theorem isInt_i (i:Int):isInt (.int i)=true:=rfl
theorem isBl_i (i:Int):isBl (.int i)=false:=rfl
theorem isBl_b (i:Bool):isBl (.bl i)=true:=rfl
theorem isStr_s (i:Str):isStr (.str i)=true:=rfl
theorem isTup_t (i:List PV):Qes (.tup i)=true:=rfl
theorem isTup_l (i:List PV):Qes (.lst i)=false:=rfl
theorem isLst_l (i:List PV):isLst (.lst i)=true:=rfl
theorem isN_i (i:Int):isN (.int i)=false:=rfl
theorem isN_n:isN .non=true:=rfl
theorem isN_t (i:List PV):isN (.tup i)=false:=rfl
theorem forL_nx {g:PV→PEnv→Option PEnv} {b:MSt} {x:PV} {xs:List PV} {γ γ1 γ2:PEnv} (h1:g x γ=some γ1) (h2:b γ1=some (.nx γ2)):forL g b (x :: xs) γ=forL g b xs γ2:=by
  rw [forL,h1,Option.bind_some,h2,Option.bind_some]
theorem forL_nil (g:PV→PEnv→Option PEnv) (b:MSt) (γ:PEnv):forL g b [] γ=some (.nx γ):=rfl
theorem runV_0 {N:Nat} {m:MSt}:runV N 0 m []=(m (ZR N [])).bind outV:=rfl
theorem runV_1 {N:Nat} {m:MSt} {a0:PV}:runV N 1 m [a0]=(m (ZR N [a0])).bind outV:=rfl
theorem runV_2 {N:Nat} {m:MSt} {a0 a1:PV}:runV N 2 m [a0,a1]=(m (ZR N [a0,a1])).bind outV:=rfl
theorem runV_3 {N:Nat} {m:MSt} {a0 a1 a2:PV}:runV N 3 m [a0,a1,a2]=(m (ZR N [a0,a1,a2])).bind outV:=rfl
theorem runV_4 {N:Nat} {m:MSt} {a0 a1 a2 a3:PV}:runV N 4 m [a0,a1,a2,a3]=(m (ZR N [a0,a1,a2,a3])).bind outV:=rfl
theorem runV_5 {N:Nat} {m:MSt} {a0 a1 a2 a3 a4:PV}:runV N 5 m [a0,a1,a2,a3,a4]=(m (ZR N [a0,a1,a2,a3,a4])).bind outV:=rfl
theorem runV_6 {N:Nat} {m:MSt} {a0 a1 a2 a3 a4 a5:PV}:runV N 6 m [a0,a1,a2,a3,a4,a5]=(m (ZR N [a0,a1,a2,a3,a4,a5])).bind outV:=rfl
theorem runV_7 {N:Nat} {m:MSt} {a0 a1 a2 a3 a4 a5 a6:PV}:runV N 7 m [a0,a1,a2,a3,a4,a5,a6]=(m (ZR N [a0,a1,a2,a3,a4,a5,a6])).bind outV:=rfl
noncomputable def frzS:Slot→Slot
  | .ow xs => .fz (.lst xs)
  | s=>s
theorem frzS_ow (xs:List PV):frzS (.ow xs) = .fz (.lst xs):=rfl
theorem frzS_fz (p:PV):frzS (.fz p) = .fz p:=rfl
theorem frzS_un:frzS .un = .un:=rfl
theorem frz_nil (γ:PEnv):frz [] γ=γ:=rfl
theorem frz_cons (i:Nat) (ms:List Nat) (γ:PEnv):frz (i :: ms) γ=frz ms (frz1 γ i):=rfl
theorem frz1_0 (s:Slot) (γ:PEnv):frz1 (s :: γ) 0=frzS s :: γ:=by cases s <;> rfl
theorem frz1_s (s:Slot) (γ:PEnv) (i:Nat):frz1 (s :: γ) (i + 1)=s :: frz1 γ i:=by
  unfold frz1
  rw [List.getElem?_cons_succ]
  cases γ[i]? with
  | none=>rfl
  | some t=>cases t <;> rfl
theorem ev_mN (n:Nat) (γ:PEnv):mN n γ=some (pN n):=rfl
noncomputable def encN (xs:List Nat):List PV:=xs.map pN
theorem encN_len (xs:List Nat):(encN xs).length=xs.length:=List.length_map _
theorem flat_n (n:Nat):flat (pN n)=true:=rfl
theorem encN_flat (xs:List Nat):(encN xs).all flat=true:=by
  unfold encN
  rw [List.all_map,List.all_eq_true]
  exact fun _ _=>rfl
theorem QjZ (xs:List Nat):encN xs=(xs.map fun (k:Nat)=>(k:Int)).map .int:=by unfold encN;rw [List.map_map];rfl
theorem Qei (xs ys:List Nat):encN xs++encN ys=encN (xs++ys):=by unfold encN;rw [List.map_append]
theorem pAdd_n (a b:Nat):pAdd (pN a) (pN b)=some (pN (a + b)):=by
  unfold pN;rw [pAdd_i];simp
theorem pSub_n {a b:Nat} (h:b≤a):pSub (pN a) (pN b)=some (pN (a - b)):=by
  unfold pN;rw [pSub_i,Int.ofNat_sub h]
theorem pMul_ln {a b:Nat} (h:a < 2 ^ 60):pMul (pN a) (pN b)=some (pN (a * b)):=by
  unfold pN;rw [pMul_l (by omega) (by omega)];simp
theorem pMul_rn {a b:Nat} (h:b < 2 ^ 60):pMul (pN a) (pN b)=some (pN (a * b)):=by
  unfold pN;rw [pMul_r (by omega) (by omega)];simp
theorem pMod_n {a b:Nat} (h:0 < b):pMod (pN a) (pN b)=some (pN (a % b)):=by
  unfold pN;rw [pMod_i (by omega)];simp
theorem pMod_in {c:Int} {b:Nat} (h:0 < b):pMod (.int c) (pN b)=some (pN (c % (b:Int)).toNat):=by
  unfold pN;rw [pMod_i (by omega),Int.toNat_of_nonneg (Int.emod_nonneg _ (by omega))]
theorem pDiv_n {a b:Nat} (h:0 < b) (h2:b < 2 ^ 100):pDiv (pN a) (pN b)=some (pN (a / b)):=by
  unfold pN;rw [pDiv_i (by omega) (by omega)];simp
theorem pDiv_in {c:Int} {b:Nat} (h:0 < b) (h2:b < 2 ^ 100):pDiv (.int c) (pN b)=some (.int (c / (b:Int))):=by
  unfold pN;rw [pDiv_i (by omega) (by omega)]
theorem pLt_n (a b:Nat):pLt (pN a) (pN b)=some (.bl (decide (a < b))):=by
  unfold pN;rw [pLt_i];simp
theorem pLe_n (a b:Nat):pLe (pN a) (pN b)=some (.bl (decide (a≤b))):=by
  unfold pN;rw [pLe_i];simp
theorem pGt_n (a b:Nat):pGt (pN a) (pN b)=some (.bl (decide (b < a))):=by
  unfold pN;rw [pGt_i];simp
theorem Qcz (a b:Nat):((a:Int)==(b:Int))=(a==b):=by
  rw [Bool.eq_iff_iff,beq_iff_eq,beq_iff_eq];exact Int.ofNat_inj
theorem pEq_n (a b:Nat):pEq (pN a) (pN b)=some (.bl (a==b)):=by
  unfold pN;rw [pEq_i,Qcz]
theorem pNe_n (a b:Nat):pNe (pN a) (pN b)=some (.bl (!(a==b))):=by
  unfold pN;rw [pNe_i,Qcz]
theorem bAnd_n (a b:Nat):Builtin.bitAnd (a:Int) (b:Int)=((a&&&b:Nat):Int):=by
  rw [bitAnd_pp (by omega) (by omega)];simp
theorem bOr_n (a b:Nat):Builtin.bitOr (a:Int) (b:Int)=((a|||b:Nat):Int):=by
  unfold Builtin.bitOr
  rw [bitAnd_nn (by unfold Builtin.bitNot;omega) (by unfold Builtin.bitNot;omega)]
  unfold Builtin.bitNot
  have e:∀ a:Nat,(-(-(a:Int) - 1) - 1).toNat=a:=fun a=>by omega
  rw [e,e]
  omega
theorem pAnd_n (a b:Nat):pAnd (pN a) (pN b)=some (pN (a&&&b)):=by unfold pN;rw [pAnd_i,bAnd_n]
theorem pOr_n (a b:Nat):pOr (pN a) (pN b)=some (pN (a|||b)):=by unfold pN;rw [pOr_i,bOr_n]
theorem pShl_n {k:Nat} (h:k≤1000000):pShl (pN 1) (pN k)=some (pN (2 ^ k)):=by
  have e:=pShl_one (k:=(k:Int)) (by omega) (by omega)
  unfold pN
  rw [show ((1:Nat):Int)=1 from rfl,e];simp
theorem pShr_n (m k:Nat):pShr (pN m) (pN k)=some (pN (m / 2 ^ k)):=by
  unfold pN;rw [pShr_i (by omega)];simp
theorem testBit_odd (m k:Nat):((m / 2 ^ k)&&&1 != 0)=m.testBit k:=by
  rw [Nat.testBit,Nat.shiftRight_eq_div_pow,Nat.and_comm]
theorem testBit_mod (m k:Nat):(m / 2 ^ k % 2==1)=m.testBit k:=by
  rw [← testBit_odd,Nat.and_one_is_mod]
  have h:m / 2 ^ k % 2=0∨m / 2 ^ k % 2=1:=by omega
  rcases h with h | h <;> rw [h] <;> rfl
theorem pMax_n (a b:Nat):pMax [pN a,pN b]=some (pN (max a b)):=by
  unfold pN;rw [pMax_i];congr 2;split <;> omega
theorem pLen_ln (xs:List PV):pLen [.lst xs]=some (pN xs.length):=rfl
theorem pLen_tn (xs:List PV):pLen [.tup xs]=some (pN xs.length):=rfl
theorem pLen_sn {z:Str} (h:z.length≤100000):pLen [.str z]=some (pN z.length):=if_pos (Qdx h)
theorem rg1_n {n:Nat} (h:n≤100000):rg1 (pN n)=some (encN (List.range n)):=by
  unfold pN;rw [rg1_i (by omega) (by omega),Int.toNat_natCast];rfl
theorem pBits_pn (m:Nat):Qgu (pN m) []=some (pN (bitsN m)):=QjA m
theorem mtK_n {α:Type} (g:PV→List PV→Option α) (q:Option (List PV)) (i:Nat):mtK "int" g q (pN i)=q.bind (g (pN i)):=rfl
theorem isInt_n (i:Nat):isInt (pN i)=true:=rfl
theorem isBl_n (i:Nat):isBl (pN i)=false:=rfl
theorem isTup_n (i:Nat):Qes (pN i)=false:=rfl
theorem isN_pn (i:Nat):isN (pN i)=false:=rfl
theorem tru_n (i:Nat):tru (pN i)=some (i != 0):=by
  unfold pN;rw [tru_i]
  have:=Qcz i 0
  show some (!((i:Int)==((0:Nat):Int)))=_
  rw [this];rfl
theorem pNeg_n (i:Nat):pNeg (pN i)=some (.int (-(i:Int))):=rfl
theorem atI_last1 (xs:List PV) (v:PV):atI (xs++[v]) (-((1:Nat):Int))=some v:=atI_last xs v
theorem pInt_n (i:Nat):pInt (pN i)=some (some (i:Int)):=rfl
theorem Qhx {α:Type} (xs:List α) (i:Nat):atI xs (i:Int)=xs[i]?:=by
  cases h:xs[i]? with
  | some v=>exact atI_nat h
  | none =>
    have:=List.getElem?_eq_none_iff.mp h
    unfold atI ixN
    rw [if_pos (by omega),if_neg (by omega)]
    rfl
theorem pIx_ln (xs:List PV) (i:Nat):pIx (.lst xs) (pN i)=xs[i]?:=Qhx xs i
theorem pIx_tn (xs:List PV) (i:Nat):pIx (.tup xs) (pN i)=xs[i]?:=Qhx xs i
theorem encN_get (xs:List Nat) (i:Nat):(encN xs)[i]?=(xs[i]?).map pN:=by unfold encN;rw [List.getElem?_map]
theorem augK_n (i:Nat) (γ:PEnv) (r:Nat):augK i γ (pN r)=some (.nx (γ.set i (.fz (pN r)))):=rfl
theorem sixK_n {ms:List Nat} {i:Nat} {γ:PEnv} {r:PV} {xs:List PV} {j:Nat} (h1:j < xs.length) (h2:(flat r || !ms.contains i)=true):sixK ms i γ r (pN j) (some (.ow xs))=some (.nx ((ZD (flat r) ms γ).set i (.ow (xs.set j r)))):=by
  have:=sixK_ow (ms:=ms) (i:=i) (γ:=γ) (r:=r) (xs:=xs) (j:=(j:Int)) (by omega) (by omega) h2
  rw [Int.toNat_natCast] at this
  exact this
theorem peq_pn (a b:Nat):peq (pN a) (pN b)=(a==b):=by
  unfold pN
  have:peq (.int (a:Int)) (.int (b:Int))=((a:Int)==(b:Int)):=rfl
  rw [this,Qcz]
theorem okv_n (a:Nat):okv (pN a)=true:=QcF _
theorem Qha (xs:List Nat):(encN xs).all okv=true:=by
  unfold encN
  rw [List.all_map,List.all_eq_true]
  exact fun _ _=>okv_n _
theorem any_pn (k:Nat) (xs:List Nat):((encN xs).any fun y=>peq y (pN k))=decide (k∈xs):=by
  unfold encN
  rw [List.any_map,Bool.eq_iff_iff,List.any_eq_true]
  simp [peq_pn]
theorem pIn_nl (k:Nat) (xs:List Nat):pIn (pN k) (.lst (encN xs))=some (.bl (decide (k∈xs))):=by
  have e:pIn (pN k) (.lst (encN xs))=if okv (pN k)=true∧(encN xs).all okv=true then some (.bl ((encN xs).any fun y=>peq y (pN k))) else none:=rfl
  rw [e,if_pos ⟨okv_n k,Qha xs⟩,any_pn]
theorem pIn_nt (k:Nat) (xs:List Nat):pIn (pN k) (.tup (encN xs))=some (.bl (decide (k∈xs))):=by
  have e:pIn (pN k) (.tup (encN xs))=if okv (pN k)=true∧(encN xs).all okv=true then some (.bl ((encN xs).any fun y=>peq y (pN k))) else none:=rfl
  rw [e,if_pos ⟨okv_n k,Qha xs⟩,any_pn]
theorem QcN {x y:PV} {b:Bool} (h:pIn x y=some (.bl b)):Xy x y=some (.bl (!b)):=by
  unfold Xy
  rw [h]
  rfl
theorem pNotIn_nl (k:Nat) (xs:List Nat):Xy (pN k) (.lst (encN xs))=some (.bl (!decide (k∈xs))):=QcN (pIn_nl k xs)
theorem pNotIn_nt (k:Nat) (xs:List Nat):Xy (pN k) (.tup (encN xs))=some (.bl (!decide (k∈xs))):=QcN (pIn_nt k xs)
theorem compN {α:Type} {g:PV→PEnv→Option PEnv} {t:PEnv→Option Bool} {e:MEx} {γ:PEnv} (b:Nat→Bool) (y:Nat→PV) (xs:List Nat) (h:∀ x∈xs,∃ γ1,g (pN x) γ=some γ1∧t γ1=some (b x)∧(b x=true→e γ1=some (y x))) :
    Xc g t e γ (encN xs)=some ((xs.filter b).map y):=Qej pN b y xs h
theorem QiH {g:PV→PEnv→Option PEnv} {e:MEx} {γ:PEnv} (y:Nat→PV) (xs:List Nat) (h:∀ x∈xs,∃ γ1,g (pN x) γ=some γ1∧e γ1=some (y x)) :
    Xc g Qap e γ (encN xs)=some (xs.map y):=XU pN y xs h
theorem compNN {g:PV→PEnv→Option PEnv} {e:MEx} {γ:PEnv} (y:Nat→Nat) (xs:List Nat) (h:∀ x∈xs,∃ γ1,g (pN x) γ=some γ1∧e γ1=some (pN (y x))) :
    Xc g Qap e γ (encN xs)=some (encN (xs.map y)):=by
  rw [QiH (fun x=>pN (y x)) xs h];unfold encN;rw [List.map_map];rfl
theorem Qgk {g:PV→PEnv→Option PEnv} {t:PEnv→Option Bool} {e:MEx} {γ:PEnv} (b:Nat→Bool) (xs:List Nat) (h:∀ x∈xs,∃ γ1,g (pN x) γ=some γ1∧t γ1=some (b x)∧e γ1=some (pN x)) :
    Xc g t e γ (encN xs)=some (encN (xs.filter b)):=by
  rw [compN (α:=Nat) b pN xs fun x hx=>by
    obtain ⟨γ1,h1,h2,h3⟩:=h x hx
    exact ⟨γ1,h1,h2,fun _=>h3⟩]
  rfl
end L2.PM

noncomputable section
namespace L2.PM
open PySem PySem.Spec PyProof.Rows

theorem cutP_map {α β:Type} (f:α→β) (xs:List α) (lo hi:Option Int):cutP (xs.map f) lo hi=(cutP xs lo hi).map f:=by
  unfold cutP
  rw [List.length_map,← List.map_drop,← List.map_take]
theorem cutP_len {α:Type} (xs:List α) (lo hi:Option Int):(cutP xs lo hi).length≤xs.length:=by
  unfold cutP
  rw [List.length_take,List.length_drop]
  omega
theorem cutP_nn {α:Type} (xs:List α) (a b:Nat):cutP xs (some (a:Int)) (some (b:Int))=(xs.take b).drop a:=by
  unfold cutP
  rw [HT.sIx_nat,HT.sIx_nat]
  apply List.ext_getElem?
  intro i
  rw [List.getElem?_take,List.getElem?_drop,List.getElem?_drop,List.getElem?_take]
  by_cases h:min a xs.length + i < xs.length
  · have ha:min a xs.length=a:=by omega
    rw [ha]
    by_cases h2:i < min b xs.length - a
    · rw [if_pos h2,if_pos (by omega)]
    · rw [if_neg h2,if_neg (by omega)]
  · have hn:xs[min a xs.length + i]?=none:=List.getElem?_eq_none (by omega)
    rw [hn]
    by_cases h3:a + i < b
    · rw [if_pos h3,List.getElem?_eq_none (by omega)]
      split <;> rfl
    · rw [if_neg h3]
      split <;> rfl
theorem QjJ (ss:List Int):(QaP ss).length=ss.length:=(Yo ss).length_eq
theorem peq_s (a b:Str):peq (.str a) (.str b)=(a==b):=rfl
theorem pNe_s {a b:Str} (ha:PyData.strOk a=true) (hb:PyData.strOk b=true):pNe (.str a) (.str b)=some (.bl (!(a==b))):=by rw [QeE (QiY ha) (QiY hb),peq_s]
theorem allflat_nats (ns:List Nat):(ns.map fun (k:Nat)=>PV.int k).all flat=true:=by simp [flat]
theorem EVc:type_of% (And.intro (And.intro (And.intro (And.intro (And.intro (And.intro (And.intro @ev_mN (And.intro @encN_len @encN_flat)) (And.intro (And.intro @flat_n @pAdd_n) (And.intro @pSub_n @pMul_ln))) (And.intro (And.intro @pMul_rn (And.intro @pMod_n @pMod_in)) (And.intro (And.intro @pDiv_n @pDiv_in) (And.intro @pLt_n @pLe_n)))) (And.intro (And.intro (And.intro @pGt_n (And.intro @pEq_n @pNe_n)) (And.intro (And.intro @pAnd_n @pOr_n) (And.intro @pShl_n @pShr_n))) (And.intro (And.intro @testBit_odd (And.intro @testBit_mod @pMax_n)) (And.intro (And.intro @rg1_n @mtK_n) (And.intro @isInt_n @isBl_n))))) (And.intro (And.intro (And.intro (And.intro @isTup_n (And.intro @isN_pn @tru_n)) (And.intro (And.intro @pNeg_n @atI_last1) (And.intro @pInt_n @pIx_ln))) (And.intro (And.intro @pIx_tn (And.intro @encN_get @augK_n)) (And.intro (And.intro @sixK_n @pIn_nl) (And.intro @pIn_nt @pNotIn_nl)))) (And.intro (And.intro (And.intro @pNotIn_nt (And.intro @runV_0 @runV_1)) (And.intro (And.intro @runV_2 @runV_3) (And.intro @runV_4 @runV_5))) (And.intro (And.intro @runV_6 (And.intro @runV_7 @ev_startG1)) (And.intro (And.intro @ev_sSeq @seqK_nx) (And.intro @seqK_rt @seqK_ro)))))) (And.intro (And.intro (And.intro (And.intro (And.intro @seqK_ct (And.intro @seqK_bk @ev_sSet)) (And.intro (And.intro @ev_sSetO @ev_sRet) (And.intro @ev_sRetO @ev_sRetV))) (And.intro (And.intro @retS_ow (And.intro @retS_fz @ev_sIf)) (And.intro (And.intro @ifK_t @ifK_f) (And.intro @ev_sNx @ev_sBk)))) (And.intro (And.intro (And.intro @ev_sCt (And.intro @ev_bin2 @ev_mVar)) (And.intro (And.intro @ev_mC @ev_mCall) (And.intro @ev_mLst @ev_mTup))) (And.intro (And.intro @tupK_ok (And.intro @ev_mLim @limK_ok)) (And.intro (And.intro @ev_aCons @ev_aNil) (And.intro @ev_truB @isB_bl))))) (And.intro (And.intro (And.intro (And.intro @ev_mIsi (And.intro @isiK_i @isiK_b)) (And.intro (And.intro @isiK_s @isiK_t) (And.intro @isiK_l @isiK_0))) (And.intro (And.intro @isiK_n (And.intro @getV_0 @getV_s)) (And.intro (And.intro @val_fz @val_ow) (And.intro @pAdd_i @pSub_i)))) (And.intro (And.intro (And.intro @pLt_i (And.intro @pLe_i @pGt_i)) (And.intro (And.intro @pEq_i @pNe_i) (And.intro @pLen_ln @pLen_tn))) (And.intro (And.intro (And.intro @pIx_lst @pIx_tup) (And.intro @keepE_true @keepE_false)) (And.intro (And.intro @flat_int @flat_bl) (And.intro @flat_str @flat_non))))))) (And.intro (And.intro (And.intro (And.intro (And.intro (And.intro @flat_tup (And.intro @flat_lst @outV_rt)) (And.intro (And.intro @outV_ro @outV_nx) (And.intro @ev_bAnd @andK_t))) (And.intro (And.intro @andK_f (And.intro @ev_bOr @orK_t)) (And.intro (And.intro @orK_f @ev_bNot) (And.intro @ev_vAnd @vAndK_t)))) (And.intro (And.intro (And.intro @vAndK_f (And.intro @ev_vNot @ev_ch3)) (And.intro (And.intro @chK_t @chK_f) (And.intro @ev_un1 @pNeg_i))) (And.intro (And.intro @ev_mMt0 (And.intro @ev_mMt @mtK_i)) (And.intro (And.intro @mtK_s @mtK_l) (And.intro @ev_sForR @ev_sFor))))) (And.intro (And.intro (And.intro (And.intro @ev_mComp (And.intro @cmpK_ok @ev_iRg1)) (And.intro (And.intro @rg1_i @ev_iLst) (And.intro @itL_l @ev_iTpl))) (And.intro (And.intro @itT_t (And.intro @ev_iSeq @itS_l)) (And.intro (And.intro @itS_t @pEnum_l) (And.intro @pEnum_t @pRev_l)))) (And.intro (And.intro (And.intro @ev_blkG (And.intro @ev_capS @capO_s)) (And.intro (And.intro @ev_gSet @gSet2_t) (And.intro @gSet3_t @ev_mTru))) (And.intro (And.intro @tru_i (And.intro @tru_b @tru_l)) (And.intro (And.intro @tru_t @ev_tYesM) (And.intro @pMod_i @pDiv_i)))))) (And.intro (And.intro (And.intro (And.intro (And.intro @pMul_l (And.intro @pMul_r @pBits_pn)) (And.intro (And.intro @tru_bit @ev_sl3) (And.intro @ev_mNo @ev_mSo))) (And.intro (And.intro @pInt_i (And.intro @pCut_l @pItems_l)) (And.intro (And.intro @pItems_t @pTuple_l) (And.intro @pTuple_t @pMax_i)))) (And.intro (And.intro (And.intro @pLen_sn (And.intro @pAdd_s @pCat_l)) (And.intro (And.intro @isInt_i @isBl_i) (And.intro @isBl_b @isStr_s))) (And.intro (And.intro @isTup_t (And.intro @isTup_l @isLst_l)) (And.intro (And.intro @isN_i @isN_n) (And.intro @isN_t @pIs_non))))) (And.intro (And.intro (And.intro (And.intro @pIsNot_non (And.intro @forL_nil @frz_nil)) (And.intro (And.intro @frz_cons @frz1_0) (And.intro @frz1_s @frzS_ow))) (And.intro (And.intro @frzS_fz (And.intro @frzS_un @ev_sAug)) (And.intro (And.intro @augK_i @ev_sApp) (And.intro @ev_sSetIx @sixK_ow)))) (And.intro (And.intro (And.intro @allflat_ints (And.intro @allflat_strs @allflat_nats)) (And.intro (And.intro @cutP_map @Nat.not_lt_zero) (And.intro @decide_true @decide_false))) (And.intro (And.intro (And.intro @Bool.not_true @Bool.not_false) (And.intro @Bool.true_or @Bool.false_or)) (And.intro (And.intro @Bool.or_true @Bool.or_false) (And.intro @Bool.true_and @Bool.false_and)))))))):=(And.intro (And.intro (And.intro (And.intro (And.intro (And.intro (And.intro @ev_mN (And.intro @encN_len @encN_flat)) (And.intro (And.intro @flat_n @pAdd_n) (And.intro @pSub_n @pMul_ln))) (And.intro (And.intro @pMul_rn (And.intro @pMod_n @pMod_in)) (And.intro (And.intro @pDiv_n @pDiv_in) (And.intro @pLt_n @pLe_n)))) (And.intro (And.intro (And.intro @pGt_n (And.intro @pEq_n @pNe_n)) (And.intro (And.intro @pAnd_n @pOr_n) (And.intro @pShl_n @pShr_n))) (And.intro (And.intro @testBit_odd (And.intro @testBit_mod @pMax_n)) (And.intro (And.intro @rg1_n @mtK_n) (And.intro @isInt_n @isBl_n))))) (And.intro (And.intro (And.intro (And.intro @isTup_n (And.intro @isN_pn @tru_n)) (And.intro (And.intro @pNeg_n @atI_last1) (And.intro @pInt_n @pIx_ln))) (And.intro (And.intro @pIx_tn (And.intro @encN_get @augK_n)) (And.intro (And.intro @sixK_n @pIn_nl) (And.intro @pIn_nt @pNotIn_nl)))) (And.intro (And.intro (And.intro @pNotIn_nt (And.intro @runV_0 @runV_1)) (And.intro (And.intro @runV_2 @runV_3) (And.intro @runV_4 @runV_5))) (And.intro (And.intro @runV_6 (And.intro @runV_7 @ev_startG1)) (And.intro (And.intro @ev_sSeq @seqK_nx) (And.intro @seqK_rt @seqK_ro)))))) (And.intro (And.intro (And.intro (And.intro (And.intro @seqK_ct (And.intro @seqK_bk @ev_sSet)) (And.intro (And.intro @ev_sSetO @ev_sRet) (And.intro @ev_sRetO @ev_sRetV))) (And.intro (And.intro @retS_ow (And.intro @retS_fz @ev_sIf)) (And.intro (And.intro @ifK_t @ifK_f) (And.intro @ev_sNx @ev_sBk)))) (And.intro (And.intro (And.intro @ev_sCt (And.intro @ev_bin2 @ev_mVar)) (And.intro (And.intro @ev_mC @ev_mCall) (And.intro @ev_mLst @ev_mTup))) (And.intro (And.intro @tupK_ok (And.intro @ev_mLim @limK_ok)) (And.intro (And.intro @ev_aCons @ev_aNil) (And.intro @ev_truB @isB_bl))))) (And.intro (And.intro (And.intro (And.intro @ev_mIsi (And.intro @isiK_i @isiK_b)) (And.intro (And.intro @isiK_s @isiK_t) (And.intro @isiK_l @isiK_0))) (And.intro (And.intro @isiK_n (And.intro @getV_0 @getV_s)) (And.intro (And.intro @val_fz @val_ow) (And.intro @pAdd_i @pSub_i)))) (And.intro (And.intro (And.intro @pLt_i (And.intro @pLe_i @pGt_i)) (And.intro (And.intro @pEq_i @pNe_i) (And.intro @pLen_ln @pLen_tn))) (And.intro (And.intro (And.intro @pIx_lst @pIx_tup) (And.intro @keepE_true @keepE_false)) (And.intro (And.intro @flat_int @flat_bl) (And.intro @flat_str @flat_non))))))) (And.intro (And.intro (And.intro (And.intro (And.intro (And.intro @flat_tup (And.intro @flat_lst @outV_rt)) (And.intro (And.intro @outV_ro @outV_nx) (And.intro @ev_bAnd @andK_t))) (And.intro (And.intro @andK_f (And.intro @ev_bOr @orK_t)) (And.intro (And.intro @orK_f @ev_bNot) (And.intro @ev_vAnd @vAndK_t)))) (And.intro (And.intro (And.intro @vAndK_f (And.intro @ev_vNot @ev_ch3)) (And.intro (And.intro @chK_t @chK_f) (And.intro @ev_un1 @pNeg_i))) (And.intro (And.intro @ev_mMt0 (And.intro @ev_mMt @mtK_i)) (And.intro (And.intro @mtK_s @mtK_l) (And.intro @ev_sForR @ev_sFor))))) (And.intro (And.intro (And.intro (And.intro @ev_mComp (And.intro @cmpK_ok @ev_iRg1)) (And.intro (And.intro @rg1_i @ev_iLst) (And.intro @itL_l @ev_iTpl))) (And.intro (And.intro @itT_t (And.intro @ev_iSeq @itS_l)) (And.intro (And.intro @itS_t @pEnum_l) (And.intro @pEnum_t @pRev_l)))) (And.intro (And.intro (And.intro @ev_blkG (And.intro @ev_capS @capO_s)) (And.intro (And.intro @ev_gSet @gSet2_t) (And.intro @gSet3_t @ev_mTru))) (And.intro (And.intro @tru_i (And.intro @tru_b @tru_l)) (And.intro (And.intro @tru_t @ev_tYesM) (And.intro @pMod_i @pDiv_i)))))) (And.intro (And.intro (And.intro (And.intro (And.intro @pMul_l (And.intro @pMul_r @pBits_pn)) (And.intro (And.intro @tru_bit @ev_sl3) (And.intro @ev_mNo @ev_mSo))) (And.intro (And.intro @pInt_i (And.intro @pCut_l @pItems_l)) (And.intro (And.intro @pItems_t @pTuple_l) (And.intro @pTuple_t @pMax_i)))) (And.intro (And.intro (And.intro @pLen_sn (And.intro @pAdd_s @pCat_l)) (And.intro (And.intro @isInt_i @isBl_i) (And.intro @isBl_b @isStr_s))) (And.intro (And.intro @isTup_t (And.intro @isTup_l @isLst_l)) (And.intro (And.intro @isN_i @isN_n) (And.intro @isN_t @pIs_non))))) (And.intro (And.intro (And.intro (And.intro @pIsNot_non (And.intro @forL_nil @frz_nil)) (And.intro (And.intro @frz_cons @frz1_0) (And.intro @frz1_s @frzS_ow))) (And.intro (And.intro @frzS_fz (And.intro @frzS_un @ev_sAug)) (And.intro (And.intro @augK_i @ev_sApp) (And.intro @ev_sSetIx @sixK_ow)))) (And.intro (And.intro (And.intro @allflat_ints (And.intro @allflat_strs @allflat_nats)) (And.intro (And.intro @cutP_map @Nat.not_lt_zero) (And.intro @decide_true @decide_false))) (And.intro (And.intro (And.intro @Bool.not_true @Bool.not_false) (And.intro @Bool.true_or @Bool.false_or)) (And.intro (And.intro @Bool.or_true @Bool.or_false) (And.intro @Bool.true_and @Bool.false_and))))))))
end L2.PM

set_option maxHeartbeats 4000000
noncomputable section
namespace DH
open PySem PySem.Spec PyProof.Rows L2 L2.PM
noncomputable def QaD:MSt:=(sSeq (sIf (truB (bin2 pLt (mVar 1) (Qk pLen (Qe (mVar 0) aNil)))) (sRet (bin2 pIx (mVar 0) (mVar 1))) sNx)
  (sRet (mN 0)))
noncomputable def QL:List PV→Option PV:=runV 2 2 QaD
theorem YX:∀ ps r,QL ps=some r→ps.length=2:=Qy
noncomputable def Yk:MSt:=(sSeq (sIf (bAnd (truB (bin2 pGt (mVar 0) (mN 1))) (bOr (truB (bin2 pLt (bin2 pAdd (mVar 3) (mN 1)) (mVar 1))) (truB (bin2 pEq (bin2 pMod (mVar 3) (mN 2)) (mN 1))))) (sApp [1,3,3,3] 2 (mTup (Qe (bin2 pAdd (mVar 1) (mVar 3)) (Qe (mTup (Qe (bin2 pSub (bin2 pAdd (mVar 3) (mN 1)) (bin2 pMul (mN 2) (bin2 pMod (mVar 3) (mN 2)))) aNil)) aNil)))) sNx)
  (sIf (bAnd (truB (bin2 pEq (mVar 0) (mN 1))) (truB (bin2 pLt (bin2 pAdd (mVar 3) (mN 1)) (mVar 1)))) (sApp [1,3,3] 2 (mTup (Qe (bin2 pAdd (mVar 1) (mVar 3)) (Qe (mTup (Qe (bin2 pAdd (mVar 3) (mN 1)) aNil)) aNil)))) sNx))
noncomputable def QaB:MSt:=(sSeq (Yv [] 2 (mLim aNil))
  (sSeq (Qgp (iRg1 (mVar 1)) (gSet 3) Yk)
  (sSeq (sIf (bAnd (truB (bin2 pGt (mVar 0) (mN 1))) (truB (bin2 pGt (mVar 1) (mN 1)))) (Yv [2,1,1] 2 (bin2 pCat (mVar 2) (mLst (mLim (Qe (mTup (Qe (bin2 pMul (mN 2) (mVar 1)) (Qe (mTup (Qe (mN 0) aNil)) aNil))) (Qe (mTup (Qe (bin2 pMul (mN 2) (mVar 1)) (Qe (mTup (Qe (mN 1) aNil)) aNil))) aNil)))))) sNx)
  (Qbs 2))))
noncomputable def Zk:List PV→Option (List PV):=runO 4 2 QaB
theorem QbE:∀ ps r,Zk ps=some r→ps.length=2:=runO_len
noncomputable def QaC:MSt:=(sSeq (sSet [0,1,1,1] 2 (bin2 pMod (bin2 pAdd (bin2 pAdd (bin2 pAdd (bin2 pMod (mVar 0) (mN 2147483269)) (bin2 pMul (mN 49979693) (mVar 1))) (bin2 pMul (bin2 pMul (mN 389) (mVar 1)) (mVar 1))) (mN 19)) (mN 2147483269)))
  (sSeq (sSet [2,2] 2 (bin2 pMod (bin2 pMul (mVar 2) (mVar 2)) (mN 1599999983)))
  (sRet (bin2 pDiv (bin2 pMod (bin2 pMul (mVar 2) (bin2 pAdd (mN 33391) (bin2 pMul (mN 20) (mVar 1)))) (mN 1599999971)) (mN 3)))))
noncomputable def Qm:List PV→Option PV:=runV 3 2 QaC
theorem Qx:∀ ps r,Qm ps=some r→ps.length=2:=Qy
noncomputable def QaA:MSt:=(sSeq (sSet [1] 3 (Qk pMax (Qe (mN 1) (Qe (mVar 1) aNil))))
  (sSeq (sSet [0] 4 (bin2 pAdd (mN 1) (bin2 pMod (Qk Qm (Qe (mVar 0) (Qe (mN 1) aNil))) (mN 2))))
  (sSeq (sIf (bOr (truB (bin2 pEq (bin2 pMod (Qk Qm (Qe (mVar 0) (Qe (mN 2) aNil))) (mN 3)) (mN 0))) (truB (bin2 pEq (mVar 1) (mN 0)))) (sSeq (sSet [1,2] 3 (bin2 pAdd (mVar 1) (mVar 2)))
  (sSet [0] 4 (bin2 pMod (Qk Qm (Qe (mVar 0) (Qe (mN 3) aNil))) (mN 4)))) sNx)
  (sSeq (Yv [4,0,3] 5 (YQ (iRg1 (mVar 4)) 1 [0,3] (gSet 0) Qap (bin2 pMod (Qk Qm (Qe (mVar 1) (Qe (bin2 pAdd (mN 4) (mVar 0)) aNil))) (mVar 2))))
  (sRet (mTup (Qe (bin2 pAdd (mVar 1) (bin2 pMod (Qk Qm (Qe (mVar 0) (Qe (mN 9) aNil))) (mVar 2))) (Qe (Qk Qae (Qe (mLst (Qk QaW (Qe (mVar 5) aNil))) aNil)) aNil))))))))
noncomputable def Zj:List PV→Option PV:=runV 6 3 QaA
theorem QbD:∀ ps r,Zj ps=some r→ps.length=3:=Qy
noncomputable def ZQ:MSt:=(sIf (truB (bin2 pEq (mVar 4) (mN 0))) (Qco [1,6,2,3] 5 (bin2 pMod (Qk Qm (Qe (mVar 1) (Qe (bin2 pAdd (mN 20) (mVar 6)) aNil))) (bin2 pAdd (mVar 2) (mVar 3))) (mVar 6)) sNx)
noncomputable def Yt:MSt:=(sIf (bAnd (truB (bin2 pGt (mVar 3) (mN 0))) (truB (bin2 pLt (Qk pLen (Qe (mVar 7) aNil)) (mN 12)))) (sSeq (sSet [1,2,3] 8 (Qk Zj (Qe (mVar 1) (Qe (mVar 2) (Qe (mVar 3) aNil)))))
  (sIf (truB (bin2 Xy (mVar 8) (mVar 7))) (sApp [8] 7 (mVar 8)) sNx)) sNx)
noncomputable def Qbo:MSt:=(sSeq (sSet [0] 1 (Qk QL (Qe (mVar 0) (Qe (mN 0) aNil))))
  (sSeq (sSet [1] 2 (bin2 pMod (Qk Qm (Qe (mVar 1) (Qe (mN 0) aNil))) (mN 5)))
  (sSeq (sSet [2,1] 3 (bin2 pAdd (bin2 pAdd (mVar 2) (mN 3)) (bin2 pMod (Qk Qm (Qe (mVar 1) (Qe (mN 1) aNil))) (mN 3))))
  (sSeq (sSet [1] 4 (bin2 pMod (Qk Qm (Qe (mVar 1) (Qe (mN 2) aNil))) (mN 4)))
  (sSeq (sIf (truB (bin2 pEq (bin2 pMod (Qk Qm (Qe (mVar 1) (Qe (mN 3) aNil))) (mN 8)) (mN 1))) (sSeq (sSet [] 3 (mN 0))
  (sSet [] 4 (mN 0))) sNx)
  (sSeq (Yv [2,2] 5 (YQ (iRg1 (mVar 2)) 1 [2] (gSet 0) Qap (bin2 pAdd (mVar 1) (mVar 0))))
  (sSeq (Qgp (iRg1 (mVar 2)) (gSet 6) ZQ)
  (sSeq (Yv [4,2] 7 (Qk Zk (Qe (mVar 4) (Qe (mVar 2) aNil))))
  (sSeq (sFor [0] (iLst (mLst (sl3 pCut (mVar 0) (mSo (mN 2)) (mSo (mN 92))))) (gSet 1) Yt)
  (sRet (mTup (Qe (bin2 pAdd (mVar 2) (mVar 3)) (Qe (Qk Qae (Qe (mVar 5) aNil)) (Qe (Qk Qae (Qe (mVar 7) aNil)) aNil))))))))))))))
noncomputable def Zv:List PV→Option PV:=runV 9 1 Qbo
theorem QbU:∀ ps r,Zv ps=some r→ps.length=1:=Qy
noncomputable def Qbn:MSt:=(sRet (bin2 pSub (bin2 pShl (mN 1) (Qk pLen (Qe (bin2 pIx (mVar 0) (mN 1)) aNil))) (mN 1)))
noncomputable def QW:List PV→Option PV:=runV 1 1 Qbn
theorem Xs:∀ ps r,QW ps=some r→ps.length=1:=Qy
noncomputable def Qao:MSt:=(sAug 1 pOr (bin2 pShl (mN 1) (mVar 2)))
noncomputable def QcR:MSt:=(sSeq (sSet [] 1 (mN 0))
  (sSeq (sFor [0] (iSeq (mVar 0)) (gSet 2) Qao)
  (Qbs 1)))
noncomputable def Zl:List PV→Option PV:=runV 3 1 QcR
theorem Xx:∀ ps r,Zl ps=some r→ps.length=1:=Qy
noncomputable def Qbm:MSt:=(sRet (bin2 pOr (mVar 1) (Qk Zl (Qe (mLst (YQ (iLst (mVar 2)) 1 [0] (gSet 0) Qap (bin2 pIx (bin2 pIx (bin2 pIx (mVar 1) (mN 2)) (mVar 0)) (mN 0)))) aNil))))
noncomputable def Zu:List PV→Option PV:=runV 3 3 Qbm
theorem QbT:∀ ps r,Zu ps=some r→ps.length=3:=Qy
noncomputable def Qhs:MSt:=(sRet (bin2 pEq (bin2 pAnd (mVar 0) (mVar 1)) (mVar 0)))
noncomputable def QP:List PV→Option PV:=runV 2 2 Qhs
theorem Zr:∀ ps r,QP ps=some r→ps.length=2:=Qy
noncomputable def ZM:MSt:=(sSeq (sSet [8] 9 (bin2 pShl (mN 1) (bin2 pIx (mVar 8) (mN 0))))
  (sIf (bAnd (bNot (mTru (Qk QP (Qe (mVar 9) (Qe (mVar 4) aNil))))) (mTru (Qk QP (Qe (bin2 pIx (mVar 3) (mVar 7)) (Qe (mVar 4) aNil))))) (sSeq (sAug 4 pOr (mVar 9))
  (sSeq (sApp [7] 5 (mVar 7))
  (sSet [] 6 (mC (.bl true))))) sNx))
noncomputable def ZL:MSt:=(sSeq (sSet [] 6 (mC (.bl false)))
  (sFor [2] (Qk QeG (Qe (mVar 2) aNil)) (XC 7 8) ZM))
noncomputable def XG:MSt:=(sSeq (sSet [0] 2 (bin2 pIx (mVar 0) (mN 2)))
  (sSeq (Yv [2] 3 (YQ (iTpl (mVar 2)) 1 [] (gSet 0) Qap (Qk Zl (Qe (bin2 pIx (mVar 0) (mN 1)) aNil))))
  (sSeq (sSet [1] 4 (mVar 1))
  (sSeq (Yv [] 5 (mLim aNil))
  (sSeq (sSet [] 6 (mC (.bl true)))
  (sSeq (Qcn 1000 (mTru (mVar 6)) ZL)
  (Qbs 5)))))))
noncomputable def QS:List PV→Option PV:=runV 10 2 XG
theorem Qav:∀ ps r,QS ps=some r→ps.length=2:=Qy
noncomputable def Qfc:MSt:=(sRet (Qk Zu (Qe (mVar 0) (Qe (mVar 1) (Qe (Qk QS (Qe (mVar 0) (Qe (mVar 1) aNil))) aNil)))))
noncomputable def Yh:List PV→Option PV:=runV 2 2 Qfc
theorem Qbj:∀ ps r,Yh ps=some r→ps.length=2:=Qy
noncomputable def Qho:MSt:=(sSeq (sSet [0,1] 2 (Qk Yh (Qe (mVar 0) (Qe (mVar 1) aNil))))
  (sRet (Qk Zl (Qe (mLst (YQ (Qk QeG (Qe (bin2 pIx (mVar 0) (mN 1)) aNil)) 2 [2] (XC 0 1) (mTru (Qk QP (Qe (bin2 pShl (mN 1) (mVar 1)) (Qe (mVar 2) aNil)))) (mVar 0))) aNil))))
noncomputable def Yy:List PV→Option PV:=runV 3 2 Qho
theorem Qcb:∀ ps r,Yy ps=some r→ps.length=2:=Qy
noncomputable def QdO:MSt:=(sRet (bin2 pEq (bin2 pAnd (mVar 1) (Qk Yy (Qe (mVar 0) (Qe (mVar 1) aNil)))) (mN 0)))
noncomputable def Yn:List PV→Option PV:=runV 2 2 QdO
theorem QdA:∀ ps r,Yn ps=some r→ps.length=2:=Qy
noncomputable def QdM:MSt:=(sRet (bin2 pAnd (Qk QW (Qe (mVar 0) aNil)) (un1 pInv (Qk Yy (Qe (mVar 0) (Qe (mVar 1) aNil))))))
noncomputable def Ya:List PV→Option PV:=runV 2 2 QdM
theorem Qay:∀ ps r,Ya ps=some r→ps.length=2:=Qy
noncomputable def QdN:MSt:=(sRet (Qk Ya (Qe (mVar 0) (Qe (Qk Ya (Qe (mVar 0) (Qe (mVar 1) aNil))) aNil))))
noncomputable def Zb:List PV→Option PV:=runV 2 2 QdN
theorem Xb:∀ ps r,Zb ps=some r→ps.length=2:=Qy
noncomputable def Qhp:MSt:=(sRet (vAnd (Qk Yn (Qe (mVar 0) (Qe (mVar 1) aNil))) (Qk QP (Qe (mVar 1) (Qe (Qk Zb (Qe (mVar 0) (Qe (mVar 1) aNil))) aNil)))))
noncomputable def Xp:List PV→Option PV:=runV 2 2 Qhp
theorem Qfy:∀ ps r,Xp ps=some r→ps.length=2:=Qy
noncomputable def Qep:MSt:=(sSeq (sSet [2,3] 4 (Qk Qkq (Qe (mLst (YQ (iLst (mVar 2)) 1 [3] (gSet 0) Qap (Qk QP (Qe (mVar 1) (Qe (mVar 0) aNil))))) aNil)))
  (sIf (bAnd (bNot (mTru (mVar 4))) (mTru (Qk Xp (Qe (mVar 0) (Qe (mVar 3) aNil))))) (sApp [3] 2 (mVar 3)) sNx))
noncomputable def Qjj:MSt:=(sSeq (Yv [] 2 (mLim aNil))
  (sSeq (Qgp (iRg3 (Qk QW (Qe (mVar 0) aNil)) (un1 pNeg (mN 1)) (un1 pNeg (mN 1))) (gSet 3) Qep)
  (sRet (Qk Qae (Qe (mLst (YQ (Qk pRev (Qe (mVar 2) aNil)) 1 [1] (gSet 0) (mTru (Qk QP (Qe (mVar 1) (Qe (mVar 0) aNil)))) (mVar 0))) aNil)))))
noncomputable def Xo:List PV→Option PV:=runV 5 2 Qjj
theorem QcU:∀ ps r,Xo ps=some r→ps.length=2:=Qy
noncomputable def QcS:MSt:=(sSeq (sSet [0,1] 1 (Qk Zb (Qe (mVar 0) (Qe (mVar 1) aNil))))
  (sApp [1] 2 (mVar 1)))
noncomputable def Qhq:MSt:=(sSeq (sSet [] 1 (mN 0))
  (sSeq (Yv [1] 2 (mLim (Qe (mVar 1) aNil)))
  (sSeq (Qcn 1000 (truB (bin2 pNe (Qk Zb (Qe (mVar 0) (Qe (mVar 1) aNil))) (mVar 1))) QcS)
  (Qbs 2))))
noncomputable def Xq:List PV→Option PV:=runV 3 1 Qhq
theorem Qfz:∀ ps r,Xq ps=some r→ps.length=1:=Qy
noncomputable def YL:MSt:=(sIf (mTru (Qk QP (Qe (bin2 pShl (mN 1) (mVar 1)) (Qe (mVar 3) aNil)))) (Qbs 2) sNx)
noncomputable def Qfe:MSt:=(sSeq (sFor [0] (Qk Qga (Qe (mVar 0) aNil)) (XC 2 3) YL)
  (sRet (mC .non)))
noncomputable def YN:List PV→Option PV:=runV 4 2 Qfe
theorem Qeu:∀ ps r,YN ps=some r→ps.length=2:=Qy
noncomputable def Qfd:MSt:=(sSeq (sSet [0] 1 (Qk Xq (Qe (mVar 0) aNil)))
  (sSeq (Yv [0,1] 2 (YQ (iRg1 (Qk pLen (Qe (bin2 pIx (mVar 0) (mN 1)) aNil))) 1 [1] (gSet 0) Qap (Qk YN (Qe (mVar 1) (Qe (mVar 0) aNil)))))
  (sRet (mTup (Qe (bin2 pIx (mVar 1) (un1 pNeg (mN 1))) (Qe (Qk Qae (Qe (mVar 2) aNil)) aNil))))))
noncomputable def Yi:List PV→Option PV:=runV 3 1 Qfd
theorem Qbk:∀ ps r,Yi ps=some r→ps.length=1:=Qy
noncomputable def Qhr:MSt:=(sRetO (YQ (iRg1 (mMt0 "int" Qgu (mVar 0))) 1 [0] (gSet 0) (mTru (bin2 pAnd (bin2 pShr (mVar 1) (mVar 0)) (mN 1))) (mVar 0)))
noncomputable def Xr:List PV→Option PV:=runV 1 1 Qhr
theorem QfA:∀ ps r,Xr ps=some r→ps.length=1:=Qy
noncomputable def Qcc:MSt:=(sRet (Qk QP (Qe (bin2 pShl (mN 1) (mVar 2)) (Qe (Qk Yh (Qe (mVar 0) (Qe (mVar 1) aNil))) aNil))))
noncomputable def Zs:List PV→Option PV:=runV 3 3 Qcc
theorem XF:∀ ps r,Zs ps=some r→ps.length=3:=Qy
noncomputable def Xw:MSt:=(sSeq (sSet [3,4] 5 (bin2 pAnd (mVar 3) (un1 pInv (bin2 pShl (mN 1) (mVar 4)))))
  (sIf (mTru (Qk Zs (Qe (mVar 0) (Qe (mVar 5) (Qe (mVar 2) aNil))))) (sSet [5] 3 (mVar 5)) sNx))
noncomputable def QbQ:MSt:=(sSeq (sIf (bNot (mTru (Qk Zs (Qe (mVar 0) (Qe (mVar 1) (Qe (mVar 2) aNil)))))) (sRet (mC .non)) sNx)
  (sSeq (sSet [1] 3 (mVar 1))
  (sSeq (sFor [1] (iLst (Qk Xr (Qe (mVar 1) aNil))) (gSet 4) Xw)
  (Qbs 3))))
noncomputable def QM:List PV→Option PV:=runV 6 3 QbQ
theorem Qaz:∀ ps r,QM ps=some r→ps.length=3:=Qy
noncomputable def QaE:MX OT:=(xSeq (Qdk [1] "word" (mVar 1))
  (Qdk [2] "name" (mVar 2)))
noncomputable def Qs:Addr→List PV→OT→Option OT:=runX 3 3 (QaE)
theorem ZC:∀ a qs t t',Qs a qs t=some t'→qs.length + 1=3:=QaV
noncomputable def XI:MX OT:=(xSeq (Qeq 0 [0,1] Qs (Qe (mVar 0) (Qe (mVar 1) (Qe (mC (.str "maybe")) aNil))))
  (xSeq (Qdk [2] "camp" (mVar 2))
  (xSeq (Qdk [3] "reason" (mVar 3))
  (Qdk [4] "other" (mVar 4)))))
noncomputable def QU:Addr→List PV→OT→Option OT:=runX 5 5 (XI)
theorem Qax:∀ a qs t t',QU a qs t=some t'→qs.length + 1=5:=QaV
noncomputable def YY:MX OT:=(xSeq (Qeq 0 [0,1] Qs (Qe (mVar 0) (Qe (mVar 1) (Qe (mC (.str "settled")) aNil))))
  (Qdk [2] "reason" (mVar 2)))
noncomputable def QJ:Addr→List PV→OT→Option OT:=runX 3 3 (YY)
theorem XR:∀ a qs t t',QJ a qs t=some t'→qs.length + 1=3:=QaV
noncomputable def Qah:MX OT:=(xSeq (Qeq 0 [0,1] Qs (Qe (mVar 0) (Qe (mVar 1) (Qe (mC (.str "sure")) aNil))))
  (Qdk [2] "pairs" (mVar 2)))
noncomputable def QZ:Addr→List PV→OT→Option OT:=runX 3 3 (Qah)
theorem QaT:∀ a qs t t',QZ a qs t=some t'→qs.length + 1=3:=QaV
noncomputable def XH:MX OT:=(Qeq 0 [0,1] Qs (Qe (mVar 0) (Qe (mVar 1) (Qe (mC (.str "never")) aNil))))
noncomputable def QT:Addr→List PV→OT→Option OT:=runX 2 2 (XH)
theorem Qaw:∀ a qs t t',QT a qs t=some t'→qs.length + 1=2:=QaV
noncomputable def d_lot (C:Nat→Addr):MSt:=(sSeq (sSet [0,0,1] 2 (Qk QM (Qe (mVar 0) (Qe (bin2 pIx (Qk Yi (Qe (mVar 0) aNil)) (mN 0)) (Qe (mVar 1) aNil)))))
  (sSeq (sIf (truB (bin2 QfZ (mVar 2) (mC .non))) (sRet (mNew (C 1) QJ (Qe (mVar 1) (Qe (mVar 2) aNil)))) sNx)
  (sSeq (Yv [0,0,1] 3 (YQ (iTpl (Qk Xo (Qe (mVar 0) (Qe (mN 0) aNil)))) 1 [0,1] (gSet 0) Qap (mTup (Qe (mVar 0) (Qe (Qk QM (Qe (mVar 1) (Qe (mVar 0) (Qe (mVar 2) aNil)))) aNil)))))
  (sSeq (Yv [3] 4 (YQ (iLst (mVar 3)) 1 [] (gSet 0) (truB (bin2 QfZ (bin2 pIx (mVar 0) (mN 1)) (mC .non))) (mVar 0)))
  (sSeq (Yv [3] 5 (YQ (iLst (mVar 3)) 1 [] (gSet 0) (truB (bin2 pIs (bin2 pIx (mVar 0) (mN 1)) (mC .non))) (bin2 pIx (mVar 0) (mN 0))))
  (sSeq (sIf (bNot (mTru (mVar 5))) (sRet (mNew (C 2) QZ (Qe (mVar 1) (Qe (Qk Qae (Qe (mVar 4) aNil)) aNil)))) sNx)
  (sSeq (sIf (bNot (mTru (mVar 4))) (sRet (mNew (C 4) QT (Qe (mVar 1) aNil))) sNx)
  (sRet (mNew (C 3) QU (Qe (mVar 1) (Qe (bin2 pIx (bin2 pIx (mVar 4) (mN 0)) (mN 0)) (Qe (bin2 pIx (bin2 pIx (mVar 4) (mN 0)) (mN 1)) (Qe (bin2 pIx (mVar 5) (mN 0)) aNil)))))))))))))
noncomputable def Qfr (C:Nat→Addr):List PV→Option PV:=runV 6 2 (d_lot C)
theorem Qjx (C:Nat→Addr):∀ ps r,Qfr C ps=some r→ps.length=2:=Qy
noncomputable def ZY:MSt:=(sIf (bAnd (bNot (mTru (bin2 pIx (mVar 2) (mVar 4)))) (truB (bin2 pEq (Qk pLen (Qe (mLst (YQ (iTpl (mVar 5)) 1 [2] (gSet 0) (mTru (bin2 pIx (mVar 1) (mVar 0))) (mVar 0))) aNil)) (Qk pLen (Qe (mVar 5) aNil))))) (sSeq (Qco [] 2 (mC (.bl true)) (mVar 4))
  (sSet [] 3 (mC (.bl true)))) sNx)
noncomputable def ZX:MSt:=(sSeq (sSet [] 3 (mC (.bl false)))
  (sFor [0] (iTpl (bin2 pIx (mVar 0) (mN 2))) (XC 4 5) ZY))
noncomputable def Qag:MSt:=(sSeq (Yv [0,0,1] 2 (YQ (iRg1 (bin2 pIx (mVar 0) (mN 0))) 1 [0,1] (gSet 0) Qap (vAnd (bin2 pLt (mVar 0) (Qk pLen (Qe (bin2 pIx (mVar 1) (mN 1)) aNil))) (bin2 pEq (bin2 pAnd (bin2 pShr (mVar 2) (mVar 0)) (mN 1)) (mN 1)))))
  (sSeq (sSet [] 3 (mC (.bl true)))
  (sSeq (Qcn 1000 (mTru (mVar 3)) ZX)
  (Qbs 2))))
noncomputable def QA:List PV→Option PV:=runV 6 2 Qag
theorem Zw:∀ ps r,QA ps=some r→ps.length=2:=Qy
noncomputable def Qcf:MSt:=(sSeq (sIf (mTru (bin2 pIx (Qk QA (Qe (mVar 0) (Qe (mVar 2) aNil))) (mVar 1))) (sRet (mC (.str "settled"))) sNx)
  (sSeq (sIf (truB (bin2 pEq (Qk pLen (Qe (mVar 3) aNil)) (Qk pLen (Qe (mVar 4) aNil)))) (sRet (mC (.str "sure"))) sNx)
  (sSeq (sIf (truB (bin2 pNe (mVar 3) (mLst (mLim aNil)))) (sRet (mC (.str "maybe"))) sNx)
  (sRet (mC (.str "never"))))))
noncomputable def ZF:List PV→Option PV:=runV 5 5 Qcf
theorem QcD:∀ ps r,ZF ps=some r→ps.length=5:=Qy
noncomputable def Qcg (C:Nat→Addr):MSt:=(sRet (Qar [C 1,C 2,C 3,C 4] "name" (mVar 0)))
noncomputable def Ql (C:Nat→Addr):List PV→Option PV:=runV 1 1 (Qcg C)
theorem ZW (C:Nat→Addr):∀ ps r,Ql C ps=some r→ps.length=1:=Qy
noncomputable def Qcd:MSt:=(sRet (vAnd (mIsi isInt (mVar 0)) (vNot (mIsi isBl (mVar 0)))))
noncomputable def QB:List PV→Option PV:=runV 1 1 Qcd
theorem Zg:∀ ps r,QB ps=some r→ps.length=1:=Qy
noncomputable def YA:MSt:=(sIf (bAnd (truB (bin2 pEq (bin2 pAnd (bin2 pShr (mVar 3) (mVar 4)) (mN 1)) (mN 1))) (mTru (bin2 pIx (Qk QA (Qe (mVar 0) (Qe (bin2 pSub (mVar 3) (bin2 pShl (mN 1) (mVar 4))) aNil))) (mVar 2)))) (sRet (mC (.bl false))) sNx)
noncomputable def Qaf:MSt:=(sSeq (sIf (bOr (bNot (mTru (Qk QB (Qe (mVar 3) aNil)))) (bOr (truB (bin2 pLt (mVar 3) (mN 0))) (truB (bin2 pNe (bin2 pAnd (mVar 3) (mVar 1)) (mVar 3))))) (sRet (mC (.bl false))) sNx)
  (sSeq (sIf (bNot (mTru (bin2 pIx (Qk QA (Qe (mVar 0) (Qe (mVar 3) aNil))) (mVar 2)))) (sRet (mC (.bl false))) sNx)
  (sSeq (Qgp (iRg1 (Qk pLen (Qe (bin2 pIx (mVar 0) (mN 1)) aNil))) (gSet 4) YA)
  (sRet (mC (.bl true))))))
noncomputable def QD:List PV→Option PV:=runV 5 4 Qaf
theorem Yf:∀ ps r,QD ps=some r→ps.length=4:=Qy
noncomputable def Qac:MSt:=(sSeq (sIf (bOr (bNot (mTru (mIsi Qes (mVar 4)))) (bOr (truB (bin2 pNe (Qk pLen (Qe (mVar 4) aNil)) (mN 2))) (bNot (mTru (Qk QB (Qe (bin2 pIx (mVar 4) (mN 0)) aNil)))))) (sRet (mC (.bl false))) sNx)
  (sIf (bOr (truB (bin2 pNe (bin2 pIx (mVar 4) (mN 0)) (mVar 5))) (bNot (mTru (Qk QD (Qe (mVar 0) (Qe (mVar 5) (Qe (mVar 1) (Qe (bin2 pIx (mVar 4) (mN 1)) aNil)))))))) (sRet (mC (.bl false))) sNx))
noncomputable def Qdd:MSt:=(sSeq (sIf (bOr (bNot (mTru (mIsi Qes (mVar 2)))) (truB (bin2 pNe (Qk pLen (Qe (mVar 2) aNil)) (Qk pLen (Qe (mVar 3) aNil))))) (sRet (mC (.bl false))) sNx)
  (sSeq (sFor [2,3] (Qk QfY (Qe (mVar 2) (Qe (mVar 3) aNil))) (XC 4 5) Qac)
  (sRet (mC (.bl true)))))
noncomputable def ZV:List PV→Option PV:=runV 6 4 Qdd
theorem Qdg:∀ ps r,ZV ps=some r→ps.length=4:=Qy
noncomputable def Qce (C:Nat→Addr):MSt:=(sSeq (sSet [0,1] 4 (Qk (Qfr C) (Qe (mVar 0) (Qe (mVar 1) aNil))))
  (sSeq (Yv [3,0,1] 5 (YQ (iTpl (mVar 3)) 1 [0,1] (gSet 0) (mTru (bin2 pIx (Qk QA (Qe (mVar 1) (Qe (mVar 0) aNil))) (mVar 2))) (mVar 0)))
  (sSeq (sSet [0,1,2,5,3] 6 (Qk ZF (Qe (mVar 0) (Qe (mVar 1) (Qe (mVar 2) (Qe (mVar 5) (Qe (mVar 3) aNil)))))))
  (sSeq (Yv [4,4] 7 (mLim (Qe (mTup (Qe (mC (.str "settled")) (Qe (QcI [(C 1,true),(C 2,false),(C 3,false),(C 4,false)] (mVar 4)) aNil))) (Qe (mTup (Qe (mC (.str "sure")) (Qe (QcI [(C 1,false),(C 2,true),(C 3,false),(C 4,false)] (mVar 4)) aNil))) aNil))))
  (sSeq (Yv [7,4,4] 7 (bin2 pCat (mVar 7) (mLst (mLim (Qe (mTup (Qe (mC (.str "maybe")) (Qe (QcI [(C 1,false),(C 2,false),(C 3,true),(C 4,false)] (mVar 4)) aNil))) (Qe (mTup (Qe (mC (.str "never")) (Qe (QcI [(C 1,false),(C 2,false),(C 3,false),(C 4,true)] (mVar 4)) aNil))) aNil))))))
  (sSeq (sIf (bOr (bNot (mTru (QcI [(C 1,true),(C 2,true),(C 3,true),(C 4,true)] (mVar 4)))) (truB (bin2 pNe (mLst (YQ (iLst (mVar 7)) 2 [] (XC 0 1) (mTru (mVar 1)) (mVar 0))) (mLst (mLim (Qe (mVar 6) aNil)))))) (sRet (mC (.bl false))) sNx)
  (sSeq (sSet [4] 8 (Qgf [(C 1,(Ql C)),(C 2,(Ql C)),(C 3,(Ql C)),(C 4,(Ql C))] "called" (mVar 4) aNil))
  (sSeq (sIf (bOr (bNot (mTru (mIsi isStr (mVar 8)))) (bOr (truB (bin2 pNe (mVar 8) (mVar 6))) (bOr (bNot (mTru (Qk QB (Qe (Qar [C 1,C 2,C 3,C 4] "word" (mVar 4)) aNil)))) (truB (bin2 pNe (Qar [C 1,C 2,C 3,C 4] "word" (mVar 4)) (mVar 1)))))) (sRet (mC (.bl false))) sNx)
  (sSeq (sIf (mTru (QcI [(C 1,true),(C 2,false),(C 3,false),(C 4,false)] (mVar 4))) (sRet (Qk QD (Qe (mVar 0) (Qe (mVar 2) (Qe (mVar 1) (Qe (Qar [C 1,C 2,C 3,C 4] "reason" (mVar 4)) aNil)))))) sNx)
  (sSeq (sIf (mTru (QcI [(C 1,false),(C 2,true),(C 3,false),(C 4,false)] (mVar 4))) (sRet (Qk ZV (Qe (mVar 0) (Qe (mVar 1) (Qe (Qar [C 1,C 2,C 3,C 4] "pairs" (mVar 4)) (Qe (mVar 3) aNil)))))) sNx)
  (sSeq (sIf (mTru (QcI [(C 1,false),(C 2,false),(C 3,true),(C 4,false)] (mVar 4))) (sSeq (sIf (bOr (bNot (mTru (Qk QB (Qe (Qar [C 1,C 2,C 3,C 4] "camp" (mVar 4)) aNil)))) (bOr (bNot (mTru (Qk QB (Qe (Qar [C 1,C 2,C 3,C 4] "other" (mVar 4)) aNil)))) (truB (bin2 Xy (Qar [C 1,C 2,C 3,C 4] "camp" (mVar 4)) (mVar 5))))) (sRet (mC (.bl false))) sNx)
  (sSeq (sIf (bOr (truB (bin2 pIn (Qar [C 1,C 2,C 3,C 4] "other" (mVar 4)) (mVar 5))) (truB (bin2 Xy (Qar [C 1,C 2,C 3,C 4] "other" (mVar 4)) (mVar 3)))) (sRet (mC (.bl false))) sNx)
  (sRet (Qk QD (Qe (mVar 0) (Qe (Qar [C 1,C 2,C 3,C 4] "camp" (mVar 4)) (Qe (mVar 1) (Qe (Qar [C 1,C 2,C 3,C 4] "reason" (mVar 4)) aNil)))))))) sNx)
  (sRet (mC (.bl true))))))))))))))
noncomputable def ZE (C:Nat→Addr):List PV→Option PV:=runV 9 4 (Qce C)
theorem QcC (C:Nat→Addr):∀ ps r,ZE C ps=some r→ps.length=4:=Qy
noncomputable def QbS (C:Nat→Addr):MSt:=(sIf (bOr (bNot (mTru (Qk QB (Qe (mVar 4) aNil)))) (bNot (truB (ch3 pLe pLt (mN 0) (mVar 4) (bin2 pShl (mN 1) (Qk pLen (Qe (bin2 pIx (mVar 1) (mN 1)) aNil))))))) (sRet (mC (.bl false))) sNx)
noncomputable def Qan (C:Nat→Addr):MSt:=(sIf (bAnd (truB (bin2 pGt (bin2 pIx (mVar 1) (mN 0)) (mN 0))) (truB (bin2 Xy (bin2 pMod (mVar 6) (bin2 pIx (mVar 1) (mN 0))) (mVar 5)))) (sApp [6,1] 5 (bin2 pMod (mVar 6) (bin2 pIx (mVar 1) (mN 0)))) sNx)
noncomputable def QbR (C:Nat→Addr):MSt:=(sIf (bNot (mTru (Qk (ZE C) (Qe (mVar 1) (Qe (mVar 7) (Qe (bin2 pIx (mVar 3) (mN 0)) (Qe (mVar 2) aNil))))))) (sRet (mC (.bl false))) sNx)
noncomputable def Qff (C:Nat→Addr):MSt:=(sSeq (sSet [0] 1 (Qk Zv (Qe (mVar 0) aNil)))
  (sSeq (sSet [1] 2 (Qk Xo (Qe (mVar 1) (Qe (mN 0) aNil))))
  (sSeq (sSet [1] 3 (Qk Yi (Qe (mVar 1) aNil)))
  (sSeq (sIf (bOr (bNot (mTru (mIsi Qes (mVar 2)))) (bOr (truB (bin2 pEq (mVar 2) (mTup aNil))) (bNot (mTru (mIsi Qes (mVar 3)))))) (sRet (mC (.bl false))) sNx)
  (sSeq (sFor [3,2] (iLst (mLst (bin2 pCat (mLst (mLim (Qe (bin2 pIx (mVar 3) (mN 0)) aNil))) (mLst (Qk QeF (Qe (mVar 2) aNil)))))) (gSet 4) (QbS C))
  (sSeq (Yv [] 5 (mLim aNil))
  (sSeq (sFor [1,0,0] (iLst (mLst (bin2 pCat (mLst (mLim (Qe (bin2 pMul (mN 2) (Qk pLen (Qe (bin2 pIx (mVar 1) (mN 1)) aNil))) (Qe (Qk QL (Qe (mVar 0) (Qe (mN 1) aNil))) aNil)))) (mLst (sl3 pCut (mVar 0) (mSo (un1 pNeg (mN 2))) mNo))))) (gSet 6) (Qan C))
  (sSeq (sFor [5] (iLst (mVar 5)) (gSet 7) (QbR C))
  (sRet (mC (.bl true)))))))))))
noncomputable def Qbc (C:Nat→Addr):List PV→Option PV:=runV 8 1 (Qff C)
end DH

noncomputable section
namespace DH
open PySem PySem.Spec PyProof.Rows L2 L2.PM
local macro_rules | `(tactic| walk_at "ev") => `(tactic| try simp (disch:=first | assumption | omega | (simp only [encN_len,List.length_map,List.length_range,List.length_cons,List.length_nil,List.length_append];omega) | decide) only [EVc,List.length_cons,List.length_nil,if_true,List.map_cons,List.map_nil,List.replicate_zero,List.replicate_succ,List.cons_append,List.nil_append,List.getElem?_cons_zero,List.getElem?_cons_succ,Option.bind_some,Option.map_some,List.set_cons_zero,List.set_cons_succ,List.length_map,List.length_range,List.all_nil,List.all_cons,List.length_append])
theorem e_cell (ns:List Int) (k:Nat):QL [.lst (ns.map .int),pN k]=some (.int (ns.getD k 0)):=by
  unfold QL QaD
  walk_at "ev"
  by_cases h:k < ns.length
  · rw [decide_eq_true h]
    walk_at "ev"
    simp [h]
    rfl
  · rw [decide_eq_false h]
    walk_at "ev"
    simp [h]
    rfl
end DH

noncomputable section
namespace DH
open PySem PySem.Spec PyProof.Rows L2 L2.PM
local macro_rules | `(tactic| walk_at "ev") => `(tactic| try simp (disch:=first | assumption | omega | (simp only [encN_len,List.length_map,List.length_range,List.length_cons,List.length_nil,List.length_append];omega) | decide) only [EVc,List.length_cons,List.length_nil,if_true,List.map_cons,List.map_nil,List.replicate_zero,List.replicate_succ,List.cons_append,List.nil_append,List.getElem?_cons_zero,List.getElem?_cons_succ,Option.bind_some,Option.map_some,List.set_cons_zero,List.set_cons_succ,List.length_map,List.length_range,List.all_nil,List.all_cons,List.length_append])
theorem e_whole_n (i:Nat):QB [pN i]=some (.bl true):=by
  unfold QB Qcd
  walk_at "ev"
end DH

noncomputable section
namespace DH
open PySem PySem.Spec PyProof.Rows L2 L2.PM
noncomputable def XA (row:List Nat):Nat:=row.foldl (fun m k=>m|||2 ^ k) 0
theorem Qca (k:Nat):∀ (row:List Nat) (m:Nat),(row.foldl (fun m k=>m|||2 ^ k) m).testBit k=(m.testBit k||decide (k∈row))
  | [],m=>by simp
  | x :: r,m=>by
    rw [List.foldl_cons,Qca k r,Nat.testBit_or,Nat.testBit_two_pow]
    by_cases h:x=k
    · subst h;simp
    · have h':k≠x:=fun e=>h e.symm
      simp [h,h']
theorem Qaa (row:List Nat) (k:Nat):(XA row).testBit k=decide (k∈row):=by
  unfold XA
  rw [Qca];simp
noncomputable def insB (a b:Nat):Bool:=(a&&&b)==a
theorem Zx {a b:Nat}:insB a b=true↔∀ k,a.testBit k=true→b.testBit k=true:=by
  unfold insB
  rw [beq_iff_eq]
  constructor
  · intro h k hk
    rw [← h,Nat.testBit_and] at hk
    simp at hk
    exact hk.2
  · intro h
    refine Nat.eq_of_testBit_eq fun k => ?_
    rw [Nat.testBit_and]
    cases hk:a.testBit k with
    | false=>rfl
    | true=>rw [h k hk];rfl
theorem Qcx {k b:Nat}:insB (2 ^ k) b=b.testBit k:=by
  rw [Bool.eq_iff_iff,Zx]
  constructor
  · intro h;exact h k Nat.testBit_two_pow_self
  · intro h j hj
    rw [Nat.testBit_two_pow] at hj
    simp at hj
    rw [← hj];exact h
theorem QjO {row:List Nat} {b:Nat}:insB (XA row) b=row.all fun k=>b.testBit k:=by
  rw [Bool.eq_iff_iff,Zx,List.all_eq_true]
  constructor
  · intro h k hk;exact h k (by rw [Qaa];simpa using hk)
  · intro h k hk;rw [Qaa] at hk;exact h k (by simpa using hk)
local macro_rules | `(tactic| walk_at "ev") => `(tactic| try simp (disch:=first | assumption | omega | (simp only [encN_len,List.length_map,List.length_range,List.length_cons,List.length_nil,List.length_append];omega) | decide) only [EVc,List.length_cons,List.length_nil,if_true,List.map_cons,List.map_nil,List.replicate_zero,List.replicate_succ,List.cons_append,List.nil_append,List.getElem?_cons_zero,List.getElem?_cons_succ,Option.bind_some,Option.map_some,List.set_cons_zero,List.set_cons_succ,List.length_map,List.length_range,List.all_nil,List.all_cons,List.length_append])
theorem e_inside (a b:Nat):QP [pN a,pN b]=some (.bl (insB a b)):=by
  unfold QP Qhs
  walk_at "ev"
  rfl
theorem Qhe {row:List Nat} (h:∀ k∈row,k≤1000) (s2:Slot) (sl:Slot):∃ s2',forL (gSet 2) Qao (encN row) [sl,.fz (pN 0),s2]=some (.nx [sl,.fz (pN (XA row)),s2']):=by
  obtain ⟨γ',e,s2',rfl⟩:=Qhk (g:=gSet 2) (b:=Qao) pN (fun (m:Nat) (k:Nat)=>m|||2 ^ k)
    (fun m γ=>∃ s2,γ=[sl,.fz (pN m),s2]) row 0 [sl,.fz (pN 0),s2] ⟨s2,rfl⟩ (by
      rintro m γ k hk ⟨s2,rfl⟩
      have:=h k hk
      refine ⟨_,_,rfl,?_,.fz (pN k),rfl⟩
      unfold Qao
      walk_at "ev")
  exact ⟨s2',e⟩
theorem Qhm {row:List Nat} (h:∀ k∈row,k≤1000):Zl [.lst (encN row)]=some (pN (XA row)):=by
  unfold Zl QcR
  walk_at "ev"
  obtain ⟨s,e⟩:=Qhe h .un (.fz (.lst (encN row)))
  rw [e]
  walk_at "ev"
theorem e_mask_t {row:List Nat} (h:∀ k∈row,k≤1000):Zl [.tup (encN row)]=some (pN (XA row)):=by
  unfold Zl QcR
  walk_at "ev"
  obtain ⟨s,e⟩:=Qhe h .un (.fz (.tup (encN row)))
  rw [e]
  walk_at "ev"
end DH

noncomputable section
namespace DH
open PySem PySem.Spec PyProof.Rows L2 L2.PM
structure Rule where
  head:Nat
  body:List Nat
structure Bk where
  words:Nat
  banes:List Nat
  rules:List Rule
noncomputable def Rule.enc (r:Rule):PV := .tup [pN r.head,.tup (encN r.body)]
noncomputable def Bk.enc (b:Bk):PV := .tup [pN b.words,.tup (encN b.banes),.tup (b.rules.map Rule.enc)]
structure Bk.Ok (b:Bk):Prop where
  g8:b.banes.length≤8
  gw:b.banes.length≤b.words
  w60:b.words≤60
  r40:b.rules.length≤48
  bane:∀ x∈b.banes,x < b.words
  hd:∀ r∈b.rules,b.banes.length≤r.head∧r.head < b.words
  bd:∀ r∈b.rules,r.body.Pairwise (· < ·)∧∀ x∈r.body,x < b.words
inductive Way (b:Bk) (held:Nat):List Nat→Nat→Prop
  | nil:Way b held [] held
  | snoc {steps known i r}:Way b held steps known→b.rules[i]?=some r→(∀ x∈r.body,known.testBit x=true)→known.testBit r.head=false→Way b held (steps++[i]) (known|||2 ^ r.head)
noncomputable def Xm (b:Bk) (known:Nat):Prop:=∀ r∈b.rules,(∀ x∈r.body,known.testBit x=true)→known.testBit r.head=true
inductive Der (b:Bk) (held:Nat):Nat→Prop
  | held {w}:held.testBit w=true→Der b held w
  | rule {r}:r∈b.rules→(∀ x∈r.body,Der b held x)→Der b held r.head
theorem ZP (m k j:Nat):(m|||2 ^ k).testBit j=(m.testBit j||decide (k=j)):=by
  rw [Nat.testBit_or,Nat.testBit_two_pow]
theorem Way.der {b:Bk} {held:Nat} {steps:List Nat} {known:Nat} (h:Way b held steps known):∀ w,known.testBit w=true→Der b held w:=by
  induction h with
  | nil=>exact fun w hw => .held hw
  | snoc _ hr hb _ ih =>
    intro w hw
    rw [ZP] at hw
    simp at hw
    rcases hw with hw | hw
    · exact ih w hw
    · subst hw;exact .rule (List.mem_of_getElem? hr) fun x hx=>ih x (hb x hx)
theorem Way.sub {b:Bk} {held:Nat} {steps:List Nat} {known:Nat} (h:Way b held steps known):∀ w,held.testBit w=true→known.testBit w=true:=by
  induction h with
  | nil=>exact fun w hw=>hw
  | snoc _ hr hb _ ih =>
    intro w hw
    rw [ZP,ih w hw];rfl
theorem Xm.der {b:Bk} {held known:Nat} (c:Xm b known) (s:∀ w,held.testBit w=true→known.testBit w=true) {w:Nat} (h:Der b held w):known.testBit w=true:=by
  induction h with
  | held hw=>exact s _ hw
  | rule hr _ ih=>exact c _ hr ih
noncomputable def IsYl (b:Bk) (held known:Nat):Prop:=∀ w,known.testBit w=true↔Der b held w
theorem IsYl.of {b:Bk} {held:Nat} {steps:List Nat} {known:Nat} (h:Way b held steps known) (c:Xm b known):IsYl b held known:=fun w=>⟨h.der w,c.der h.sub⟩
theorem IsYl.unique {b:Bk} {held k1 k2:Nat} (h1:IsYl b held k1) (h2:IsYl b held k2):k1=k2 :=
  Nat.eq_of_testBit_eq fun w=>by rw [Bool.eq_iff_iff,h1 w,h2 w]
theorem Der.mono {b:Bk} {h1 h2:Nat} (s:∀ w,h1.testBit w=true→h2.testBit w=true) {w:Nat} (d:Der b h1 w):Der b h2 w:=by
  induction d with
  | held hw=>exact .held (s _ hw)
  | rule hr _ ih=>exact .rule hr ih
theorem Der.lt {b:Bk} (ok:b.Ok) {held:Nat} (hh:held < 2 ^ b.words) {w:Nat} (d:Der b held w):w < b.words:=by
  induction d with
  | held hw =>
    rename_i w
    rcases Nat.lt_or_ge w b.words with h | h
    · exact h
    · have:held < 2 ^ w:=Nat.lt_of_lt_of_le hh (Nat.pow_le_pow_right (by decide) h)
      rw [Nat.testBit_lt_two_pow this] at hw;cases hw
  | rule hr _ _=>exact (ok.hd _ hr).2
theorem Der.guess {b:Bk} (ok:b.Ok) {held g:Nat} (hg:g < b.banes.length) (d:Der b held g):held.testBit g=true:=by
  cases d with
  | held hw=>exact hw
  | rule hr _=>have:=(ok.hd _ hr).1;omega
noncomputable def left (b:Bk) (known:Nat):Nat:=(b.rules.filter fun r => !known.testBit r.head).length
theorem QcP {α:Type} {p q:α→Bool}:∀ {l:List α} {x:α},x∈l→p x=true→q x=false→(∀ y,q y=true→p y=true)→(l.filter q).length < (l.filter p).length
  | y :: l,x,hx,hp,hq,hi=>by
    have le:∀ l:List α,(l.filter q).length≤(l.filter p).length:=by
      intro l
      induction l with
      | nil=>exact Nat.le_refl _
      | cons z l ih =>
        rw [List.filter_cons,List.filter_cons]
        cases hz:q z with
        | true=>rw [hi z hz];simp;exact ih
        | false=>cases p z <;> simp <;> omega
    rcases List.mem_cons.mp hx with e | e
    · subst e
      rw [List.filter_cons_of_pos hp,List.filter_cons_of_neg (by simp [hq])]
      have:=le l
      simp only [List.length_cons];omega
    · have:=QcP e hp hq hi
      rw [List.filter_cons,List.filter_cons]
      cases hz:q y with
      | true=>rw [hi y hz];simp;omega
      | false=>cases p y <;> simp <;> omega
theorem Way.left {b:Bk} {held:Nat} {steps:List Nat} {known:Nat} (h:Way b held steps known):steps.length + left b known≤b.rules.length:=by
  induction h with
  | nil=>rw [List.length_nil,Nat.zero_add];exact List.length_filter_le _ _
  | snoc _ hr hb hn ih =>
    rename_i st kn i r _
    have:DH.left b (kn|||2 ^ r.head) < DH.left b kn:=QcP (List.mem_of_getElem? hr) (by simp [hn]) (by rw [ZP];simp) (fun y hy=>by
      rw [ZP] at hy
      simp at hy
      simp [hy.1])
    simp only [List.length_append,List.length_cons,List.length_nil]
    omega
noncomputable def hds (b:Bk) (steps:List Nat):List Nat:=steps.map fun i=>(b.rules.getD i ⟨0,[]⟩).head
theorem Way.known {b:Bk} {held:Nat} {steps:List Nat} {known:Nat} (h:Way b held steps known):known=held|||XA (hds b steps):=by
  induction h with
  | nil=>show held=held|||0;simp
  | snoc _ hr hb _ ih =>
    rename_i st kn i r _ _
    have e:(b.rules.getD i ⟨0,[]⟩)=r:=by simp [hr]
    have e2:XA (hds b (st++[i]))=XA (hds b st)|||2 ^ r.head:=by
      unfold hds XA
      rw [List.map_append,List.foldl_append]
      simp only [List.map_cons,List.map_nil,List.foldl_cons,List.foldl_nil,e]
    rw [e2,ih,Nat.or_assoc]
theorem Way.lt {b:Bk} {held:Nat} {steps:List Nat} {known:Nat} (h:Way b held steps known):∀ i∈steps,i < b.rules.length:=by
  induction h with
  | nil=>simp
  | snoc _ hr hb _ ih =>
    intro i hi
    rcases List.mem_append.mp hi with h | h
    · exact ih i h
    · rw [List.mem_singleton.mp h];exact (List.getElem?_eq_some_iff.mp hr).1
theorem Qbb {t:PEnv→Option Bool} {b:MSt} {Post:PEnv→Prop} (I:Nat→PEnv→Prop)
    (step:∀ n γ,I n γ→(t γ=some false∧Post γ)∨(t γ=some true∧∃ γ2 m,b γ=some (.nx γ2)∧m < n∧I m γ2)) :
    ∀ (N n:Nat) (γ:PEnv),I n γ→n < N→∃ γ',QaI t b N γ=some (.nx γ')∧Post γ'
  | 0,_,_,_,h=>by omega
  | N + 1,n,γ,hI,hn=>by
    rcases step n γ hI with ⟨ht,hp⟩ | ⟨ht,γ2,m,hb,hm,h2⟩
    · exact ⟨γ,by unfold QaI;rw [ht];rfl,hp⟩
    · obtain ⟨γ',e,p⟩:=Qbb I step N m γ2 h2 (by omega)
      exact ⟨γ',by unfold QaI;rw [ht,Option.bind_some,if_pos rfl,hb];exact e,p⟩
end DH

noncomputable section
namespace DH
open PySem PySem.Spec PyProof.Rows L2 L2.PM
theorem enc_ix0 (b:Bk):pIx b.enc (pN 0)=some (pN b.words):=rfl
theorem enc_ix1 (b:Bk):pIx b.enc (pN 1)=some (.tup (encN b.banes)):=rfl
theorem enc_ix2 (b:Bk):pIx b.enc (pN 2)=some (.tup (b.rules.map Rule.enc)):=rfl
theorem renc_ix0 (r:Rule):pIx r.enc (pN 0)=some (pN r.head):=rfl
theorem renc_ix1 (r:Rule):pIx r.enc (pN 1)=some (.tup (encN r.body)):=rfl
theorem flat_benc (b:Bk):flat b.enc=false:=rfl
theorem flat_renc (r:Rule):flat r.enc=false:=rfl
noncomputable def Qku (b:Bk):List PV:=b.rules.map fun r=>pN (XA r.body)
theorem zipIdx_map {α β:Type} (f:α→β) (xs:List α):(xs.map f).zipIdx=xs.zipIdx.map fun p=>(f p.1,p.2):=by
  rw [List.zipIdx_map]
  exact List.map_congr_left fun p _=>rfl
local macro_rules | `(tactic| walk_at "ev") => `(tactic| try simp (disch:=first | assumption | omega | (simp only [encN_len,encN_len,List.length_map,List.length_range,List.length_cons,List.length_nil,List.length_append];omega) | decide) only [encN_len,encN_flat,enc_ix0,enc_ix1,enc_ix2,renc_ix0,renc_ix1,flat_benc,flat_renc,e_inside,EVc,List.length_cons,List.length_nil,if_true,List.map_cons,List.map_nil,List.replicate_zero,List.replicate_succ,List.cons_append,List.nil_append,List.getElem?_cons_zero,List.getElem?_cons_succ,Option.bind_some,Option.map_some,List.set_cons_zero,List.set_cons_succ,List.length_map,List.length_range,List.all_nil,List.all_cons,List.length_append])
noncomputable def look (b:Bk) (held:Nat) (known:Nat) (steps:List Nat) (grown:Bool) (s7 s8 s9:Slot):PEnv :=
  [.fz b.enc,.fz (pN held),.fz (.tup (b.rules.map Rule.enc)),.ow (Qku b),.fz (pN known),.ow (encN steps),.fz (.bl grown),s7,s8,s9]
noncomputable def QbZ (known:Nat) (r:Rule):Bool := !known.testBit r.head&&r.body.all fun k=>known.testBit k
theorem turn_b1 {b:Bk} (ok:b.Ok) {held known i:Nat} {steps:List Nat} {grown:Bool} {s9:Slot} {r:Rule} (hi:b.rules[i]?=some r) (hs:steps.length≤100) :
    ∃ s7 s8 s9',ZM (look b held known steps grown (.fz (pN i)) (.fz r.enc) s9)=some (.nx (match QbZ known r with
      | true=>look b held (known|||2 ^ r.head) (steps++[i]) true s7 s8 s9' | false=>look b held known steps grown s7 s8 s9')):=by
  have hm:=List.mem_of_getElem? hi
  have hh:=(ok.hd r hm).2
  have hw:=ok.w60
  refine ⟨.fz (pN i),.fz r.enc,.fz (pN (2 ^ r.head)),?_⟩
  unfold ZM look QbZ
  walk_at "ev"
  rw [Qcx]
  cases hk:known.testBit r.head with
  | true=>walk_at "ev"
  | false =>
    walk_at "ev"
    have e:(Qku b)[i]?=some (pN (XA r.body)):=by unfold Qku;rw [List.getElem?_map,hi];rfl
    rw [e]
    walk_at "ev"
    rw [QjO]
    cases hb:r.body.all fun k=>known.testBit k with
    | true =>
      walk_at "ev"
      rw [Qau (by rw [encN_len];omega) rfl]
      walk_at "ev"
      simp [encN]
    | false=>walk_at "ev"
theorem Qbf {known:Nat} {r:Rule}:QbZ known r=true↔known.testBit r.head=false∧∀ x∈r.body,known.testBit x=true:=by
  unfold QbZ
  simp
theorem round_b2 {b:Bk} (ok:b.Ok) {held known:Nat} {steps:List Nat} {grown:Bool} {s7 s8 s9:Slot} (w:Way b held steps known) :
    ∃ known' steps' grown' s7' s8' s9',ZL (look b held known steps grown s7 s8 s9)=some (.nx (look b held known' steps' grown' s7' s8' s9'))∧Way b held steps' known' ∧
      (grown'=false→Xm b known')∧(grown'=true→steps.length < steps'.length)∧steps.length≤steps'.length:=by
  unfold ZL look
  walk_at "ev"
  rw [zipIdx_map,List.map_map]
  obtain ⟨γ',e,known',steps',grown',t7,t8,t9,rfl,h1,h2,h3,h4⟩:=Yg (g:=XC 7 8) (b:=ZM) (fun (p:Rule×Nat)=>PV.tup [pN p.2,p.1.enc])
    (fun pre γ=>∃ known' steps' grown' t7 t8 t9,γ=look b held known' steps' grown' t7 t8 t9∧Way b held steps' known'∧steps.length≤steps'.length ∧
      (grown'=false→∀ p∈pre,QbZ known' p.1=false)∧(grown'=true→steps.length < steps'.length))
    b.rules.zipIdx b.rules.zipIdx [] (look b held known steps false s7 s8 s9) rfl ⟨known,steps,false,s7,s8,s9,rfl,w,Nat.le_refl _,by simp,by simp⟩ (by
      rintro pre p post γ hpre ⟨kn,st,gr,t7,t8,t9,rfl,h1,h2,h3,h4⟩
      have hp:p∈b.rules.zipIdx:=by rw [← hpre];simp
      have hi:b.rules[p.2]?=some p.1:=by
        have:=List.mem_zipIdx_iff_getElem?.mp hp
        simpa using this
      have hl:=h1.left
      have hr:=ok.r40
      obtain ⟨u7,u8,u9,e⟩:=turn_b1 ok (held:=held) (known:=kn) (steps:=st) (grown:=gr) (s9:=t9) hi (by omega)
      refine ⟨_,_,rfl,e,?_⟩
      cases hf:QbZ kn p.1 with
      | true =>
        obtain ⟨f1,f2⟩:=Qbf.mp hf
        refine ⟨_,_,_,_,_,_,rfl,h1.snoc hi f2 f1,by simp;omega,by simp,fun _=>by simp;omega⟩
      | false =>
        refine ⟨_,_,_,_,_,_,rfl,h1,h2,fun hg q hq => ?_,h4⟩
        rcases List.mem_append.mp hq with z | z
        · exact h3 hg q z
        · rw [List.mem_singleton.mp z];exact hf)
  unfold look at e
  refine ⟨known',steps',grown',t7,t8,t9,?_,h1,fun hg r hr hb => ?_,h4,h2⟩
  · exact e
  · obtain ⟨i,hi,hri⟩:=List.mem_iff_getElem.mp hr
    have:=h3 hg (r,i) (List.mem_zipIdx_iff_getElem?.mpr (by simp [hi,hri]))
    cases hk:known'.testBit r.head with
    | true=>rfl
    | false =>
      have:=Qbf.mpr ⟨hk,hb⟩
      simp_all
theorem Qii {b:Bk} (ok:b.Ok) (held:Nat):∃ steps known,QS [b.enc,pN held]=some (.lst (encN steps))∧Way b held steps known∧Xm b known:=by
  unfold QS XG
  have hr:=ok.r40
  have hw:=ok.w60
  walk_at "ev"
  rw [XU Rule.enc (fun r=>pN (XA r.body)) b.rules fun r hr=>⟨_,rfl,?_⟩]
  · have fl:(b.rules.map fun r=>pN (XA r.body)).all flat=true:=by rw [List.all_map,List.all_eq_true];exact fun _ _=>rfl
    rw [Option.map_some,fl]
    walk_at "ev"
    obtain ⟨γ',e,known,steps,s7,s8,s9,rfl,h1,h2⟩:=Qbb (t:=mTru (mVar 6)) (b:=ZL)
      (Post:=fun γ=>∃ known steps s7 s8 s9,γ=look b held known steps false s7 s8 s9∧Way b held steps known∧Xm b known)
      (fun n γ=>∃ known steps grown s7 s8 s9,γ=look b held known steps grown s7 s8 s9∧Way b held steps known∧(grown=false→Xm b known)∧n=2 * (b.rules.length + 1 - steps.length) + (if grown=true then 1 else 0))
      (by
        rintro n γ ⟨known,steps,grown,s7,s8,s9,rfl,h1,h2,rfl⟩
        have hl:=h1.left
        cases grown with
        | false =>
          refine .inl ⟨?_,known,steps,s7,s8,s9,rfl,h1,h2 rfl⟩
          unfold look
          walk_at "ev"
        | true =>
          refine .inr ⟨?_,?_⟩
          · unfold look
            walk_at "ev"
          · obtain ⟨kn,st,gr,t7,t8,t9,e,w,c,l,l2⟩:=round_b2 ok (grown:=true) (s7:=s7) (s8:=s8) (s9:=s9) h1
            have hl2:=w.left
            cases gr with
            | true=>exact ⟨_,_,e,by have:=l rfl;simp;omega,kn,st,true,t7,t8,t9,rfl,w,c,rfl⟩
            | false=>exact ⟨_,_,e,by simp;omega,kn,st,false,t7,t8,t9,rfl,w,c,rfl⟩)
      1000 (2 * (b.rules.length + 1) + 1) (look b held held [] true .un .un .un) ⟨held,[],true,.un,.un,.un,rfl,.nil,by simp,by simp⟩ (by omega)
    unfold look at e
    refine ⟨steps,known,?_,h1,h2⟩
    unfold Qcn
    rw [show Qku b=b.rules.map fun r=>pN (XA r.body) from rfl,show encN []=[] from rfl] at e
    rw [e]
    walk_at "ev"
  · have:=(ok.bd r hr).2
    walk_at "ev"
    rw [e_mask_t fun k hk=>by have:=this k hk;omega]
noncomputable def yl (b:Bk) (held:Nat):Nat:=Classical.epsilon (IsYl b held)
theorem way_ex {b:Bk} {held:Nat}:∀ (n:Nat) (steps:List Nat) (known:Nat),Way b held steps known→b.rules.length - steps.length=n→∃ steps' known',Way b held steps' known'∧Xm b known':=by
  intro n
  induction n with
  | zero =>
    intro steps known h hn
    refine ⟨steps,known,h,fun r hr hb=>Classical.byContradiction fun hc => ?_⟩
    obtain ⟨i,hi⟩:=List.getElem?_of_mem hr
    have:=(Way.snoc h hi hb (by simpa using hc)).left
    simp only [List.length_append,List.length_cons,List.length_nil] at this
    omega
  | succ n ih =>
    intro steps known h hn
    by_cases hc:Xm b known
    · exact ⟨steps,known,h,hc⟩
    · obtain ⟨r,hr⟩:=Classical.not_forall.mp hc
      obtain ⟨hr,hr2⟩:=Classical.not_imp.mp hr
      obtain ⟨hb,hh⟩:=Classical.not_imp.mp hr2
      obtain ⟨i,hi⟩:=List.getElem?_of_mem hr
      exact ih _ _ (Way.snoc h hi hb (by simpa using hh)) (by simp only [List.length_append,List.length_cons,List.length_nil];omega)
theorem yl_is {b:Bk} (ok:b.Ok) (held:Nat):IsYl b held (yl b held):=by
  obtain ⟨steps,known,h1,h2⟩:=way_ex _ [] held .nil rfl
  exact Classical.epsilon_spec (p:=IsYl b held) ⟨known,.of h1 h2⟩
theorem yl_eq {b:Bk} (ok:b.Ok) {held known:Nat} (h:IsYl b held known):known=yl b held:=h.unique (yl_is ok held)
theorem hds_lt {b:Bk} (ok:b.Ok) {steps:List Nat} (h:∀ i∈steps,i < b.rules.length):∀ k∈hds b steps,k < b.words:=by
  intro k hk
  obtain ⟨i,hi,rfl⟩:=List.mem_map.mp hk
  have:=h i hi
  have e:b.rules.getD i ⟨0,[]⟩=b.rules[i]:=by simp [this]
  rw [e]
  exact (ok.hd _ (List.getElem_mem this)).2
theorem QeA {b:Bk} (ok:b.Ok) {held known:Nat} {steps:List Nat} (w:Way b held steps known):Zu [b.enc,pN held,.lst (encN steps)]=some (pN known):=by
  have hl:=w.left
  have hr:=ok.r40
  have hw:=ok.w60
  unfold Zu Qbm
  walk_at "ev"
  rw [show encN steps=steps.map pN from rfl,XU pN (fun i=>pN (b.rules.getD i ⟨0,[]⟩).head) steps fun i hi=>⟨_,rfl,?_⟩]
  · rw [show (steps.map fun i=>pN (b.rules.getD i ⟨0,[]⟩).head)=encN (hds b steps) by unfold encN hds;rw [List.map_map];rfl]
    walk_at "ev"
    rw [Qhm fun k hk=>by have:=hds_lt ok w.lt k hk;omega]
    walk_at "ev"
    rw [← w.known]
  · have hi:=w.lt i hi
    have e:b.rules[i]?=some (b.rules.getD i ⟨0,[]⟩):=by simp [hi]
    walk_at "ev"
    rw [List.getElem?_map,e]
    walk_at "ev"
end DH

noncomputable section
namespace DH
open PySem PySem.Spec PyProof.Rows L2 L2.PM
local macro_rules | `(tactic| walk_at "ev") => `(tactic| try simp (disch:=first | assumption | omega | (simp only [encN_len,encN_len,List.length_map,List.length_range,List.length_cons,List.length_nil,List.length_append];omega) | decide) only [encN_len,encN_flat,enc_ix0,enc_ix1,enc_ix2,renc_ix0,renc_ix1,flat_benc,flat_renc,e_inside,EVc,List.length_cons,List.length_nil,if_true,List.map_cons,List.map_nil,List.replicate_zero,List.replicate_succ,List.cons_append,List.nil_append,List.getElem?_cons_zero,List.getElem?_cons_succ,Option.bind_some,Option.map_some,List.set_cons_zero,List.set_cons_succ,List.length_map,List.length_range,List.all_nil,List.all_cons,List.length_append])
theorem QeZ {b:Bk} (ok:b.Ok) (held:Nat):Yh [b.enc,pN held]=some (pN (yl b held)):=by
  obtain ⟨steps,known,e,h1,h2⟩:=Qii ok held
  have:=yl_eq ok (.of h1 h2)
  subst this
  unfold Yh Qfc
  walk_at "ev"
  rw [e]
  walk_at "ev"
  rw [QeA ok h1]
  walk_at "ev"
end DH

noncomputable section
namespace DH
open PySem PySem.Spec PyProof.Rows L2 L2.PM
theorem QaY {α:Type} [BEq α] [LawfulBEq α] {y:α}:∀ {xs:List α},y∈once xs↔y∈xs
  | []=>by simp [once]
  | x :: xs=>by
    unfold once
    rw [List.mem_cons,List.mem_cons,List.mem_filter,QaY (xs:=xs)]
    by_cases h:y=x
    · simp [h]
    · simp [h]
theorem QdG {α:Type} [BEq α] [LawfulBEq α]:∀ xs:List α,(once xs).Nodup
  | []=>by simp [once]
  | x :: xs=>by
    unfold once
    rw [List.nodup_cons]
    refine ⟨by simp [List.mem_filter],List.Pairwise.filter _ (QdG xs)⟩
theorem Qee {α:Type} [BEq α]:∀ xs:List α,(once xs).length≤xs.length
  | []=>by simp [once]
  | x :: xs=>by
    unfold once
    have h1:=List.length_filter_le (fun y => !(y==x)) (once xs)
    have h2:=Qee xs
    simp only [List.length_cons]
    omega
noncomputable def asc (ns:List Nat):List Nat:=(QaP (once (ns.map fun (k:Nat)=>(k:Int)))).map Int.toNat
theorem mem_asc {ns:List Nat} {x:Nat}:x∈asc ns↔x∈ns:=by
  unfold asc
  rw [List.mem_map]
  constructor
  · rintro ⟨i,hi,rfl⟩
    have:=QaY.mp ((Yo _).mem_iff.mp hi)
    obtain ⟨k,hk,rfl⟩:=List.mem_map.mp this
    simpa using hk
  · intro h
    exact ⟨(x:Int),(Yo _).mem_iff.mpr (QaY.mpr (List.mem_map.mpr ⟨x,h,rfl⟩)),by simp⟩
theorem asc_enc (ns:List Nat):(QaP (once (ns.map fun (k:Nat)=>(k:Int)))).map PV.int=encN (asc ns):=by
  unfold asc encN
  rw [List.map_map]
  refine List.map_congr_left fun i hi => ?_
  have:=QaY.mp ((Yo _).mem_iff.mp hi)
  obtain ⟨k,hk,rfl⟩:=List.mem_map.mp this
  rfl
theorem asc_lt (ns:List Nat):(asc ns).Pairwise (· < ·):=by
  have h1:=Qhf (once (ns.map fun (k:Nat)=>(k:Int)))
  have h2:(QaP (once (ns.map fun (k:Nat)=>(k:Int)))).Nodup:=(Yo _).nodup_iff.mpr (QdG _)
  have h3:∀ i∈QaP (once (ns.map fun (k:Nat)=>(k:Int))),0≤i:=fun i hi=>by
    have:=QaY.mp ((Yo _).mem_iff.mp hi)
    obtain ⟨k,hk,rfl⟩:=List.mem_map.mp this
    omega
  unfold asc
  generalize QaP (once (ns.map fun (k:Nat)=>(k:Int)))=l at *
  clear ns
  induction l with
  | nil=>exact .nil
  | cons x l ih =>
    rw [List.pairwise_cons] at h1
    rw [List.nodup_cons] at h2
    rw [List.map_cons,List.pairwise_cons]
    refine ⟨fun y hy => ?_,ih h1.2 h2.2 fun i hi=>h3 i (List.mem_cons_of_mem _ hi)⟩
    obtain ⟨z,hz,rfl⟩:=List.mem_map.mp hy
    have a:=h1.1 z hz
    have b:=h3 x List.mem_cons_self
    have c:x≠z:=fun e=>h2.1 (e ▸ hz)
    omega
theorem asc_len' (ns:List Nat):(asc ns).length=(once (ns.map fun (k:Nat)=>(k:Int))).length:=by
  unfold asc;rw [List.length_map,QjJ]
theorem Qir (ns:List Nat):(asc ns).length≤ns.length:=by
  rw [asc_len']
  have:=Qee (ns.map fun (k:Nat)=>(k:Int))
  rwa [List.length_map] at this
theorem QhM {ns:List Nat} (h:ns.length < 64):QaW [.lst (encN ns)]=some (encN (asc ns)):=by
  have e:QaW [.lst (encN ns)]=match Qdq (encN ns) with
    | some ns=>if ns.length < 1000∧(once ns).length < 64 then some ((QaP (once ns)).map PV.int) else none
    | none=>none:=rfl
  rw [e,QjZ,QjM]
  have:=Qee (ns.map fun (k:Nat)=>(k:Int))
  rw [List.length_map] at this
  show (if (ns.map fun (k:Nat)=>(k:Int)).length < 1000∧(once (ns.map fun (k:Nat)=>(k:Int))).length < 64 then _ else none)=_
  rw [if_pos ⟨by rw [List.length_map];omega,by omega⟩,asc_enc]
end DH

noncomputable section
namespace DH
open PySem PySem.Spec PyProof.Rows L2 L2.PM
noncomputable def Yx (g w:Nat) (r:Rule):Prop:=g≤r.head∧r.head < w∧r.body.Pairwise (· < ·)∧r.body.length≤6∧∀ x∈r.body,x < w
end DH

noncomputable section
namespace DH
open PySem PySem.Spec PyProof.Rows L2 L2.PM
end DH

noncomputable section
namespace DH
open PySem PySem.Spec PyProof.Rows L2 L2.PM
theorem Qbh:∀ xs:List Nat,depL (encN xs)=0
  | []=>by simp [encN,depL]
  | x :: xs=>by
    have:=Qbh xs
    unfold encN at *
    rw [List.map_cons]
    unfold depL
    rw [this]
    simp [pN,dep]
theorem Qbe:∀ xs:List Nat,okSL (encN xs)=true
  | []=>by simp [encN,okSL]
  | x :: xs=>by
    have:=Qbe xs
    unfold encN at *
    rw [List.map_cons]
    unfold okSL
    rw [this]
    simp [pN,okS]
theorem Qcv (xs:List Nat):okv (.lst (encN xs))=true:=by
  simp [okv,dep,okS,Qbh,Qbe]
theorem QgZ (xs:List Nat):okv (.tup (encN xs))=true:=by
  simp [okv,dep,okS,Qbh,Qbe]
theorem QgY (r:Rule):okv r.enc=true:=by
  unfold Rule.enc
  simp [okv,dep,depL,okS,okSL,Qbh,Qbe,pN]
theorem QjB (rs:List Rule):(rs.map Rule.enc).all okv=true:=by
  rw [List.all_map,List.all_eq_true]
  exact fun r _=>QgY r
theorem QhT (r:Rule) (rs:List Rule):∃ b,Xy r.enc (.lst (rs.map Rule.enc))=some (.bl b):=by
  have e:pIn r.enc (.lst (rs.map Rule.enc))=if okv r.enc=true∧(rs.map Rule.enc).all okv=true then some (.bl ((rs.map Rule.enc).any fun y=>peq y r.enc)) else none:=rfl
  exact ⟨_,QcN (e.trans (if_pos ⟨QgY r,QjB rs⟩))⟩
end DH

noncomputable section
namespace DH
open PySem PySem.Spec PyProof.Rows L2 L2.PM
theorem Bk.Ok.of {w:Nat} {banes:List Nat} {rules:List Rule} (h8:banes.length≤8) (hgw:banes.length≤w) (hw:w≤60) (hb:∀ x∈banes,x < w) (hr:∀ r∈rules,Yx banes.length w r) (hl:rules.length≤40):(⟨w,banes,rules⟩:Bk).Ok :=
  ⟨h8,hgw,hw,by show rules.length≤48;omega,hb,fun r h=>⟨(hr r h).1,(hr r h).2.1⟩,fun r h=>⟨(hr r h).2.2.1,(hr r h).2.2.2.2⟩⟩
theorem peq_nil (xs:List PV):peq (.lst xs) (.lst [])=xs.isEmpty:=by
  cases xs <;> rfl
end DH

noncomputable section
namespace DH
open PySem PySem.Spec PyProof.Rows L2 L2.PM
noncomputable def tr (w known:Nat):List PV:=(List.range w).map fun k => .bl (known.testBit k)
theorem tr_len (w known:Nat):(tr w known).length=w:=by unfold tr;rw [List.length_map,List.length_range]
theorem tr_get {w known k:Nat} (h:k < w):(tr w known)[k]?=some (.bl (known.testBit k)):=by
  unfold tr
  rw [List.getElem?_map,List.getElem?_range h]
  rfl
theorem tr_set (w known k:Nat):(tr w known).set k (.bl true)=tr w (known|||2 ^ k):=by
  refine List.ext_getElem? fun j => ?_
  by_cases hj:j < w
  · rw [tr_get hj,ZP]
    by_cases h:k=j
    · subst h
      rw [List.getElem?_set_self (by rw [tr_len];exact hj)]
      simp
    · rw [List.getElem?_set_ne h,tr_get hj]
      simp [h]
  · rw [List.getElem?_eq_none (by rw [List.length_set,tr_len];omega),List.getElem?_eq_none (by rw [tr_len];omega)]
theorem tr_flat (w known:Nat):(tr w known).all flat=true:=by
  unfold tr
  rw [List.all_map,List.all_eq_true]
  exact fun _ _=>rfl
theorem testBit_one (m k:Nat):(m / 2 ^ k&&&1==1)=m.testBit k:=by
  rw [Nat.and_one_is_mod]
  exact testBit_mod m k
theorem testBit_zero' (m k:Nat):(m / 2 ^ k&&&1==0) = !m.testBit k:=by
  rw [← testBit_one,Nat.and_one_is_mod]
  have:m / 2 ^ k % 2 < 2:=Nat.mod_lt _ (by decide)
  have:m / 2 ^ k % 2=0∨m / 2 ^ k % 2=1:=by omega
  rcases this with h | h <;> rw [h] <;> rfl
theorem QjX (known:Nat) (r:Rule):QbZ known r=(!known.testBit r.head&&((r.body.filter fun k=>known.testBit k).length==r.body.length)):=by
  unfold QbZ
  congr 1
  rw [Bool.eq_iff_iff,beq_iff_eq,List.length_filter_eq_length_iff,List.all_eq_true]
local macro_rules | `(tactic| walk_at "ev") => `(tactic| try simp (disch:=first | assumption | omega | (simp only [encN_len,tr_len,encN_len,List.length_map,List.length_range,List.length_cons,List.length_nil,List.length_append];omega) | decide) only [encN_len,encN_flat,enc_ix0,enc_ix1,enc_ix2,renc_ix0,renc_ix1,flat_benc,flat_renc,e_inside,tr_get,tr_flat,tr_set,testBit_one,EVc,List.length_cons,List.length_nil,if_true,List.map_cons,List.map_nil,List.replicate_zero,List.replicate_succ,List.cons_append,List.nil_append,List.getElem?_cons_zero,List.getElem?_cons_succ,Option.bind_some,Option.map_some,List.set_cons_zero,List.set_cons_succ,List.length_map,List.length_range,List.all_nil,List.all_cons,List.length_append])
noncomputable def lk2 (b:Bk) (held known:Nat) (grown:Bool) (s4 s5:Slot):PEnv :=
  [.fz b.enc,.fz (pN held),.ow (tr b.words known),.fz (.bl grown),s4,s5]
theorem body_len {b:Bk} (ok:b.Ok) {r:Rule} (hr:r∈b.rules):r.body.length≤1000:=by
  have hb:=ok.bd r hr
  have hw:=ok.w60
  have key:∀ (row:List Nat) (lo n:Nat),row.Pairwise (· < ·)→(∀ x∈row,lo≤x∧x < n)→row.length≤n - lo:=by
    intro row
    induction row with
    | nil=>intros;simp
    | cons x r ih =>
      intro lo n hp h
      rw [List.pairwise_cons] at hp
      have:=ih (x + 1) n hp.2 fun y hy=>⟨hp.1 y hy,(h y (by simp [hy])).2⟩
      have:=h x (by simp)
      simp only [List.length_cons]
      omega
  have:=key r.body 0 b.words hb.1 fun x hx=>⟨Nat.zero_le _,hb.2 x hx⟩
  omega
theorem turn_c1 {b:Bk} (ok:b.Ok) {held known:Nat} {grown:Bool} {r:Rule} (hm:r∈b.rules) :
    ZY (lk2 b held known grown (.fz (pN r.head)) (.fz (.tup (encN r.body))))=some (.nx (match QbZ known r with
      | true=>lk2 b held (known|||2 ^ r.head) true (.fz (pN r.head)) (.fz (.tup (encN r.body))) | false=>lk2 b held known grown (.fz (pN r.head)) (.fz (.tup (encN r.body))))):=by
  have hh:=(ok.hd r hm).2
  have hw:=ok.w60
  have hbl:=body_len ok hm
  have hb:=(ok.bd r hm).2
  rw [QjX]
  unfold ZY lk2
  walk_at "ev"
  cases hk:known.testBit r.head with
  | true=>walk_at "ev"
  | false =>
    walk_at "ev"
    rw [Qgk (fun k=>known.testBit k) r.body fun k hk=>⟨_,rfl,by
      have:=hb k hk
      walk_at "ev",rfl⟩]
    walk_at "ev"
    cases (r.body.filter fun k=>known.testBit k).length==r.body.length with
    | true=>walk_at "ev"
    | false=>walk_at "ev"
theorem round_c2 {b:Bk} (ok:b.Ok) {held known:Nat} {steps:List Nat} {grown:Bool} {s4 s5:Slot} (w:Way b held steps known) :
    ∃ known' steps' grown' s4' s5',ZX (lk2 b held known grown s4 s5)=some (.nx (lk2 b held known' grown' s4' s5'))∧Way b held steps' known' ∧
      (grown'=false→Xm b known')∧(grown'=true→steps.length < steps'.length)∧steps.length≤steps'.length:=by
  unfold ZX lk2
  walk_at "ev"
  obtain ⟨γ',e,known',steps',grown',t4,t5,rfl,h1,h2,h3,h4⟩:=Yg (g:=XC 4 5) (b:=ZY) Rule.enc
    (fun pre γ=>∃ known' steps' grown' t4 t5,γ=lk2 b held known' grown' t4 t5∧Way b held steps' known'∧steps.length≤steps'.length ∧
      (grown'=false→∀ p∈pre,QbZ known' p=false)∧(grown'=true→steps.length < steps'.length))
    b.rules b.rules [] (lk2 b held known false s4 s5) rfl ⟨known,steps,false,s4,s5,rfl,w,Nat.le_refl _,by simp,by simp⟩ (by
      rintro pre r post γ hpre ⟨kn,st,gr,t4,t5,rfl,h1,h2,h3,h4⟩
      have hr:r∈b.rules:=by rw [← hpre];simp
      refine ⟨_,_,rfl,turn_c1 ok (held:=held) (known:=kn) (grown:=gr) hr,?_⟩
      cases hf:QbZ kn r with
      | true =>
        obtain ⟨f1,f2⟩:=Qbf.mp hf
        obtain ⟨i,hi,hri⟩:=List.mem_iff_getElem.mp hr
        refine ⟨_,st++[i],true,_,_,rfl,.snoc h1 (by rw [List.getElem?_eq_getElem hi,hri]) f2 f1,by simp;omega,by simp,fun _=>by simp;omega⟩
      | false =>
        refine ⟨_,st,gr,_,_,rfl,h1,h2,fun hg p hp => ?_,h4⟩
        rcases List.mem_append.mp hp with z | z
        · exact h3 hg p z
        · rw [List.mem_singleton.mp z];exact hf)
  refine ⟨known',steps',grown',t4,t5,?_,h1,fun hg r hr hb => ?_,h4,h2⟩
  · unfold lk2 at e
    exact e
  · have:=h3 hg r hr
    cases hk:known'.testBit r.head with
    | true=>rfl
    | false =>
      have:=Qbf.mpr ⟨hk,hb⟩
      simp_all
theorem Qbg {b:Bk} (ok:b.Ok) {held:Nat} (hh:held < 2 ^ b.banes.length):QA [b.enc,pN held]=some (.lst (tr b.words (yl b held))):=by
  unfold QA Qag
  have hr:=ok.r40
  have hw:=ok.w60
  have h8:=ok.g8
  walk_at "ev"
  rw [show encN (List.range b.words)=(List.range b.words).map pN from rfl,XU pN (fun k=>PV.bl (held.testBit k)) (List.range b.words) fun k hk=>⟨_,rfl,?_⟩]
  · rw [show ((List.range b.words).map fun k=>PV.bl (held.testBit k))=tr b.words held from rfl]
    walk_at "ev"
    obtain ⟨γ',e,known,s4,s5,rfl,h1,h2⟩:=Qbb (t:=mTru (mVar 3)) (b:=ZX)
      (Post:=fun γ=>∃ known s4 s5,γ=lk2 b held known false s4 s5∧(∃ steps,Way b held steps known)∧Xm b known)
      (fun n γ=>∃ known steps grown s4 s5,γ=lk2 b held known grown s4 s5∧Way b held steps known∧(grown=false→Xm b known)∧n=2 * (b.rules.length + 1 - steps.length) + (if grown=true then 1 else 0))
      (by
        rintro n γ ⟨known,steps,grown,s4,s5,rfl,h1,h2,rfl⟩
        have hl:=h1.left
        cases grown with
        | false =>
          refine .inl ⟨?_,known,s4,s5,rfl,⟨steps,h1⟩,h2 rfl⟩
          unfold lk2
          walk_at "ev"
        | true =>
          refine .inr ⟨?_,?_⟩
          · unfold lk2
            walk_at "ev"
          · obtain ⟨kn,st,gr,t4,t5,e,w,c,l,l2⟩:=round_c2 ok (grown:=true) (s4:=s4) (s5:=s5) h1
            have hl2:=w.left
            cases gr with
            | true=>exact ⟨_,_,e,by have:=l rfl;simp;omega,kn,st,true,t4,t5,rfl,w,c,rfl⟩
            | false=>exact ⟨_,_,e,by simp;omega,kn,st,false,t4,t5,rfl,w,c,rfl⟩)
      1000 (2 * (b.rules.length + 1) + 1) (lk2 b held held true .un .un) ⟨held,[],true,.un,.un,rfl,.nil,by simp,by simp⟩ (by omega)
    obtain ⟨steps,h1⟩:=h1
    have:=yl_eq ok (.of h1 h2)
    subst this
    unfold lk2 at e
    unfold Qcn
    rw [e]
    walk_at "ev"
  · have hk:=List.mem_range.mp hk
    walk_at "ev"
    by_cases h:k < b.banes.length
    · rw [decide_eq_true h]
      walk_at "ev"
    · rw [decide_eq_false h]
      walk_at "ev"
      rw [Nat.testBit_lt_two_pow (Nat.lt_of_lt_of_le hh (Nat.pow_le_pow_right (by decide) (by omega)))]
end DH

noncomputable section
namespace DH
open PySem PySem.Spec PyProof.Rows L2 L2.PM
noncomputable def hitL (b:Bk) (known:Nat):List Nat:=(List.range b.banes.length).filter fun g=>known.testBit (b.banes.getD g 0)
noncomputable def stk (b:Bk) (held:Nat):Nat:=XA (hitL b (yl b held))
theorem enumN (xs:List Nat):((encN xs).zipIdx.map fun x=>PV.tup [pN x.2,x.1])=(List.range xs.length).map fun g=>PV.tup [pN g,pN (xs.getD g 0)]:=by
  refine List.ext_getElem? fun j => ?_
  rw [List.getElem?_map,List.getElem?_map,List.getElem?_zipIdx]
  by_cases h:j < xs.length
  · rw [List.getElem?_range h]
    unfold encN
    rw [List.getElem?_map]
    simp [h]
  · rw [List.getElem?_eq_none (by unfold encN;simp;omega),List.getElem?_eq_none (by simp;omega)]
    rfl
theorem Qbi {α:Type} {g:PV→PEnv→Option PEnv} {t:PEnv→Option Bool} {e:MEx} {γ:PEnv} (f:α→PV) (p:α→Bool) (y:α→PV):∀ (xs:List α),(∀ x∈xs,∃ γ1,g (f x) γ=some γ1∧t γ1=some (p x)∧(p x=true→e γ1=some (y x))) →
    Xc g t e γ (xs.map f)=some ((xs.filter p).map y)
  | [],_=>rfl
  | x :: xs,h=>by
    obtain ⟨γ1,h1,h2,h3⟩:=h x (by simp)
    have ih:=Qbi f p y xs fun z hz=>h z (by simp [hz])
    rw [List.map_cons]
    unfold Xc
    rw [h1,Option.bind_some,h2,Option.bind_some]
    cases hp:p x with
    | true =>
      rw [List.filter_cons_of_pos hp,h3 hp,ih]
      rfl
    | false =>
      rw [List.filter_cons_of_neg (by simp [hp])]
      simp [ih]
local macro_rules | `(tactic| walk_at "ev") => `(tactic| try simp (disch:=first | assumption | omega | (simp only [encN_len,tr_len,encN_len,List.length_map,List.length_range,List.length_cons,List.length_nil,List.length_append];omega) | decide) only [encN_len,encN_flat,enc_ix0,enc_ix1,enc_ix2,renc_ix0,renc_ix1,flat_benc,flat_renc,e_inside,tr_get,tr_flat,tr_set,testBit_one,EVc,List.length_cons,List.length_nil,if_true,List.map_cons,List.map_nil,List.replicate_zero,List.replicate_succ,List.cons_append,List.nil_append,List.getElem?_cons_zero,List.getElem?_cons_succ,Option.bind_some,Option.map_some,List.set_cons_zero,List.set_cons_succ,List.length_map,List.length_range,List.all_nil,List.all_cons,List.length_append])
theorem hitL_lt {b:Bk} {k g:Nat} (h:g∈hitL b k):g < b.banes.length:=List.mem_range.mp (List.mem_filter.mp h).1
theorem bane_lt {b:Bk} (ok:b.Ok) {g:Nat} (h:g < b.banes.length):b.banes.getD g 0 < b.words:=by
  have:b.banes.getD g 0=b.banes[g]:=by simp [h]
  rw [this]
  exact ok.bane _ (List.getElem_mem h)
theorem Qhl {b:Bk} (ok:b.Ok) (held:Nat):Yy [b.enc,pN held]=some (pN (stk b held)):=by
  unfold Yy Qho
  have h8:=ok.g8
  have hw:=ok.w60
  walk_at "ev"
  rw [QeZ ok]
  walk_at "ev"
  rw [enumN]
  walk_at "ev"
  rw [Qbi (fun g=>PV.tup [pN g,pN (b.banes.getD g 0)]) (fun g=>(yl b held).testBit (b.banes.getD g 0)) pN (List.range b.banes.length) fun g hg=>⟨_,rfl,?_,fun _=>rfl⟩]
  · rw [show (((List.range b.banes.length).filter fun g=>(yl b held).testBit (b.banes.getD g 0)).map pN)=encN (hitL b (yl b held)) from rfl]
    walk_at "ev"
    rw [Qhm fun k hk=>by have:=hitL_lt hk;omega]
    rfl
  · have:=bane_lt ok (List.mem_range.mp hg)
    walk_at "ev"
    rw [Qcx]
theorem Qij {b:Bk} (ok:b.Ok) (held:Nat):Yn [b.enc,pN held]=some (.bl (held&&&stk b held==0)):=by
  unfold Yn QdO
  walk_at "ev"
  rw [Qhl ok]
  walk_at "ev"
theorem stk_bit {b:Bk} {held g:Nat}:(stk b held).testBit g=true↔g < b.banes.length∧(yl b held).testBit (b.banes.getD g 0)=true:=by
  unfold stk hitL
  rw [Qaa,decide_eq_true_iff,List.mem_filter,List.mem_range]
noncomputable def dif (a b:Nat):Nat:=a - (a&&&b)
theorem or_add:∀ (x y:Nat),x&&&y=0→x|||y=x + y:=by
  intro x
  induction x using Nat.strongRecOn with
  | _ x ih =>
    intro y h
    by_cases hx:x=0
    · subst hx;simp
    · have h2:=ih (x / 2) (by omega) (y / 2) (by rw [← Nat.and_div_two,h])
      have h3:(x&&&y) % 2=0:=by rw [h]
      have h4:(x|||y) / 2=x / 2 + y / 2:=by rw [Nat.or_div_two,h2]
      have a1 := @Nat.or_mod_two_eq_one x y
      have a2 := @Nat.and_mod_two_eq_one x y
      omega
theorem sub_bit:∀ (a c:Nat),(∀ k,c.testBit k=true→a.testBit k=true)→∀ k,(a - c).testBit k=(a.testBit k && !c.testBit k):=by
  intro a c h k
  have e:a=(a - c) + c:=by
    have:c≤a:=by
      have:a&&&c=c:=Nat.eq_of_testBit_eq fun i=>by
        rw [Nat.testBit_and]
        cases hc:c.testBit i with
        | false=>simp
        | true=>rw [h i hc];rfl
      rw [← this]
      exact Nat.and_le_left
    omega
  have e2:a ^^^ c=a - c:=by
    have hx:(a ^^^ c) + c=a:=by
      have hd:(a ^^^ c)&&&c=0:=Nat.eq_of_testBit_eq fun i=>by
        rw [Nat.testBit_and,Nat.testBit_xor,Nat.zero_testBit]
        cases hc:c.testBit i with
        | false=>simp
        | true=>rw [h i hc];rfl
      have ho:(a ^^^ c)|||c=a:=Nat.eq_of_testBit_eq fun i=>by
        rw [Nat.testBit_or,Nat.testBit_xor]
        cases hc:c.testBit i with
        | false=>simp
        | true=>rw [h i hc];rfl
      rw [← or_add _ _ hd,ho]
    omega
  rw [← e2,Nat.testBit_xor]
  cases hc:c.testBit k with
  | false=>simp
  | true=>rw [h k hc];rfl
end DH

noncomputable section
namespace DH
open PySem PySem.Spec PyProof.Rows L2 L2.PM
theorem QiE {g:PV→PEnv→Option PEnv} {b:MSt} (I:Nat→PEnv→Prop) (n:Nat) (γ:PEnv) (h0:I 0 γ)
    (step:∀ j γ,j < n→I j γ→∃ γ1 γ2,g (pN j) γ=some γ1∧b γ1=some (.nx γ2)∧I (j + 1) γ2):∃ γ',forL g b (encN (List.range n)) γ=some (.nx γ')∧I n γ':=by
  obtain ⟨γ',e,h⟩:=Yg (g:=g) (b:=b) pN (fun pre γ=>I pre.length γ) (List.range n) (List.range n) [] γ rfl h0 (by
    intro pre j post γ hpre hI
    have hj:j=pre.length:=by
      have h1:(List.range n)[pre.length]?=some j:=by rw [← hpre];simp
      rw [List.getElem?_eq_some_iff] at h1
      obtain ⟨_,h2⟩:=h1
      simpa using h2.symm
    have hl:pre.length < n:=by
      have:=congrArg List.length hpre
      simp at this
      omega
    subst hj
    obtain ⟨γ1,γ2,a1,a2,a3⟩:=step _ γ hl hI
    exact ⟨γ1,γ2,a1,a2,by simpa using a3⟩)
  rw [List.length_range] at h
  exact ⟨γ',e,h⟩
end DH

noncomputable section
namespace DH
open PySem PySem.Spec PyProof.Rows L2 L2.PM
theorem Qgl {a b:Bool} {t:PEnv→Option Bool} {γ:PEnv} (h:t γ=some b):andK t γ a=some (a&&b):=by
  cases a
  · rfl
  · rw [andK_t,h];rfl
theorem orK_b {a b:Bool} {t:PEnv→Option Bool} {γ:PEnv} (h:t γ=some b):orK t γ a=some (a||b):=by
  cases a
  · rw [orK_f,h];rfl
  · rfl
theorem ifn_le {c:Bool} {x y z:Nat} (h1:x≤z) (h2:y≤z):(if c=true then x else y)≤z:=by cases c <;> simp [h1,h2]
theorem ifn_p {c:Bool} {x y:Nat} {P:Nat→Prop} (h1:c=true→P x) (h2:P y):P (if c=true then x else y):=by
  cases c
  · simpa using h2
  · simpa using h1 rfl
theorem pNe_nil' (xs:List Nat):pNe (.lst (encN xs)) (.lst [])=some (.bl (!xs.isEmpty)):=by
  rw [QeE (Qcv xs) (show okv (.lst [])=true from Qcv []),peq_nil]
  unfold encN
  cases xs <;> rfl
end DH

noncomputable section
namespace DH
open PySem PySem.Spec PyProof.Rows L2 L2.PM
theorem rule_of {n w h size:Nat} {f:Nat→Nat} (h1:n≤h) (h2:h < w) (hs:size≤6) (hf:∀ k,f k < w):Yx n w ⟨h,asc ((List.range size).map f)⟩:=by
  refine ⟨h1,h2,asc_lt _,?_,fun x hx => ?_⟩
  · have:=Qir ((List.range size).map f)
    rw [List.length_map,List.length_range] at this
    dsimp only
    omega
  · obtain ⟨k,_,rfl⟩:=List.mem_map.mp (mem_asc.mp hx)
    exact hf k
end DH

noncomputable section
namespace DH
open PySem PySem.Spec PyProof.Rows L2 L2.PM
theorem imod_lt (c:Int) {k:Nat} (h:0 < k):(c % (k:Int)).toNat < k:=by
  have:=Int.emod_lt_of_pos c (show (0:Int) < (k:Int) by omega)
  have:=Int.emod_nonneg c (show (k:Int)≠0 by omega)
  omega
end DH

noncomputable section
namespace DH
open PySem PySem.Spec PyProof.Rows L2 L2.PM
theorem pAnd_inv (a b:Nat):pAnd (pN a) (.int (Builtin.bitNot (b:Int)))=some (pN (dif a b)):=by
  unfold pN
  rw [pAnd_i,bitAnd_pn (by omega) (by unfold Builtin.bitNot;omega)]
  have e:(Builtin.bitNot (Builtin.bitNot (b:Int))).toNat=b:=by unfold Builtin.bitNot;omega
  rw [e,Int.toNat_natCast]
  unfold dif
  have := @Nat.and_le_left a b
  congr 2
  omega
theorem QbB (a b k:Nat):(dif a b).testBit k=(a.testBit k && !b.testBit k):=by
  unfold dif
  rw [sub_bit a (a&&&b) (fun k h=>by rw [Nat.testBit_and] at h;simp at h;exact h.1),Nat.testBit_and]
  cases a.testBit k <;> cases b.testBit k <;> rfl
theorem pInv_n (b:Nat):pInv (pN b)=some (.int (Builtin.bitNot (b:Int))):=rfl
noncomputable def uns (b:Bk) (held:Nat):Nat:=dif (2 ^ b.banes.length - 1) (stk b held)
noncomputable def dfd (b:Bk) (held:Nat):Nat:=uns b (uns b held)
theorem uns_bit {b:Bk} {held g:Nat}:(uns b held).testBit g=(decide (g < b.banes.length) && !(stk b held).testBit g):=by
  unfold uns
  rw [QbB,Nat.testBit_two_pow_sub_one]
theorem uns_lt (b:Bk) (held:Nat):uns b held < 2 ^ b.banes.length:=by
  have:=Nat.two_pow_pos b.banes.length
  unfold uns dif
  omega
theorem dfd_lt (b:Bk) (held:Nat):dfd b held < 2 ^ b.banes.length:=uns_lt _ _
theorem QiL {m n k:Nat} (h:m < 2 ^ n) (hk:m.testBit k=true):k < n:=by
  rcases Nat.lt_or_ge k n with h1 | h1
  · exact h1
  · rw [Nat.testBit_lt_two_pow (Nat.lt_of_lt_of_le h (Nat.pow_le_pow_right (by decide) h1))] at hk;cases hk
theorem QiN {b:Bk} (ok:b.Ok) {h1 h2:Nat} (s:∀ w,h1.testBit w=true→h2.testBit w=true) {w:Nat} (d:(yl b h1).testBit w=true):(yl b h2).testBit w=true :=
  (yl_is ok h2 w).mpr (((yl_is ok h1 w).mp d).mono s)
theorem stk_mono {b:Bk} (ok:b.Ok) {h1 h2:Nat} (s:∀ w,h1.testBit w=true→h2.testBit w=true) {g:Nat} (d:(stk b h1).testBit g=true):(stk b h2).testBit g=true:=by
  rw [stk_bit] at *
  exact ⟨d.1,QiN ok s d.2⟩
theorem and_ne {a b:Nat}:(a&&&b==0)=false↔∃ k,a.testBit k=true∧b.testBit k=true:=by
  constructor
  · intro h
    have:a&&&b≠0:=by simpa using h
    obtain ⟨k,hk⟩:=Nat.exists_testBit_of_ne_zero this
    rw [Nat.testBit_and] at hk
    simp at hk
    exact ⟨k,hk⟩
  · rintro ⟨k,h1,h2⟩
    have:(a&&&b).testBit k=true:=by rw [Nat.testBit_and,h1,h2];rfl
    rw [beq_eq_false_iff_ne]
    intro e
    rw [e] at this
    simp at this
theorem and_z {a b:Nat}:(a&&&b==0)=true↔∀ k,a.testBit k=true→b.testBit k=false:=by
  constructor
  · intro h k hk
    cases hb:b.testBit k with
    | false=>rfl
    | true=>rw [and_ne.mpr ⟨k,hk,hb⟩] at h;cases h
  · intro h
    cases he:(a&&&b==0) with
    | true=>rfl
    | false =>
      obtain ⟨k,h1,h2⟩:=and_ne.mp he
      rw [h k h1] at h2;cases h2
local macro_rules | `(tactic| walk_at "ev") => `(tactic| try simp (disch:=first | assumption | omega | (simp only [encN_len,tr_len,encN_len,List.length_map,List.length_range,List.length_cons,List.length_nil,List.length_append];omega) | decide) only [encN_len,encN_flat,enc_ix0,enc_ix1,enc_ix2,renc_ix0,renc_ix1,flat_benc,flat_renc,e_inside,tr_get,tr_flat,tr_set,testBit_one,e_whole_n,pInv_n,pAnd_inv,EVc,List.length_cons,List.length_nil,if_true,List.map_cons,List.map_nil,List.replicate_zero,List.replicate_succ,List.cons_append,List.nil_append,List.getElem?_cons_zero,List.getElem?_cons_succ,Option.bind_some,Option.map_some,List.set_cons_zero,List.set_cons_succ,List.length_map,List.length_range,List.all_nil,List.all_cons,List.length_append])
theorem Qbl {b:Bk} (ok:b.Ok):QW [b.enc]=some (pN (2 ^ b.banes.length - 1)):=by
  unfold QW Qbn
  have h8:=ok.g8
  have hp:=Nat.two_pow_pos b.banes.length
  walk_at "ev"
theorem QdL {b:Bk} (ok:b.Ok) (held:Nat):Ya [b.enc,pN held]=some (pN (uns b held)):=by
  unfold Ya QdM
  walk_at "ev"
  rw [Qbl ok,Qhl ok]
  walk_at "ev"
  rfl
theorem QbO {b:Bk} (ok:b.Ok) (held:Nat):Zb [b.enc,pN held]=some (pN (dfd b held)):=by
  unfold Zb QdN
  walk_at "ev"
  rw [QdL ok]
  walk_at "ev"
  rw [QdL ok]
  rfl
noncomputable def std (b:Bk) (held:Nat):Bool:=(held&&&stk b held==0)&&insB held (dfd b held)
theorem e_stands {b:Bk} (ok:b.Ok) (held:Nat):Xp [b.enc,pN held]=some (.bl (std b held)):=by
  unfold Xp Qhp std
  walk_at "ev"
  rw [Qij ok]
  cases held&&&stk b held==0 with
  | true =>
    walk_at "ev"
    rw [QbO ok]
    walk_at "ev"
  | false=>walk_at "ev"
theorem pow8 {n:Nat} (h:n≤8):2 ^ n≤256:=Nat.pow_le_pow_right (n:=2) (by decide) h
end DH

noncomputable section
namespace DH
open PySem PySem.Spec PyProof.Rows L2 L2.PM
theorem pAdd_ni (a:Nat) (b:Int):pAdd (pN a) (.int b)=some (.int ((a:Int) + b)):=pAdd_i _ _
theorem pAdd_in (a:Int) (b:Nat):pAdd (.int a) (pN b)=some (.int (a + (b:Int))):=pAdd_i _ _
end DH
namespace DH
open PySem PySem.Spec PyProof.Rows L2 L2.PM
end DH

noncomputable section
namespace DH
open PySem PySem.Spec PyProof.Rows L2 L2.PM
theorem QaN {rules:List Rule} {r:Rule} {n w most:Nat} (k1:∀ q∈rules,Yx n w q) (hr:Yx n w r):∀ q∈rules++[r],Yx n w q:=by
  intro q hq
  rcases List.mem_append.mp hq with z | z
  · exact k1 q z
  · rw [List.mem_singleton.mp z];exact hr
end DH

noncomputable section
namespace DH
open PySem PySem.Spec PyProof.Rows L2 L2.PM
end DH

noncomputable section
namespace DH
open PySem PySem.Spec PyProof.Rows L2 L2.PM
theorem runO_2' {N:Nat} {m:MSt} {a0 a1:PV}:runO N 2 m [a0,a1]=(m (ZR N [a0,a1])).bind outO:=rfl
theorem outO_ro' (xs:List PV):outO (.ro xs)=some xs:=rfl
theorem Qcs {n w h x:Nat} (h1:n≤h) (h2:h < w) (hx:x < w):Yx n w ⟨h,[x]⟩:=⟨h1,h2,by simp,by simp,by simpa using hx⟩
theorem Qhh {cond:Bool} {ms1 ms2:List Nat} {i1 i2:Nat} {m1 m2:MEx} {γ:PEnv} (x1 y1 x2 y2:Nat) (h:m1 γ=some (pN x1)) (h':m2 (γ.set i1 (.fz (pN x1)))=some (pN x2)) (h2:(γ.set i1 (.fz (pN y1))).set i2 (.fz (pN y2))=γ) :
    ifK (sSeq (sSet ms1 i1 m1) (sSet ms2 i2 m2)) sNx γ cond=some (.nx ((γ.set i1 (.fz (pN (if cond=true then x1 else y1)))).set i2 (.fz (pN (if cond=true then x2 else y2))))):=by
  cases cond with
  | false=>rw [ifK_f,ev_sNx];simp only [Bool.false_eq_true,if_false];rw [h2]
  | true =>
    rw [ifK_t,ev_sSeq,ev_sSet,h]
    simp only [if_true,Option.map_some,flat_n,keepE_true,Option.bind_some,seqK_nx]
    rw [ev_sSet,h']
    simp only [if_true,Option.map_some,flat_n,keepE_true,Option.bind_some,seqK_nx]
end DH

noncomputable section
namespace DH
open PySem PySem.Spec PyProof.Rows L2 L2.PM
theorem isN_l (xs:List PV):isN (.lst xs)=false:=rfl
theorem isN_b (b:Bool):isN (.bl b)=false:=rfl
theorem QgM {b:Bk} (ok:b.Ok) {h1 h2:Nat} (s:∀ w,h1.testBit w=true→h2.testBit w=true) {g:Nat} (d:(uns b h2).testBit g=true):(uns b h1).testBit g=true:=by
  rw [uns_bit,Bool.and_eq_true] at *
  refine ⟨d.1,?_⟩
  cases hs:(stk b h1).testBit g with
  | false=>rfl
  | true=>have:=stk_mono ok s hs;rw [this] at d;simp at d
theorem dfd_mono {b:Bk} (ok:b.Ok) {h1 h2:Nat} (s:∀ w,h1.testBit w=true→h2.testBit w=true) {g:Nat} (d:(dfd b h1).testBit g=true):(dfd b h2).testBit g=true :=
  QgM ok (fun _ h=>QgM ok s h) d
theorem std_iff {b:Bk} {held:Nat}:std b held=true↔(∀ g,held.testBit g=true→(stk b held).testBit g=false)∧∀ g,held.testBit g=true→(dfd b held).testBit g=true:=by
  unfold std
  rw [Bool.and_eq_true,and_z,Zx]
theorem std_zero (b:Bk):std b 0=true:=std_iff.mpr ⟨fun g h=>by simp at h,fun g h=>by simp at h⟩
end DH

noncomputable section
namespace DH
open PySem PySem.Spec PyProof.Rows L2 L2.PM
end DH

noncomputable section
namespace DH
open PySem PySem.Spec PyProof.Rows L2 L2.PM
local macro_rules | `(tactic| walk_at "ev") => `(tactic| try simp (disch:=first | assumption | omega | (simp only [encN_len,tr_len,encN_len,List.length_map,List.length_range,List.length_cons,List.length_nil,List.length_append];omega) | decide) only [encN_len,encN_flat,enc_ix0,enc_ix1,enc_ix2,renc_ix0,renc_ix1,flat_benc,flat_renc,e_inside,tr_get,tr_flat,tr_set,testBit_one,testBit_zero',e_whole_n,pInv_n,pAnd_inv,EVc,List.length_cons,List.length_nil,if_true,List.map_cons,List.map_nil,List.replicate_zero,List.replicate_succ,List.cons_append,List.nil_append,List.getElem?_cons_zero,List.getElem?_cons_succ,Option.bind_some,Option.map_some,List.set_cons_zero,List.set_cons_succ,List.length_map,List.length_range,List.all_nil,List.all_cons,List.length_append])
theorem Qkc {m n:Nat} (hn:n≤60) (h:m < 2 ^ n):Xr [pN m]=some (.lst (encN (plN m))):=by
  have hb:bitsN m≤60:=by
    unfold bitsN
    split
    · omega
    · rename_i h0
      have:=(Nat.log2_lt h0).mpr h
      omega
  unfold Xr Qhr
  walk_at "ev"
  rw [Qgk (fun k=>m.testBit k) (List.range (bitsN m)) fun k hk=>⟨_,rfl,by walk_at "ev",rfl⟩]
  rfl
theorem Qab {b:Bk} (ok:b.Ok) (held:Nat) {word:Nat} (hw:word≤1000):Zs [b.enc,pN held,pN word]=some (.bl ((yl b held).testBit word)):=by
  unfold Zs Qcc
  walk_at "ev"
  rw [QeZ ok]
  walk_at "ev"
  rw [Qcx]
noncomputable def IsRs (b:Bk) (word U:Nat):Prop:=(yl b U).testBit word=true∧∀ g,U.testBit g=true→(yl b (dif U (2 ^ g))).testBit word=false
theorem Qji (a b k:Nat) (h:(dif a b).testBit k=true):a.testBit k=true:=by
  rw [QbB] at h
  simp at h
  exact h.1
theorem Qik {b:Bk} (ok:b.Ok) {within word:Nat} (hh:within < 2 ^ b.banes.length) (hw:word < b.words) (hy:(yl b within).testBit word=true) :
    ∃ U,QM [b.enc,pN within,pN word]=some (pN U)∧(∀ g,U.testBit g=true→within.testBit g=true)∧IsRs b word U:=by
  have hw60:=ok.w60
  have h8:=ok.g8
  unfold QM QbQ
  walk_at "ev"
  rw [Qab ok _ (by omega),hy]
  walk_at "ev"
  rw [Qkc (show b.banes.length≤60 by omega) hh]
  walk_at "ev"
  obtain ⟨γ',e,U,s4,s5,rfl,h1,h2,h3⟩:=Yg (g:=gSet 4) (b:=Xw) pN
    (fun pre γ=>∃ (U:Nat) (s4 s5:Slot),γ=[.fz b.enc,.fz (pN within),.fz (pN word),.fz (pN U),s4,s5]∧(∀ g,U.testBit g=true→within.testBit g=true)∧(yl b U).testBit word=true∧∀ g∈pre,U.testBit g=true→(yl b (dif U (2 ^ g))).testBit word=false)
    (plN within) (plN within) [] [.fz b.enc,.fz (pN within),.fz (pN word),.fz (pN within),.un,.un] rfl ⟨within,.un,.un,rfl,fun _ h=>h,hy,by simp⟩ (by
      rintro pre g post γ hpre ⟨U,s4,s5,rfl,h1,h2,h3⟩
      have hg:g∈plN within:=by rw [← hpre];simp
      have hg8:=QiL hh (Qja.mp hg)
      have e:Xw [.fz b.enc,.fz (pN within),.fz (pN word),.fz (pN U),.fz (pN g),s5]=some (.nx (match (yl b (dif U (2 ^ g))).testBit word with
        | true=>[.fz b.enc,.fz (pN within),.fz (pN word),.fz (pN (dif U (2 ^ g))),.fz (pN g),.fz (pN (dif U (2 ^ g)))]
        | false=>[.fz b.enc,.fz (pN within),.fz (pN word),.fz (pN U),.fz (pN g),.fz (pN (dif U (2 ^ g)))])):=by
        unfold Xw
        walk_at "ev"
        rw [Qab ok _ (by omega)]
        cases (yl b (dif U (2 ^ g))).testBit word with
        | true=>walk_at "ev"
        | false=>walk_at "ev"
      refine ⟨_,_,rfl,e,?_⟩
      cases hk:(yl b (dif U (2 ^ g))).testBit word with
      | true =>
        refine ⟨dif U (2 ^ g),_,_,rfl,fun k hk=>h1 k (Qji _ _ _ hk),hk,fun k hk2 hb => ?_⟩
        rcases List.mem_append.mp hk2 with z | z
        · cases hy2:(yl b (dif (dif U (2 ^ g)) (2 ^ k))).testBit word with
          | false=>rfl
          | true =>
            have:=QiN ok (h2:=dif U (2 ^ k)) (fun w hw=>by
              rw [QbB,QbB] at hw
              rw [QbB]
              simp at hw
              simp [hw]) hy2
            rw [h3 k z (Qji _ _ _ hb)] at this
            cases this
        · rw [List.mem_singleton.mp z,QbB,Nat.testBit_two_pow_self] at hb
          simp at hb
      | false =>
        refine ⟨U,_,_,rfl,h1,h2,fun k hk2 hb => ?_⟩
        rcases List.mem_append.mp hk2 with z | z
        · exact h3 k z hb
        · rw [List.mem_singleton.mp z];exact hk)
  rw [show encN (plN within)=(plN within).map pN from rfl,e]
  walk_at "ev"
  exact ⟨U,rfl,h1,h2,fun g hg=>h3 g (Qja.mpr (h1 g hg)) hg⟩
theorem QdF {b:Bk} (ok:b.Ok) {within word:Nat} (hw:word < b.words) (hy:(yl b within).testBit word=false):QM [b.enc,pN within,pN word]=some .non:=by
  have hw60:=ok.w60
  unfold QM QbQ
  walk_at "ev"
  rw [Qab ok _ (by omega),hy]
  walk_at "ev"
end DH

noncomputable section
namespace DH
open PySem PySem.Spec PyProof.Rows L2 L2.PM
theorem dif_pow {U g:Nat} (h:U.testBit g=true):dif U (2 ^ g)=U - 2 ^ g:=by
  unfold dif
  congr 1
  refine Nat.eq_of_testBit_eq fun k => ?_
  rw [Nat.testBit_and,Nat.testBit_two_pow]
  by_cases hk:g=k
  · subst hk;simp [h]
  · simp [hk]
theorem sub_lt {U W n:Nat} (hw:W < 2 ^ n) (h:∀ g,U.testBit g=true→W.testBit g=true):U < 2 ^ n:=Nat.lt_pow_two_of_testBit _ fun i hi=>by
  cases hb:U.testBit i with
  | false=>rfl
  | true=>have:=QiL hw (h i hb);omega
end DH

noncomputable section
namespace DH
open PySem PySem.Spec PyProof.Rows L2 L2.PM
end DH
namespace DH
open PySem PySem.Spec PyProof.Rows L2 L2.PM
end DH

noncomputable section
namespace DH
open PySem PySem.Spec PyProof.Rows L2 L2.PM
theorem pAnyB_l (bs:List Bool):Qkq [.lst (bs.map .bl)]=some (.bl (bs.any id)):=by
  show (bls? (bs.map PV.bl)).map (fun bs=>PV.bl (bs.any id))=_
  rw [Qhv];rfl
end DH

noncomputable section
namespace DH
open PySem PySem.Spec PyProof.Rows L2 L2.PM
local macro_rules | `(tactic| walk_at "ev") => `(tactic| try simp (disch:=first | assumption | omega | (simp only [encN_len,tr_len,encN_len,List.length_map,List.length_range,List.length_cons,List.length_nil,List.length_append];omega) | decide) only [encN_len,encN_flat,enc_ix0,enc_ix1,enc_ix2,renc_ix0,renc_ix1,flat_benc,flat_renc,e_inside,tr_get,tr_flat,tr_set,testBit_one,testBit_zero',e_whole_n,pInv_n,pAnd_inv,isN_l,isN_b,EVc,List.length_cons,List.length_nil,if_true,List.map_cons,List.map_nil,List.replicate_zero,List.replicate_succ,List.cons_append,List.nil_append,List.getElem?_cons_zero,List.getElem?_cons_succ,Option.bind_some,Option.map_some,List.set_cons_zero,List.set_cons_succ,List.length_map,List.length_range,List.all_nil,List.all_cons,List.length_append])
noncomputable def it (b:Bk):Nat→Nat
  | 0=>0
  | i + 1=>dfd b (it b i)
theorem QgD (b:Bk):∀ i,it b i < 2 ^ b.banes.length
  | 0=>Nat.two_pow_pos _
  | i + 1=>dfd_lt b _
theorem QfP {b:Bk} (ok:b.Ok):∀ (i:Nat) {g:Nat},(it b i).testBit g=true→(it b (i + 1)).testBit g=true
  | 0,g,h=>by unfold it at h;simp at h
  | i + 1,g,h=>dfd_mono ok (fun w hw=>QfP ok i hw) h
noncomputable def lft (b:Bk) (i:Nat):Nat:=((List.range b.banes.length).filter fun g => !(it b i).testBit g).length
theorem lft_lt {b:Bk} (ok:b.Ok) {i:Nat} (h:it b (i + 1)≠it b i):lft b (i + 1) < lft b i:=by
  obtain ⟨g,hg1,hg2⟩:∃ g,(it b (i + 1)).testBit g=true∧(it b i).testBit g=false:=by
    refine Classical.byContradiction fun hn=>h ?_
    refine Nat.eq_of_testBit_eq fun g => ?_
    cases h1:(it b i).testBit g with
    | true=>exact QfP ok i h1
    | false =>
      cases h2:(it b (i + 1)).testBit g with
      | false=>rfl
      | true=>exact absurd ⟨g,h2,h1⟩ hn
  exact QcP (x:=g) (List.mem_range.mpr (QiL (QgD b (i + 1)) hg1)) (by simp [hg2]) (by simp [hg1]) fun y hy=>by
    cases h2:(it b i).testBit y with
    | false=>rfl
    | true=>rw [QfP ok i h2] at hy;cases hy
noncomputable def Last (b:Bk) (m:Nat):Prop:=it b (m + 1)=it b m∧∀ j,j < m→it b (j + 1)≠it b j
theorem Last.unique {b:Bk} {m m':Nat} (h:Last b m) (h':Last b m'):m=m':=by
  rcases Nat.lt_trichotomy m m' with q | q | q
  · exact absurd h.1 (h'.2 m q)
  · exact q
  · exact absurd h'.1 (h.2 m' q)
noncomputable def itL (b:Bk) (m:Nat):List Nat:=(List.range (m + 1)).map (it b)
theorem e_rounds {b:Bk} (ok:b.Ok):∃ m,Xq [b.enc]=some (.lst (encN (itL b m)))∧Last b m∧m≤8:=by
  have h8:=ok.g8
  unfold Xq Qhq
  walk_at "ev"
  obtain ⟨γ',e,i,rfl,h1,h2,h3⟩:=Qbb (t:=truB (bin2 pNe (Qk Zb (Qe (mVar 0) (Qe (mVar 1) aNil))) (mVar 1))) (b:=QcS)
    (Post:=fun γ=>∃ i,γ=[.fz b.enc,.fz (pN (it b i)),.ow (encN (itL b i))]∧it b (i + 1)=it b i∧(∀ j,j < i→it b (j + 1)≠it b j)∧lft b i + i≤lft b 0)
    (fun n γ=>∃ i,γ=[.fz b.enc,.fz (pN (it b i)),.ow (encN (itL b i))]∧(∀ j,j < i→it b (j + 1)≠it b j)∧n=lft b i∧lft b i + i≤lft b 0)
    (by
      rintro n γ ⟨i,rfl,q1,rfl,q3⟩
      have ht:(truB (bin2 pNe (Qk Zb (Qe (mVar 0) (Qe (mVar 1) aNil))) (mVar 1))) [.fz b.enc,.fz (pN (it b i)),.ow (encN (itL b i))]=some (!(it b (i + 1)==it b i)):=by
        walk_at "ev"
        rw [QbO ok]
        walk_at "ev"
        rfl
      by_cases he:it b (i + 1)=it b i
      · exact .inl ⟨by rw [ht,show (it b (i + 1)==it b i)=true by rw [beq_iff_eq];exact he];rfl,i,rfl,he,q1,q3⟩
      · have hlf:=lft_lt ok he
        refine .inr ⟨by rw [ht,show (it b (i + 1)==it b i)=false by rw [beq_eq_false_iff_ne];exact he];rfl,_,lft b (i + 1),?_,hlf,i + 1,rfl,fun j hj => ?_,rfl,by omega⟩
        · have hi:i≤8:=by
            have:=List.length_filter_le (fun g => !(it b 0).testBit g) (List.range b.banes.length)
            rw [List.length_range] at this
            unfold lft at q3
            omega
          unfold QcS
          walk_at "ev"
          rw [QbO ok]
          walk_at "ev"
          rw [Qau (by rw [encN_len];unfold itL;rw [List.length_map,List.length_range];omega) rfl]
          walk_at "ev"
          unfold itL
          rw [List.range_succ (n:=i + 1),List.map_append,← Qei]
          rfl
        · by_cases hj2:j=i
          · subst hj2;exact he
          · exact q1 j (by omega))
    1000 (lft b 0) [.fz b.enc,.fz (pN (it b 0)),.ow (encN (itL b 0))] ⟨0,rfl,by simp,rfl,by omega⟩ (by
      have:=List.length_filter_le (fun g => !(it b 0).testBit g) (List.range b.banes.length)
      rw [List.length_range] at this
      unfold lft
      omega)
  have hi:i≤8:=by
    have:=List.length_filter_le (fun g => !(it b 0).testBit g) (List.range b.banes.length)
    rw [List.length_range] at this
    unfold lft at h3
    omega
  unfold Qcn
  rw [show ([Slot.fz b.enc,Slot.fz (pN 0),Slot.ow [pN 0]]:PEnv)=[.fz b.enc,.fz (pN (it b 0)),.ow (encN (itL b 0))] from rfl,e]
  walk_at "ev"
  exact ⟨i,rfl,⟨h1,h2⟩,hi⟩
theorem QeX {α:Type} {g:PV→PEnv→Option PEnv} {b:MSt} (f:α→PV) (v:α→PV) (p:α→Bool) (I:PEnv→Prop):∀ (xs:List α) (γ:PEnv),I γ →
    (∀ x∈xs,∀ γ,I γ→∃ γ1,g (f x) γ=some γ1∧(p x=false→∃ γ2,b γ1=some (.nx γ2)∧I γ2)∧(p x=true→b γ1=some (.rt (v x)))) →
    (xs.find? p=none∧∃ γ',forL g b (xs.map f) γ=some (.nx γ')∧I γ')∨∃ x,xs.find? p=some x∧forL g b (xs.map f) γ=some (.rt (v x))
  | [],γ,h0,_ => .inl ⟨rfl,γ,rfl,h0⟩
  | x :: xs,γ,h0,step=>by
    obtain ⟨γ1,e1,h1,h2⟩:=step x (by simp) γ h0
    cases hp:p x with
    | true =>
      refine .inr ⟨x,by simp [hp],?_⟩
      rw [List.map_cons]
      unfold forL
      rw [e1,Option.bind_some,h2 hp]
      rfl
    | false =>
      obtain ⟨γ2,e2,h3⟩:=h1 hp
      rw [List.map_cons,forL_nx e1 e2,List.find?_cons_of_neg (by simp [hp])]
      exact QeX f v p I xs γ2 h3 fun y hy=>step y (by simp [hy])
noncomputable def rkV (b:Bk) (n g:Nat):PV:=match (List.range n).find? (fun j=>(it b j).testBit g) with
  | some j=>pN j
  | none => .non
theorem Qkb {b:Bk} {m g:Nat} (hg:g≤1000) (hm:m≤8):YN [.lst (encN (itL b m)),pN g]=some (rkV b (m + 1) g):=by
  unfold YN Qfe
  walk_at "ev"
  rw [enumN,show (itL b m).length=m + 1 by unfold itL;simp]
  have eg:∀ j,j∈List.range (m + 1)→(itL b m).getD j 0=it b j:=fun j hj=>by
    have:=List.mem_range.mp hj
    unfold itL
    simp [this]
  rw [show ((List.range (m + 1)).map fun j=>PV.tup [pN j,pN ((itL b m).getD j 0)])=(List.range (m + 1)).map fun j=>PV.tup [pN j,pN (it b j)] from List.map_congr_left fun j hj=>by rw [eg j hj]]
  rcases QeX (g:=XC 2 3) (b:=YL) (fun j=>PV.tup [pN j,pN (it b j)]) pN (fun j=>(it b j).testBit g) (fun γ=>∃ s2 s3,γ=[.fz (.lst (encN (itL b m))),.fz (pN g),s2,s3])
    (List.range (m + 1)) [.fz (.lst (encN (itL b m))),.fz (pN g),.un,.un] ⟨.un,.un,rfl⟩ (by
      rintro j hj γ ⟨s2,s3,rfl⟩
      refine ⟨_,rfl,?_⟩
      have e:YL [.fz (.lst (encN (itL b m))),.fz (pN g),.fz (pN j),.fz (pN (it b j))]=ifK (Qbs 2) sNx [.fz (.lst (encN (itL b m))),.fz (pN g),.fz (pN j),.fz (pN (it b j))] ((it b j).testBit g):=by
        unfold YL
        walk_at "ev"
        rw [Qcx]
      show (_→∃ γ2,YL [.fz (.lst (encN (itL b m))),.fz (pN g),.fz (pN j),.fz (pN (it b j))]=_∧_)∧(_→YL [.fz (.lst (encN (itL b m))),.fz (pN g),.fz (pN j),.fz (pN (it b j))]=_)
      rw [e]
      cases (it b j).testBit g with
      | true=>exact ⟨fun h=>(by cases h),fun _=>rfl⟩
      | false=>exact ⟨fun _=>⟨_,rfl,_,_,rfl⟩,fun h=>by cases h⟩) with ⟨ha,γ',e,s2,s3,rfl⟩ | ⟨j,ha,e⟩
  · rw [e]
    walk_at "ev"
    unfold rkV
    rw [ha]
  · rw [e]
    walk_at "ev"
    unfold rkV
    rw [ha]
theorem rk_flat (b:Bk) (n g:Nat):flat (rkV b n g)=true:=by
  unfold rkV
  split <;> rfl
theorem Qfa {b:Bk} (ok:b.Ok):∃ m,Yi [b.enc]=some (.tup [pN (it b m),.tup ((List.range b.banes.length).map fun g=>rkV b (m + 1) g)])∧Last b m∧m≤8:=by
  have h8:=ok.g8
  obtain ⟨m,e,h1,h2⟩:=e_rounds ok
  refine ⟨m,?_,h1,h2⟩
  unfold Yi Qfd
  walk_at "ev"
  rw [e]
  walk_at "ev"
  rw [QiH (fun g=>rkV b (m + 1) g) (List.range b.banes.length) fun g hg=>⟨_,rfl,by
    have:=List.mem_range.mp hg
    walk_at "ev"
    rw [Qkb (by omega) h2]⟩]
  rw [Option.map_some,show ((List.range b.banes.length).map fun g=>rkV b (m + 1) g).all flat=true by rw [List.all_map,List.all_eq_true];exact fun g _=>rk_flat b _ g]
  walk_at "ev"
  rw [show atI (encN (itL b m)) (-((1:Nat):Int))=some (pN (it b m)) by
    unfold itL
    rw [List.range_succ,List.map_append,← Qei]
    exact atI_last1 _ _]
  walk_at "ev"
end DH

noncomputable section
namespace DH
open PySem PySem.Spec PyProof.Rows L2 L2.PM
end DH

noncomputable section
namespace DH
open PySem PySem.Spec PyProof.Rows L2 L2.PM
theorem Qdt {τ:Type} {s1 s2:MX τ} {γ γ':PEnv} {t t':τ} (h:s1 γ t=some (.nx γ' t')):xSeq s1 s2 γ t=s2 γ' t':=by
  unfold xSeq;rw [h];rfl
inductive Una where
  | no | yes (g s:Nat)
noncomputable def Una.pv:Una→PV
  | .no => .non
  | .yes g s => .tup [pN g,pN s]
noncomputable def Una.none:Una→Bool
  | .no=>true
  | _=>false
noncomputable def tk (b:Bk) (h:Nat) (u:Una) (n:Nat):OT:=⟨["book","held","unanswered"],[b.enc,pN h,u.pv],some n⟩
noncomputable def aim (h:Nat):Una→Nat
  | .no=>h
  | .yes _ s=>s
noncomputable def oth (u:Una):Str:=if u.none=true then "speaker" else "doubter"
end DH

noncomputable section
namespace DH
open PySem PySem.Spec PyProof.Rows L2 L2.PM
noncomputable def wv (b:Bk) (h:Nat) (u:Una):PV:=if (aim h u&&&stk b (2 ^ b.banes.length - 1)==0)=true then .str (oth u) else .non
end DH

noncomputable section
namespace DH
open PySem PySem.Spec PyProof.Rows L2 L2.PM
theorem Qjw {pre post:List Nat} {x N:Nat} (h:pre++x :: post=List.range N):pre=List.range x∧x < N:=by
  have hl:=congrArg List.length h
  simp at hl
  have hx:(List.range N)[pre.length]?=some x:=by rw [← h];simp
  rw [List.getElem?_range (by omega)] at hx
  cases hx
  refine ⟨?_,by omega⟩
  have:=congrArg (List.take pre.length) h
  rw [List.take_left,List.take_range,Nat.min_eq_left (by omega)] at this
  exact this
theorem QfJ {V U:Nat} (h:∀ k,V.testBit k=true→U.testBit k=true):V≤U:=by
  have:U&&&V=V:=Nat.eq_of_testBit_eq fun i=>by
    rw [Nat.testBit_and]
    cases hc:V.testBit i with
    | false=>simp
    | true=>rw [h i hc];rfl
  rw [← this]
  exact Nat.and_le_left
noncomputable def cmpB (b:Bk) (h:Nat):Bool:=std b h&&(List.range (2 ^ b.banes.length)).all fun k => !(std b k&&insB h k)||k==h
noncomputable def cmpL (b:Bk) (hold:Nat):List Nat:=(List.range (2 ^ b.banes.length)).filter fun h=>cmpB b h&&insB hold h
theorem Qel {b:Bk} {h:Nat}:cmpB b h=true↔std b h=true∧∀ k,k < 2 ^ b.banes.length→std b k=true→insB h k=true→k=h:=by
  unfold cmpB
  rw [Bool.and_eq_true,List.all_eq_true]
  refine and_congr_right fun _=>⟨fun q k h1 h2 h3 => ?_,fun q k hk => ?_⟩
  · have:=q k (List.mem_range.mpr h1)
    rw [h2,h3] at this
    simpa using this
  · cases h2:std b k with
    | false=>rfl
    | true =>
      cases h3:insB h k with
      | false=>rfl
      | true=>simpa using q k (List.mem_range.mp hk) h2 h3
theorem cmp_in {b:Bk} {h:Nat} (hh:h < 2 ^ b.banes.length) (hs:std b h=true):∃ c,c < 2 ^ b.banes.length∧cmpB b c=true∧insB h c=true:=by
  induction hd:2 ^ b.banes.length - h using Nat.strongRecOn generalizing h with
  | _ d ih =>
    by_cases hc:∃ k,k < 2 ^ b.banes.length∧std b k=true∧insB h k=true∧k≠h
    · obtain ⟨k,k1,k2,k3,k4⟩:=hc
      have:=QfJ (Zx.mp k3)
      obtain ⟨c,c1,c2,c3⟩:=ih (2 ^ b.banes.length - k) (by omega) k1 k2 rfl
      exact ⟨c,c1,c2,Zx.mpr fun w hw=>Zx.mp c3 w (Zx.mp k3 w hw)⟩
    · refine ⟨h,hh,Qel.mpr ⟨hs,fun k k1 k2 k3 => ?_⟩,Zx.mpr fun _ z=>z⟩
      exact Classical.byContradiction fun z=>hc ⟨k,k1,k2,k3,z⟩
theorem Xt {b:Bk} {hold h:Nat}:h∈cmpL b hold↔h < 2 ^ b.banes.length∧cmpB b h=true∧insB hold h=true:=by
  unfold cmpL
  rw [List.mem_filter,List.mem_range,Bool.and_eq_true]
theorem QjN (h:Nat):insB 0 h=true:=Zx.mpr fun k hk=>by simp at hk
theorem Qek {b:Bk} (ok:b.Ok) (hold:Nat):(cmpL b hold).length≤256:=by
  have:=List.length_filter_le (fun h=>cmpB b h&&insB hold h) (List.range (2 ^ b.banes.length))
  rw [List.length_range] at this
  have:=pow8 ok.g8
  unfold cmpL
  omega
theorem cmpL_ne (b:Bk):cmpL b 0≠[]:=fun z=>by
  obtain ⟨c,c1,c2,_⟩:=cmp_in (b:=b) (h:=0) (Nat.two_pow_pos _) (std_zero b)
  have:=Xt.mpr ⟨c1,c2,QjN c⟩
  rw [z] at this
  cases this
theorem cmp_step {b:Bk} {pre post:List Nat} {x:Nat} (h:pre++x :: post=(List.range (2 ^ b.banes.length)).reverse) :
    x < 2 ^ b.banes.length∧(!((pre.filter (cmpB b)).any fun c=>insB x c)&&std b x)=cmpB b x:=by
  have h':post.reverse++x :: pre.reverse=List.range (2 ^ b.banes.length):=by
    have:=congrArg List.reverse h
    simpa using this
  obtain ⟨e1,e2⟩:=Qjw h'
  have hp:∀ y,y∈pre→x < y∧y < 2 ^ b.banes.length:=fun y hy=>by
    have pw:(post.reverse++x :: pre.reverse).Pairwise (· < ·):=by rw [h'];exact List.pairwise_lt_range
    have q:=(List.pairwise_append.mp pw).2.1
    refine ⟨(List.pairwise_cons.mp q).1 y (by simpa using hy),?_⟩
    have:y∈List.range (2 ^ b.banes.length):=by rw [← h'];simp [hy]
    exact List.mem_range.mp this
  have hq:∀ y,x < y→y < 2 ^ b.banes.length→y∈pre:=fun y h1 h2=>by
    have:y∈post.reverse++x :: pre.reverse:=by rw [h'];exact List.mem_range.mpr h2
    rw [e1] at this
    rcases List.mem_append.mp this with z | z
    · have:=List.mem_range.mp z
      omega
    · rcases List.mem_cons.mp z with z | z
      · omega
      · simpa using z
  refine ⟨e2,?_⟩
  rw [Bool.eq_iff_iff,Bool.and_eq_true,Bool.not_eq_true',List.any_eq_false,Qel]
  constructor
  · rintro ⟨k1,k2⟩
    refine ⟨k2,fun k h1 h2 h3=>Classical.byContradiction fun hne => ?_⟩
    obtain ⟨c,c1,c2,c3⟩:=cmp_in h1 h2
    have l1:=QfJ (Zx.mp h3)
    have l2:=QfJ (Zx.mp c3)
    exact k1 c (List.mem_filter.mpr ⟨hq c (by omega) c1,c2⟩) (Zx.mpr fun w hw=>Zx.mp c3 w (Zx.mp h3 w hw))
  · rintro ⟨k1,k2⟩
    refine ⟨fun c hc hin => ?_,k1⟩
    obtain ⟨c1,c2⟩:=List.mem_filter.mp hc
    obtain ⟨p1,p2⟩:=hp c c1
    have:=k2 c p2 (Qel.mp c2).1 hin
    omega
theorem rg3_n {a:Nat} (h:a≤100000):rg3K (pN a) (.int (-((1:Nat):Int))) (.int (-((1:Nat):Int)))=some (encN (List.range (a + 1)).reverse):=by
  have h1:rOk ((a:Nat):Int)=true:=Qiz (by omega) (by omega)
  have h2:rOk (-((1:Nat):Int))=true:=Qiz (by omega) (by omega)
  show (if (-((1:Nat):Int)) = -1∧rOk ((a:Nat):Int)=true∧rOk (-((1:Nat):Int))=true then some (rngD a (-((1:Nat):Int))) else none)=_
  rw [if_pos ⟨rfl,h1,h2⟩]
  congr 1
  unfold rngD encN
  rw [show ((a:Int) - -((1:Nat):Int)).toNat=a + 1 by omega]
  refine List.ext_getElem (by simp) fun i h1 h2 => ?_
  simp at h1 h2
  simp [pN]
  omega
theorem Qed:∀ xs ys:List Nat,peqL (encN xs) (encN ys)=(xs==ys)
  | [],[]=>rfl
  | [],y :: ys=>rfl
  | x :: xs,[]=>rfl
  | x :: xs,y :: ys=>by
    show (peq (pN x) (pN y)&&peqL (encN xs) (encN ys))=_
    rw [Qed xs ys,show peq (pN x) (pN y)=(x==y) by
      show ((x:Int)==(y:Int))=(x==y)
      rw [Bool.eq_iff_iff,beq_iff_eq,beq_iff_eq]
      omega]
    rfl
theorem pNe_ll (xs ys:List Nat):pNe (.lst (encN xs)) (.lst (encN ys))=some (.bl (!(xs==ys))):=by rw [QeE (Qcv _) (Qcv _)];show some (PV.bl (!peqL _ _))=_;rw [Qed]
theorem pEq_tt (xs ys:List Nat):pEq (.tup (encN xs)) (.tup (encN ys))=some (.bl (xs==ys)):=by rw [pEq_ok (QgZ _) (QgZ _)];show some (PV.bl (peqL _ _))=_;rw [Qed]
theorem pEq_t0 (xs:List Nat):pEq (.tup (encN xs)) (.tup [])=some (.bl (xs==[])):=pEq_tt xs []
theorem ev_iRg3 (m1 m2 m3:MEx) (γ:PEnv):iRg3 m1 m2 m3 γ=(m1 γ).bind fun p=>(m2 γ).bind fun q=>(m3 γ).bind fun r=>rg3K p q r:=rfl
theorem pRev_n (xs:List Nat):pRev [.lst (encN xs)]=some (encN xs.reverse):=by show some (encN xs).reverse=_;unfold encN;rw [List.map_reverse]
local macro_rules | `(tactic| walk_at "ev") => `(tactic| try simp (disch:=first | assumption | omega | (simp only [encN_len,encN_len,List.length_map,List.length_range,List.length_cons,List.length_nil,List.length_append];omega) | decide) only [encN_len,encN_flat,enc_ix0,enc_ix1,enc_ix2,renc_ix0,renc_ix1,flat_benc,flat_renc,e_whole_n,e_inside,ev_iRg3,pRev_n,rg3_n,EVc,List.length_cons,List.length_nil,if_true,List.map_cons,List.map_nil,List.replicate_zero,List.replicate_succ,List.cons_append,List.nil_append,List.getElem?_cons_zero,List.getElem?_cons_succ,Option.bind_some,Option.map_some,List.set_cons_zero,List.set_cons_succ,List.length_map,List.length_range,List.all_nil,List.all_cons,List.length_append])
theorem Qjh {b:Bk} (ok:b.Ok) (hold:Nat):Xo [b.enc,pN hold]=some (.tup (encN (cmpL b hold))):=by
  have h8:=ok.g8
  have hp:=Nat.two_pow_pos b.banes.length
  have hp8:=pow8 h8
  unfold Xo Qjj
  walk_at "ev"
  rw [Qbl ok]
  walk_at "ev"
  rw [show 2 ^ b.banes.length - 1 + 1=2 ^ b.banes.length by omega]
  obtain ⟨γ',e,s3,s4,rfl⟩:=Yg (g:=gSet 3) (b:=Qep) pN (fun pre γ=>∃ s3 s4,γ=[.fz b.enc,.fz (pN hold),.ow (encN (pre.filter (cmpB b))),s3,s4])
    (List.range (2 ^ b.banes.length)).reverse (List.range (2 ^ b.banes.length)).reverse [] [.fz b.enc,.fz (pN hold),.ow (encN []),.un,.un] rfl ⟨.un,.un,rfl⟩ (by
      rintro pre j post γ hpre ⟨s3,s4,rfl⟩
      obtain ⟨hj,hst⟩:=cmp_step hpre
      have hl:(pre.filter (cmpB b)).length≤256:=by
        have h1:=List.length_filter_le (cmpB b) pre
        have h2:=congrArg List.length hpre
        simp at h2
        omega
      refine ⟨_,_,rfl,?_,.fz (pN j),.fz (.bl ((pre.filter (cmpB b)).any fun c=>insB j c)),rfl⟩
      rw [List.filter_append]
      generalize pre.filter (cmpB b)=fo at *
      unfold Qep
      walk_at "ev"
      rw [show encN fo=fo.map pN from rfl,XU pN (fun c=>PV.bl (insB j c)) fo fun c hc=>⟨_,rfl,by walk_at "ev"⟩]
      rw [show (fo.map fun c=>PV.bl (insB j c))=(fo.map fun c=>insB j c).map PV.bl by rw [List.map_map];rfl]
      walk_at "ev"
      rw [pAnyB_l,List.any_map,show (id ∘ fun c=>insB j c)=fun c=>insB j c from rfl]
      walk_at "ev"
      rw [show fo.map pN=encN fo from rfl]
      cases ha:fo.any (fun c=>insB j c) with
      | true =>
        rw [ha] at hst
        rw [List.filter_cons_of_neg (by rw [← hst];simp)]
        walk_at "ev"
        simp
      | false =>
        rw [ha] at hst
        walk_at "ev"
        rw [e_stands ok]
        walk_at "ev"
        cases hk:std b j with
        | true =>
          rw [hk] at hst
          rw [List.filter_cons_of_pos (by rw [← hst];rfl)]
          walk_at "ev"
          rw [Qau (by rw [encN_len];omega) rfl]
          walk_at "ev"
          simp [encN]
        | false =>
          rw [hk] at hst
          rw [List.filter_cons_of_neg (by rw [← hst];simp)]
          walk_at "ev"
          simp)
  rw [show ([]:List PV)=encN [] from rfl,show encN (List.range (2 ^ b.banes.length)).reverse=(List.range (2 ^ b.banes.length)).reverse.map pN from rfl,e]
  walk_at "ev"
  have hl2:(List.filter (cmpB b) (List.range (2 ^ b.banes.length)).reverse).length≤256:=by
    have:=List.length_filter_le (cmpB b) (List.range (2 ^ b.banes.length)).reverse
    rw [List.length_reverse,List.length_range] at this
    omega
  rw [show (encN (List.filter (cmpB b) (List.range (2 ^ b.banes.length)).reverse)).reverse=encN (List.filter (cmpB b) (List.range (2 ^ b.banes.length)).reverse).reverse by unfold encN;rw [List.map_reverse],cmpK_ok (by rw [encN_len,List.length_reverse];omega)]
  rw [Qgk (fun c=>insB hold c) _ fun c hc=>⟨_,rfl,by walk_at "ev",by walk_at "ev"⟩]
  walk_at "ev"
  rw [← List.filter_reverse,List.reverse_reverse,List.filter_filter]
  unfold cmpL
  congr 4
  funext h
  rw [Bool.and_comm]
end DH

noncomputable section
namespace DH
open PySem PySem.Spec PyProof.Rows L2 L2.PM
end DH

noncomputable section
namespace DH
open PySem PySem.Spec PyProof.Rows L2 L2.PM
theorem encN_set' (xs:List Nat) (j v:Nat):(encN xs).set j (pN v)=encN (xs.set j v):=by unfold encN;rw [List.map_set]
end DH

noncomputable section
namespace DH
open PySem PySem.Spec PyProof.Rows L2 L2.PM
end DH

noncomputable section
namespace DH
open PySem PySem.Spec PyProof.Rows L2 L2.PM
local macro_rules | `(tactic| walk_at "ev") => `(tactic| try simp (disch:=first | assumption | omega | (simp only [encN_len,tr_len,encN_len,List.length_map,List.length_range,List.length_cons,List.length_nil,List.length_append];omega) | decide) only [encN_len,encN_flat,enc_ix0,enc_ix1,enc_ix2,renc_ix0,renc_ix1,flat_benc,flat_renc,e_inside,tr_get,tr_flat,tr_set,testBit_one,e_whole_n,e_cell,pNe_nil',pAdd_ni,pAdd_in,runO_2',outO_ro',EVc,List.length_cons,List.length_nil,if_true,List.map_cons,List.map_nil,List.replicate_zero,List.replicate_succ,List.cons_append,List.nil_append,List.getElem?_cons_zero,List.getElem?_cons_succ,Option.bind_some,Option.map_some,List.set_cons_zero,List.set_cons_succ,List.length_map,List.length_range,List.all_nil,List.all_cons,List.length_append])
theorem Qkd (c:Int) {k:Nat} (h:k < 1000):∃ n,Qm [.int c,pN k]=some (pN n):=by
  unfold Qm QaC
  have h1:k * k < 1000 * 1000:=Nat.mul_lt_mul'' h h
  walk_at "ev"
  exact ⟨_,rfl⟩
noncomputable def QC (c:Int) (k:Nat):Nat:=Classical.epsilon fun n=>Qm [.int c,pN k]=some (pN n)
theorem e_draw10 (c:Int) {k:Nat} (h:k < 1000):Qm [.int c,pN k]=some (pN (QC c k)):=Classical.epsilon_spec (p:=fun n=>Qm [.int c,pN k]=some (pN n)) (Qkd c h)
theorem e_draw10_n (c:Nat) {k:Nat} (h:k < 1000):Qm [pN c,pN k]=some (pN (QC c k)):=e_draw10 _ h
local macro_rules | `(tactic| walk_at "ev") => `(tactic| try simp (disch:=first | assumption | omega | (simp only [encN_len,tr_len,encN_len,List.length_map,List.length_range,List.length_cons,List.length_nil,List.length_append];omega) | decide) only [encN_len,encN_flat,enc_ix0,enc_ix1,enc_ix2,renc_ix0,renc_ix1,flat_benc,flat_renc,e_inside,tr_get,tr_flat,tr_set,testBit_one,e_whole_n,e_draw10,e_draw10_n,e_cell,pNe_nil',pAdd_ni,pAdd_in,runO_2',outO_ro',EVc,List.length_cons,List.length_nil,if_true,List.map_cons,List.map_nil,List.replicate_zero,List.replicate_succ,List.cons_append,List.nil_append,List.getElem?_cons_zero,List.getElem?_cons_succ,Option.bind_some,Option.map_some,List.set_cons_zero,List.set_cons_succ,List.length_map,List.length_range,List.all_nil,List.all_cons,List.length_append])
theorem e_rule13 (c:Int) {n m:Nat} {banes:List Nat} (hn:n≤8) (hm:m≤30) (hm0:0 < m) (hl:banes.length≤8) (hb:∀ x∈banes,x < n + m):∃ r:Rule,Zj [.int c,pN n,pN m]=some r.enc∧Yx n (n + m) r:=by
  unfold Zj QaA
  walk_at "ev"
  rw [orK_b (b:=n==0) (by walk_at "ev"),Option.bind_some]
  rw [Qhh (n + m) (max 1 n) (QC c 3 % 4) (1 + QC c 1 % 2) (by walk_at "ev") (by walk_at "ev") rfl]
  have s1:(if (QC c 2 % 3==0||n==0)=true then QC c 3 % 4 else 1 + QC c 1 % 2)≤6:=ifn_le (by omega) (by omega)
  generalize (if (QC c 2 % 3==0||n==0)=true then QC c 3 % 4 else 1 + QC c 1 % 2)=size at *
  have a1:0 < (if (QC c 2 % 3==0||n==0)=true then n + m else max 1 n):=ifn_p (P:=fun z=>0 < z) (fun h=>by omega) (by omega)
  have a2:(if (QC c 2 % 3==0||n==0)=true then n + m else max 1 n)≤n + m:=ifn_le (by omega) (by omega)
  generalize (if (QC c 2 % 3==0||n==0)=true then n + m else max 1 n)=among at *
  walk_at "ev"
  rw [compNN (fun k=>QC c (4 + k) % among) (List.range size) fun k hk=>⟨_,rfl,by
    have:=List.mem_range.mp hk
    walk_at "ev"⟩]
  walk_at "ev"
  have hy:n≤n + QC c 9 % m∧n + QC c 9 % m < n + m:=by have:=Nat.mod_lt (QC c 9) hm0;omega
  rw [QhM (by rw [List.length_map,List.length_range];omega)]
  walk_at "ev"
  exact ⟨⟨n + QC c 9 % m,_⟩,rfl,rule_of hy.1 hy.2 s1 fun k=>by have:=Nat.mod_lt (QC c (4 + k)) a1;omega⟩
theorem e_first3 {shape n m:Nat} (hn:n≤8) (hs:shape=0∨n + 3≤m):∃ rules:List Rule,Zk [pN shape,pN n]=some (rules.map Rule.enc)∧(∀ r∈rules,Yx n (n + m) r)∧rules.length≤18:=by
  unfold Zk QaB
  walk_at "ev"
  obtain ⟨γ',e,rules,s3,rfl,h1,h2⟩:=QiE (g:=gSet 3) (b:=Yk) (fun j γ=>∃ (rules:List Rule) (s3:Slot),γ=[.fz (pN shape),.fz (pN n),.ow (rules.map Rule.enc),s3]∧(∀ r∈rules,Yx n (n + m) r)∧rules.length≤2 * j)
    n [.fz (pN shape),.fz (pN n),.ow ([].map Rule.enc),.un] ⟨[],.un,rfl,by simp,by simp⟩ (by
      rintro j γ hj ⟨rules,s3,rfl,h1,h2⟩
      have key:∃ rules':List Rule,Yk [.fz (pN shape),.fz (pN n),.ow (rules.map Rule.enc),.fz (pN j)]=some (.nx [.fz (pN shape),.fz (pN n),.ow (rules'.map Rule.enc),.fz (pN j)])∧(∀ r∈rules',Yx n (n + m) r)∧rules'.length≤2 * (j + 1):=by
        have fin:∀ rules:List Rule,(∀ r∈rules,Yx n (n + m) r)→rules.length≤2 * j + 1→∃ rules':List Rule,(sIf (bAnd (truB (bin2 pEq (mVar 0) (mN 1))) (truB (bin2 pLt (bin2 pAdd (mVar 3) (mN 1)) (mVar 1)))) (sApp [1,3,3] 2 (mTup (Qe (bin2 pAdd (mVar 1) (mVar 3)) (Qe (mTup (Qe (bin2 pAdd (mVar 3) (mN 1)) aNil)) aNil)))) sNx) [.fz (pN shape),.fz (pN n),.ow (rules.map Rule.enc),.fz (pN j)]=some (.nx [.fz (pN shape),.fz (pN n),.ow (rules'.map Rule.enc),.fz (pN j)])∧(∀ r∈rules',Yx n (n + m) r)∧rules'.length≤2 * (j + 1):=by
          intro rules h1 h2
          walk_at "ev"
          rw [Qgl (b:=decide (j + 1 < n)) (by walk_at "ev")]
          walk_at "ev"
          cases hc:(shape==1&&decide (j + 1 < n)) with
          | false=>walk_at "ev";exact ⟨rules,rfl,h1,by omega⟩
          | true =>
            have hsh:shape≠0:=by
              rintro rfl
              simp at hc
            rw [Bool.and_eq_true,decide_eq_true_iff,beq_iff_eq] at hc
            walk_at "ev"
            rw [Qau (by rw [List.length_map];omega) rfl]
            walk_at "ev"
            refine ⟨rules++[⟨n + j,[j + 1]⟩],by rw [List.map_append];rfl,QaN h1 (Qcs (by omega) (by omega) (by omega)) (most:=0),by simp;omega⟩
        unfold Yk
        rw [ev_sSeq]
        generalize hk:seqK _=k
        walk_at "ev"
        rw [Qgl (b:=(decide (j + 1 < n)||j % 2==1)) (by walk_at "ev";rw [orK_b (b:=j % 2==1) (by walk_at "ev")])]
        walk_at "ev"
        cases hc:(decide (1 < shape)&&(decide (j + 1 < n)||j % 2==1)) with
        | false=>walk_at "ev";subst hk;rw [seqK_nx];exact fin rules h1 (by omega)
        | true =>
          have hsh:shape≠0:=by
            rintro rfl
            simp at hc
          rw [Bool.and_eq_true,Bool.or_eq_true,decide_eq_true_iff,decide_eq_true_iff,beq_iff_eq] at hc
          have hm2:j % 2 < 2:=Nat.mod_lt _ (by decide)
          have hsub:2 * (j % 2)≤j + 1:=by omega
          walk_at "ev"
          rw [Qau (by rw [List.length_map];omega) rfl]
          walk_at "ev"
          subst hk
          rw [seqK_nx,show rules.map Rule.enc++[PV.tup [pN (n + j),PV.tup [pN (j + 1 - 2 * (j % 2))]]]=(rules++[(⟨n + j,[j + 1 - 2 * (j % 2)]⟩:Rule)]).map Rule.enc by rw [List.map_append];rfl]
          exact fin _ (QaN h1 (Qcs (by omega) (by omega) (by omega)) (most:=0)) (by simp;omega)
      obtain ⟨rules',e,h3,h4⟩:=key
      exact ⟨_,_,rfl,e,rules',_,rfl,h3,h4⟩)
  rw [show ([]:List PV)=([]:List Rule).map Rule.enc from rfl,e]
  walk_at "ev"
  rw [Qgl (b:=decide (1 < n)) (by walk_at "ev")]
  walk_at "ev"
  cases hc:(decide (1 < shape)&&decide (1 < n)) with
  | false=>walk_at "ev";exact ⟨rules,rfl,h1,by omega⟩
  | true =>
    rw [Bool.and_eq_true,decide_eq_true_iff,decide_eq_true_iff] at hc
    obtain ⟨hc1,hc2⟩:=hc
    have hm:n + 3≤m:=by rcases hs with h | h <;> omega
    walk_at "ev"
    have hk:∀ kk:Bool,ZD kk [2,1,1] [Slot.fz (pN shape),.fz (pN n),.ow (rules.map Rule.enc),s3]=[Slot.fz (pN shape),.fz (pN n),if kk=true then .ow (rules.map Rule.enc) else .fz (.lst (rules.map Rule.enc)),s3]:=fun kk=>by
      cases kk <;> rfl
    rw [hk]
    walk_at "ev"
    exact ⟨rules++[⟨2 * n,[0]⟩,⟨2 * n,[1]⟩],by rw [List.map_append];rfl,fun r hr=>by
      rcases List.mem_append.mp hr with z | z
      · exact h1 r z
      · rcases List.mem_cons.mp z with rfl | z
        · exact Qcs (by omega) (by omega) (by omega)
        · rw [List.mem_singleton.mp z];exact Qcs (by omega) (by omega) (by omega),by simp;omega⟩
local macro_rules | `(tactic| walk_at "ev") => `(tactic| try simp (disch:=first | assumption | omega | (simp only [encN_len,tr_len,encN_len,List.length_map,List.length_range,List.length_cons,List.length_nil,List.length_append];omega) | decide) only [encN_len,encN_flat,enc_ix0,enc_ix1,enc_ix2,renc_ix0,renc_ix1,flat_benc,flat_renc,e_inside,tr_get,tr_flat,tr_set,testBit_one,e_whole_n,e_draw10,e_draw10_n,e_cell,pNe_nil',pAdd_ni,pAdd_in,runO_2',outO_ro',encN_set',EVc,List.length_cons,List.length_nil,if_true,List.map_cons,List.map_nil,List.replicate_zero,List.replicate_succ,List.cons_append,List.nil_append,List.getElem?_cons_zero,List.getElem?_cons_succ,Option.bind_some,Option.map_some,List.set_cons_zero,List.set_cons_succ,List.length_map,List.length_range,List.all_nil,List.all_cons,List.length_append])
theorem bk9_t1 {n m shape:Nat} (c0:Int) (hn:n≤8) (hm:m≤30) (hs:(m=0∧shape=0)∨n + 3≤m) (s0 s8 s9:Slot) (c:Slot) :
    ∃ (banes:List Nat) (s7:Slot),forL (gSet 6) ZQ (encN (List.range n)) [s0,.fz (.int c0),.fz (pN n),.fz (pN m),.fz (pN shape),.ow (encN ((List.range n).map fun k=>n + k)),c,s8,s9] =
      some (.nx [s0,.fz (.int c0),.fz (pN n),.fz (pN m),.fz (pN shape),.ow (encN banes),s7,s8,s9])∧banes.length=n∧∀ x∈banes,x < n + m:=by
  obtain ⟨γ',e,banes,s7,rfl,h1,h2⟩:=QiE (g:=gSet 6) (b:=ZQ) (fun j γ=>∃ (banes:List Nat) (s7:Slot),γ=[s0,.fz (.int c0),.fz (pN n),.fz (pN m),.fz (pN shape),.ow (encN banes),s7,s8,s9]∧banes.length=n∧∀ i x,banes[i]?=some x→(n + 3≤m∨i < j)→x < n + m)
    n [s0,.fz (.int c0),.fz (pN n),.fz (pN m),.fz (pN shape),.ow (encN ((List.range n).map fun k=>n + k)),c,s8,s9] ⟨_,c,rfl,by simp,fun i x hx h=>by
      rw [List.getElem?_map,Option.map_eq_some_iff] at hx
      obtain ⟨k,hk,rfl⟩:=hx
      rw [List.getElem?_eq_some_iff] at hk
      obtain ⟨h1,h2⟩:=hk
      simp at h1 h2
      omega⟩ (by
      rintro j γ hj ⟨banes,s7,rfl,h1,h2⟩
      have e:ZQ [s0,.fz (.int c0),.fz (pN n),.fz (pN m),.fz (pN shape),.ow (encN banes),.fz (pN j),s8,s9] =
        ifK (Qco [1,6,2,3] 5 (bin2 pMod (Qk Qm (Qe (mVar 1) (Qe (bin2 pAdd (mN 20) (mVar 6)) aNil))) (bin2 pAdd (mVar 2) (mVar 3))) (mVar 6)) sNx [s0,.fz (.int c0),.fz (pN n),.fz (pN m),.fz (pN shape),.ow (encN banes),.fz (pN j),s8,s9] (shape==0):=by
        unfold ZQ
        walk_at "ev"
      cases hc:(shape==0) with
      | false =>
        rw [hc,ifK_f,ev_sNx] at e
        refine ⟨_,_,rfl,e,banes,_,rfl,h1,fun i x hx h=>h2 i x hx ?_⟩
        refine .inl (hs.resolve_left ?_)
        rintro ⟨rfl,rfl⟩
        simp at hc
      | true =>
        have hmod:=Nat.mod_lt (QC c0 (20 + j)) (show 0 < n + m by omega)
        rw [hc,ifK_t] at e
        refine ⟨_,_,rfl,e.trans ?_,banes.set j (QC c0 (20 + j) % (n + m)),.fz (pN j),rfl,by rw [List.length_set];exact h1,fun i x hx h => ?_⟩
        · walk_at "ev"
          rw [sixK_n (by rw [encN_len];omega) rfl]
          walk_at "ev"
        · by_cases hij:j=i
          · subst hij
            rw [List.getElem?_set_self (by omega)] at hx
            cases hx
            exact hmod
          · rw [List.getElem?_set_ne hij] at hx
            exact h2 i x hx (h.imp id fun h=>by omega))
  refine ⟨banes,s7,e,h1,fun x hx => ?_⟩
  obtain ⟨i,hi,rfl⟩:=List.mem_iff_getElem.mp hx
  exact h2 i _ (List.getElem?_eq_getElem hi) (.inr (by omega))
theorem bk9_t2 {n m shape:Nat} {banes:List Nat} (hn:n≤8) (hm:m≤30) (hl:banes.length=n) (hb:∀ x∈banes,x < n + m) (s0:Slot) (c:Int) (rules:List Rule) (s6 s7 s9:Slot)
    (h6:s6 = .ow (encN banes)∨s6 = .fz (.lst (encN banes))) (k1:∀ r∈rules,Yx n (n + m) r) (k2:rules.length≤40) :
    ∃ (rules':List Rule) (s6' s9':Slot),Yt [s0,.fz (.int c),.fz (pN n),.fz (pN m),.fz (pN shape),s6,s7,.ow (rules.map Rule.enc),s9] =
      some (.nx [s0,.fz (.int c),.fz (pN n),.fz (pN m),.fz (pN shape),s6',s7,.ow (rules'.map Rule.enc),s9'])∧(s6' = .ow (encN banes)∨s6' = .fz (.lst (encN banes)))∧(∀ r∈rules',Yx n (n + m) r)∧rules'.length≤40:=by
  unfold Yt
  walk_at "ev"
  rw [Qgl (b:=decide (rules.length < 12)) (by walk_at "ev")]
  walk_at "ev"
  cases hc:(decide (0 < m)&&decide (rules.length < 12)) with
  | false=>walk_at "ev";exact ⟨rules,_,_,rfl,h6,k1,k2⟩
  | true =>
    rw [Bool.and_eq_true,decide_eq_true_iff,decide_eq_true_iff] at hc
    obtain ⟨r,er,hr⟩:=e_rule13 c (n:=n) (m:=m) (banes:=banes) (by omega) hm hc.1 (by omega) hb
    obtain ⟨nb,enb⟩:=QhT r rules
    rcases h6 with rfl | rfl
    all_goals
      walk_at "ev"
      rw [er]
      walk_at "ev"
      rw [enb]
      walk_at "ev"
      cases nb with
      | false=>walk_at "ev";exact ⟨rules,_,_,rfl,(by first | exact .inl rfl | exact .inr rfl),k1,k2⟩
      | true =>
        walk_at "ev"
        rw [Qau (by rw [List.length_map];omega) rfl]
        walk_at "ev"
        exact ⟨rules++[r],_,_,by rw [List.map_append];rfl,(by first | exact .inl rfl | exact .inr rfl),QaN k1 hr (most:=0),by simp;omega⟩
theorem e_book9 (ns:List Int) (hn:ns.length≤63):∃ b:Bk,Zv [.lst (ns.map .int)]=some b.enc∧b.Ok:=by
  unfold Zv Qbo
  walk_at "ev"
  have h8:QC (ns.getD 0 0) 0 % 5≤8:=by omega
  generalize QC (ns.getD 0 0) 0 % 5=n at *
  rw [Qhh 0 (n + 3 + QC (ns.getD 0 0) 1 % 3) 0 (QC (ns.getD 0 0) 2 % 4) (by walk_at "ev") (by walk_at "ev") rfl]
  obtain ⟨m,shape,hm,hs,e1,e2⟩:∃ m shape,m≤30∧((m=0∧shape=0)∨n + 3≤m)∧(if (QC (ns.getD 0 0) 3 % 8==1)=true then 0 else n + 3 + QC (ns.getD 0 0) 1 % 3)=m∧(if (QC (ns.getD 0 0) 3 % 8==1)=true then 0 else QC (ns.getD 0 0) 2 % 4)=shape:=by
    cases QC (ns.getD 0 0) 3 % 8==1 with
    | true=>exact ⟨0,0,by omega,.inl ⟨rfl,rfl⟩,rfl,rfl⟩
    | false=>exact ⟨n + 3 + QC (ns.getD 0 0) 1 % 3,QC (ns.getD 0 0) 2 % 4,by omega,.inr (by omega),rfl,rfl⟩
  rw [e1,e2]
  walk_at "ev"
  rw [compNN (fun k=>n + k) (List.range n) fun k hk=>⟨_,rfl,by walk_at "ev"⟩]
  walk_at "ev"
  obtain ⟨banes,s7,eb,hl,hb⟩:=bk9_t1 (shape:=shape) (ns.getD 0 0) h8 hm hs (.fz (.lst (ns.map .int))) .un .un .un
  rw [eb]
  walk_at "ev"
  obtain ⟨rules0,er,q1,q2⟩:=e_first3 (shape:=shape) (n:=n) (m:=m) (by omega) (by rcases hs with h | h;exact .inl h.2;exact .inr h)
  rw [er]
  have hkeep:ZD ((rules0.map Rule.enc).all flat) [4,2] [.fz (.lst (ns.map .int)),.fz (.int (ns.getD 0 0)),.fz (pN n),.fz (pN m),.fz (pN shape),.ow (encN banes),s7,.un,.un]=[.fz (.lst (ns.map .int)),.fz (.int (ns.getD 0 0)),.fz (pN n),.fz (pN m),.fz (pN shape),.ow (encN banes),s7,.un,.un]:=by
    cases (rules0.map Rule.enc).all flat <;> walk_at "ev"
  rw [Option.map_some,hkeep]
  walk_at "ev"
  have hlen:(cutP ns (some ((2:Nat):Int)) (some ((92:Nat):Int))).length≤63:=by
    rw [cutP_nn,List.length_drop,List.length_take]
    omega
  generalize cutP ns (some ((2:Nat):Int)) (some ((92:Nat):Int))=cells at *
  obtain ⟨γ',e,rules,s1,s6,s9,rfl,h6,k1,k2⟩:=Yg (g:=gSet 1) (b:=Yt) PV.int
    (fun pre γ=>∃ (rules:List Rule) (s1 s6 s9:Slot),γ=[.fz (.lst (ns.map .int)),s1,.fz (pN n),.fz (pN m),.fz (pN shape),s6,s7,.ow (rules.map Rule.enc),s9]∧(s6 = .ow (encN banes)∨s6 = .fz (.lst (encN banes)))∧(∀ r∈rules,Yx n (n + m) r)∧rules.length≤40)
    cells cells [] [.fz (.lst (ns.map .int)),.fz (.int (ns.getD 0 0)),.fz (pN n),.fz (pN m),.fz (pN shape),.ow (encN banes),s7,.ow (rules0.map Rule.enc),.un] rfl ⟨rules0,_,_,.un,rfl,.inl rfl,q1,by omega⟩ (by
      rintro pre c post γ hpre ⟨rules,s1,s6,s9,rfl,h6,k1,k2⟩
      obtain ⟨rules',s6',s9',e,q3,q4,q5⟩:=bk9_t2 (shape:=shape) h8 hm hl hb (.fz (.lst (ns.map .int))) c rules s6 s7 s9 h6 k1 k2
      exact ⟨_,_,rfl,e,rules',_,s6',s9',rfl,q3,q4,q5⟩)
  rw [e]
  have ok:(⟨n + m,banes,rules⟩:Bk).Ok := .of (by omega) (by omega) (by omega) hb (by rw [hl];exact k1) k2
  rcases h6 with rfl | rfl
  all_goals
    walk_at "ev"
    exact ⟨⟨n + m,banes,rules⟩,rfl,ok⟩
end DH

noncomputable section
namespace DH
open PySem PySem.Spec PyProof.Rows L2 L2.PM
noncomputable def RU (b:Bk) (c w:Nat):Nat:=Classical.epsilon fun U=>QM [b.enc,pN c,pN w]=some (pN U)∧(∀ g,U.testBit g=true→c.testBit g=true)∧IsRs b w U
theorem Qkv {b:Bk} (ok:b.Ok) {c w:Nat} (hc:c < 2 ^ b.banes.length) (hw:w < b.words) (hy:(yl b c).testBit w=true) :
    QM [b.enc,pN c,pN w]=some (pN (RU b c w))∧(∀ g,(RU b c w).testBit g=true→c.testBit g=true)∧IsRs b w (RU b c w) :=
  Classical.epsilon_spec (p:=fun U=>QM [b.enc,pN c,pN w]=some (pN U)∧(∀ g,U.testBit g=true→c.testBit g=true)∧IsRs b w U) (Qik ok hc hw hy)
noncomputable def aRV (b:Bk) (w c:Nat):PV:=if (yl b c).testBit w=true then pN (RU b c w) else .non
theorem e_ar {b:Bk} (ok:b.Ok) {c w:Nat} (hc:c < 2 ^ b.banes.length) (hw:w < b.words):QM [b.enc,pN c,pN w]=some (aRV b w c):=by
  unfold aRV
  cases hy:(yl b c).testBit w with
  | true=>rw [if_pos rfl];exact (Qkv ok hc hw hy).1
  | false=>rw [if_neg (by decide)];exact QdF ok hw hy
theorem aRV_N (b:Bk) (w c:Nat):isN (aRV b w c) = !(yl b c).testBit w:=by
  unfold aRV
  cases (yl b c).testBit w <;> rfl
theorem aRV_flat (b:Bk) (w c:Nat):flat (aRV b w c)=true:=by
  unfold aRV
  cases (yl b c).testBit w <;> rfl
noncomputable def prV (b:Bk) (w c:Nat):PV := .tup [pN c,aRV b w c]
theorem QdV {j:Nat} {ms:List Nat} {g:Addr→List PV→OT→Option OT} {ma:PEnv→Option (List PV)} {γ:PEnv} {t t':OT} {a:Addr} {rs:List PV} (h1:ma γ=some (.opq a :: rs)) (h2:Qaq γ j=some a) (h3:g a rs t=some t'):Qeq j ms g ma γ t=some (.nx (frz ms γ) t'):=by
  unfold Qeq
  rw [h1,Option.bind_some,h2,Option.bind_some]
  show ((if a=a then g a rs t else none).map _)=_
  rw [if_pos rfl,h3]
  rfl
theorem Qiy {τ:Type} (m:MX τ) (a:Addr) (p q:PV) (t:τ):runX 3 3 m a [p,q] t=(m [.fz (.opq a),.fz p,.fz q] t).bind outX:=rfl
theorem runX2' {τ:Type} (m:MX τ) (a:Addr) (p:PV) (t:τ):runX 2 2 m a [p] t=(m [.fz (.opq a),.fz p] t).bind outX:=rfl
theorem runX5' {τ:Type} (m:MX τ) (a:Addr) (p q r s:PV) (t:τ):runX 5 5 m a [p,q,r,s] t=(m [.fz (.opq a),.fz p,.fz q,.fz r,.fz s] t).bind outX:=rfl
theorem Qks (a:Addr) (p q:PV):Qs a [p,q] ⟨[],[],none⟩=some ⟨["word","name"],[p,q],none⟩:=by
  unfold Qs QaE
  rw [Qiy,Qdt (γ':=[.fz (.opq a),.fz p,.fz q]) (t':=⟨["word"],[p],none⟩) rfl]
  rfl
theorem QjP (a:Addr) (p q:PV):QJ a [p,q] ⟨[],[],none⟩=some ⟨["word","name","reason"],[p,.str "settled",q],none⟩:=by
  unfold QJ YY
  rw [Qiy,Qdt (QdV (a:=a) (rs:=[p,.str "settled"]) rfl rfl (Qks a p (.str "settled")))]
  rfl
theorem i_sure (a:Addr) (p q:PV):QZ a [p,q] ⟨[],[],none⟩=some ⟨["word","name","pairs"],[p,.str "sure",q],none⟩:=by
  unfold QZ Qah
  rw [Qiy,Qdt (QdV (a:=a) (rs:=[p,.str "sure"]) rfl rfl (Qks a p (.str "sure")))]
  rfl
theorem i_never (a:Addr) (p:PV):QT a [p] ⟨[],[],none⟩=some ⟨["word","name"],[p,.str "never"],none⟩:=by
  unfold QT XH
  rw [runX2',QdV (a:=a) (rs:=[p,.str "never"]) rfl rfl (Qks a p (.str "never"))]
  rfl
theorem i_maybe (a:Addr) (p q r s:PV):QU a [p,q,r,s] ⟨[],[],none⟩=some ⟨["word","name","camp","reason","other"],[p,.str "maybe",q,r,s],none⟩:=by
  unfold QU XI
  rw [runX5',Qdt (QdV (a:=a) (rs:=[p,.str "maybe"]) rfl rfl (Qks a p (.str "maybe")))]
  rw [Qdt (γ':=[.fz (.opq a),.fz p,.fz q,.fz r,.fz s]) (t':=⟨["word","name","camp"],[p,.str "maybe",q],none⟩) rfl]
  rw [Qdt (γ':=[.fz (.opq a),.fz p,.fz q,.fz r,.fz s]) (t':=⟨["word","name","camp","reason"],[p,.str "maybe",q,r],none⟩) rfl]
  rfl
theorem Qgd {C:Addr} {g:Addr→List PV→OT→Option OT} {ma:PEnv→Option (List PV)} {γ:PEnv} {qs:List PV} {ks:List Str} {ps:List PV} (h1:ma γ=some qs) (h2:∀ a,g a qs ⟨[],[],none⟩=some ⟨ks,ps,none⟩):mNew C g ma γ=some (.obj C ks ps):=by
  unfold mNew
  rw [h1,Option.bind_some,allB_ok h2]
  rfl
noncomputable def ylds (b:Bk) (w:Nat):List Nat:=(cmpL b 0).filter fun c=>(yl b c).testBit w
noncomputable def nots (b:Bk) (w:Nat):List Nat:=(cmpL b 0).filter fun c => !(yl b c).testBit w
noncomputable def Qhb (C:Nat→Addr) (w U:Nat):PV := .obj (C 1) ["word","name","reason"] [pN w,.str "settled",pN U]
noncomputable def oSure (C:Nat→Addr) (w:Nat) (ps:List PV):PV := .obj (C 2) ["word","name","pairs"] [pN w,.str "sure",.tup ps]
noncomputable def oMaybe (C:Nat→Addr) (w c U d:Nat):PV := .obj (C 3) ["word","name","camp","reason","other"] [pN w,.str "maybe",pN c,pN U,pN d]
noncomputable def oNever (C:Nat→Addr) (w:Nat):PV := .obj (C 4) ["word","name"] [pN w,.str "never"]
noncomputable def lotV (C:Nat→Addr) (b:Bk) (m w:Nat):PV :=
  if (yl b (it b m)).testBit w=true then Qhb C w (RU b (it b m) w) else if (nots b w).isEmpty=true then oSure C w ((ylds b w).map (prV b w)) else if (ylds b w).isEmpty=true then oNever C w
  else oMaybe C w ((ylds b w).getD 0 0) (RU b ((ylds b w).getD 0 0) w) ((nots b w).getD 0 0)
theorem prV_ix0 (b:Bk) (w c:Nat):pIx (prV b w c) (pN 0)=some (pN c):=rfl
theorem prV_ix1 (b:Bk) (w c:Nat):pIx (prV b w c) (pN 1)=some (aRV b w c):=rfl
theorem enc_emp (xs:List Nat):(encN xs).isEmpty=xs.isEmpty:=by cases xs <;> rfl
theorem map_emp (f:Nat→PV) (xs:List Nat):(xs.map f).isEmpty=xs.isEmpty:=by cases xs <;> rfl
local macro_rules | `(tactic| walk_at "ev") => `(tactic| try simp (disch:=first | assumption | omega | (simp only [encN_len,List.length_map,encN_len,List.length_map,List.length_range,List.length_cons,List.length_nil,List.length_append];omega) | decide) only [encN_len,encN_flat,enc_ix0,enc_ix1,enc_ix2,flat_benc,prV_ix0,prV_ix1,aRV_N,aRV_flat,EVc,List.length_cons,List.length_nil,if_true,List.map_cons,List.map_nil,List.replicate_zero,List.replicate_succ,List.cons_append,List.nil_append,List.getElem?_cons_zero,List.getElem?_cons_succ,Option.bind_some,Option.map_some,List.set_cons_zero,List.set_cons_succ,List.length_map,List.length_range,List.all_nil,List.all_cons,List.length_append])
theorem e_lot (C:Nat→Addr) {b:Bk} (ok:b.Ok) {w m:Nat} (hw:w < b.words) (hl:Last b m):Qfr C [b.enc,pN w]=some (lotV C b m w):=by
  have hw60:=ok.w60
  obtain ⟨m',es,hl',_⟩:=Qfa ok
  have:=hl.unique hl'
  subst this
  have hlen:=Qek ok 0
  unfold Qfr d_lot lotV
  walk_at "ev"
  rw [es]
  walk_at "ev"
  rw [e_ar ok (QgD b m) hw]
  walk_at "ev"
  cases hy:(yl b (it b m)).testBit w with
  | true =>
    walk_at "ev"
    rw [Qgd (qs:=[pN w,aRV b w (it b m)]) (by walk_at "ev") (fun a=>QjP a _ _)]
    walk_at "ev"
    unfold aRV Qhb
    rw [hy]
    rfl
  | false =>
    walk_at "ev"
    rw [Qjh ok]
    walk_at "ev"
    rw [QiH (prV b w) (cmpL b 0) fun c hc=>⟨_,rfl,by
      walk_at "ev"
      rw [e_ar ok (Xt.mp hc).1 hw]
      walk_at "ev"
      rfl⟩]
    have hk1:∀ kk:Bool,ZD kk [0,0,1] [Slot.fz b.enc,.fz (pN w),.fz (aRV b w (it b m)),.un,.un,.un]=[Slot.fz b.enc,.fz (pN w),.fz (aRV b w (it b m)),.un,.un,.un]:=fun kk=>by cases kk <;> rfl
    rw [Option.map_some,hk1]
    walk_at "ev"
    rw [Qbi (prV b w) (fun c=>(yl b c).testBit w) (prV b w) (cmpL b 0) fun c hc=>⟨_,rfl,by
      walk_at "ev"
      rw [Bool.not_not],fun _=>by walk_at "ev"⟩]
    obtain ⟨s3,hs3,hk2⟩:∃ s3:Slot,s3.val=some (.lst ((cmpL b 0).map (prV b w)))∧ZD ((((cmpL b 0).filter fun c=>(yl b c).testBit w).map (prV b w)).all flat) [3] [Slot.fz b.enc,.fz (pN w),.fz (aRV b w (it b m)),.ow ((cmpL b 0).map (prV b w)),.un,.un]=[Slot.fz b.enc,.fz (pN w),.fz (aRV b w (it b m)),s3,.un,.un]:=by
      cases (((cmpL b 0).filter fun c=>(yl b c).testBit w).map (prV b w)).all flat with
      | true=>exact ⟨_,rfl,rfl⟩
      | false=>exact ⟨_,rfl,rfl⟩
    rw [Option.map_some,hk2]
    walk_at "ev"
    rw [hs3]
    walk_at "ev"
    rw [Qbi (prV b w) (fun c => !(yl b c).testBit w) pN (cmpL b 0) fun c hc=>⟨_,rfl,by walk_at "ev",fun _=>by walk_at "ev"⟩]
    rw [show ((cmpL b 0).filter fun c => !(yl b c).testBit w).map pN=encN (nots b w) from rfl,show ((cmpL b 0).filter fun c=>(yl b c).testBit w)=ylds b w from rfl]
    walk_at "ev"
    rw [Bool.not_not,enc_emp]
    cases hn:(nots b w).isEmpty with
    | true =>
      walk_at "ev"
      rw [Qgd (qs:=[pN w,.tup ((ylds b w).map (prV b w))]) (by walk_at "ev") (fun a=>i_sure a _ _)]
      walk_at "ev"
      rfl
    | false =>
      walk_at "ev"
      rw [Bool.not_not,map_emp]
      cases hyl:(ylds b w).isEmpty with
      | true =>
        walk_at "ev"
        rw [Qgd (qs:=[pN w]) (by walk_at "ev") (fun a=>i_never a _)]
        walk_at "ev"
        rfl
      | false =>
        obtain ⟨c,cs,ec⟩:∃ c cs,ylds b w=c :: cs:=by
          cases h:ylds b w with
          | nil=>rw [h] at hyl;cases hyl
          | cons c cs=>exact ⟨c,cs,rfl⟩
        obtain ⟨d,ds,ed⟩:∃ d ds,nots b w=d :: ds:=by
          cases h:nots b w with
          | nil=>rw [h] at hn;cases hn
          | cons c cs=>exact ⟨c,cs,rfl⟩
        have hc:(yl b c).testBit w=true:=by
          have:c∈ylds b w:=by rw [ec];simp
          unfold ylds at this
          exact (List.mem_filter.mp this).2
        rw [ec,ed]
        walk_at "ev"
        rw [Qgd (qs:=[pN w,pN c,aRV b w c,pN d]) (by walk_at "ev") (fun a=>i_maybe a _ _ _ _)]
        walk_at "ev"
        unfold aRV oMaybe
        rw [hc]
        rfl
end DH

noncomputable section
namespace DH
open PySem PySem.Spec PyProof.Rows L2 L2.PM
noncomputable abbrev Four (C:Nat→Addr):Prop:=([C 1,C 2,C 3,C 4]:List Addr).Nodup
theorem QfR {C:Nat→Addr} (h:Four C):(C 1==C 2)=false∧(C 1==C 3)=false∧(C 1==C 4)=false∧(C 2==C 1)=false∧(C 2==C 3)=false∧(C 2==C 4)=false∧(C 3==C 1)=false∧(C 3==C 2)=false∧(C 3==C 4)=false∧(C 4==C 1)=false∧(C 4==C 2)=false∧(C 4==C 3)=false:=by
  unfold Four at h
  simp only [List.nodup_cons,List.mem_cons,List.not_mem_nil,or_false,not_or,List.nodup_nil,and_true,not_false_eq_true] at h
  obtain ⟨⟨a,b,c⟩,⟨d,e⟩,f⟩:=h
  simp only [beq_eq_false_iff_ne]
  exact ⟨a,b,c,Ne.symm a,d,e,Ne.symm b,Ne.symm d,f,Ne.symm c,Ne.symm e,Ne.symm f⟩
theorem isi_1 {C:Nat→Addr} (h:Four C) (a b c d:Bool) (ks:List Str) (ps:List PV):isiS [(C 1,a),(C 2,b),(C 3,c),(C 4,d)] (.obj (C 1) ks ps)=some (.bl a):=by
  show (List.lookup (C 1) [(C 1,a),(C 2,b),(C 3,c),(C 4,d)]).map PV.bl=_
  simp
theorem isi_2 {C:Nat→Addr} (h:Four C) (a b c d:Bool) (ks:List Str) (ps:List PV):isiS [(C 1,a),(C 2,b),(C 3,c),(C 4,d)] (.obj (C 2) ks ps)=some (.bl b):=by
  show (List.lookup (C 2) [(C 1,a),(C 2,b),(C 3,c),(C 4,d)]).map PV.bl=_
  have q:=QfR h
  simp [List.lookup_cons,q]
theorem isi_3 {C:Nat→Addr} (h:Four C) (a b c d:Bool) (ks:List Str) (ps:List PV):isiS [(C 1,a),(C 2,b),(C 3,c),(C 4,d)] (.obj (C 3) ks ps)=some (.bl c):=by
  show (List.lookup (C 3) [(C 1,a),(C 2,b),(C 3,c),(C 4,d)]).map PV.bl=_
  have q:=QfR h
  simp [List.lookup_cons,q]
theorem isi_4 {C:Nat→Addr} (h:Four C) (a b c d:Bool) (ks:List Str) (ps:List PV):isiS [(C 1,a),(C 2,b),(C 3,c),(C 4,d)] (.obj (C 4) ks ps)=some (.bl d):=by
  show (List.lookup (C 4) [(C 1,a),(C 2,b),(C 3,c),(C 4,d)]).map PV.bl=_
  have q:=QfR h
  simp [List.lookup_cons,q]
theorem ev_mIsiS (tab:List (Addr×Bool)) (m:MEx) (γ:PEnv):QcI tab m γ=(m γ).bind (isiS tab):=rfl
theorem ev_mFldS (Cs:List Addr) (f:Str) (m:MEx) (γ:PEnv):Qar Cs f m γ=(m γ).bind (fldS Cs f):=rfl
theorem fld_of (C:Nat→Addr) {D:Addr} (hD:D∈[C 1,C 2,C 3,C 4]) {ks:List Str} {ps:List PV} {s:PV} {f:Str} (hl:((ks.zip ps).lookup f)=some s):fldS [C 1,C 2,C 3,C 4] f (.obj D ks ps)=some s:=by
  show (if ([C 1,C 2,C 3,C 4]:List Addr).contains D=true then (ks.zip ps).lookup f else none)=_
  rw [if_pos (by simpa using hD),hl]
theorem name_of' (C:Nat→Addr) {D:Addr} (hD:D∈[C 1,C 2,C 3,C 4]) {ks:List Str} {ps:List PV} {s:PV} (hl:((ks.zip ps).lookup ("name":Str))=some s):Ql C [.obj D ks ps]=some s:=by
  unfold Ql Qcg
  rw [runV_1]
  show ((((some (PV.obj D ks ps)).bind (fldS [C 1,C 2,C 3,C 4] "name")).map Out.rt).bind outV)=_
  rw [Option.bind_some,fld_of C hD hl]
  rfl
theorem Qkf (C:Nat→Addr) {D:Addr} (hD:D∈[C 1,C 2,C 3,C 4]) {ks:List Str} {ps:List PV} {s:PV} (hk:ks.contains ("called":Str)=false) (hl:((ks.zip ps).lookup ("name":Str))=some s) {mo:MEx} {γ:PEnv} (e:mo γ=some (.obj D ks ps)) :
    Qgf [(C 1,(Ql C)),(C 2,(Ql C)),(C 3,(Ql C)),(C 4,(Ql C))] "called" mo aNil γ=some s:=by
  unfold Qgf
  rw [e,Option.bind_some]
  show ((if ks.contains ("called":Str)=false then ([(C 1,(Ql C)),(C 2,(Ql C)),(C 3,(Ql C)),(C 4,(Ql C))]:List (Addr×(List PV→Option PV))).lookup D else none).bind _)=_
  rw [if_pos hk]
  have hlk:([(C 1,(Ql C)),(C 2,(Ql C)),(C 3,(Ql C)),(C 4,(Ql C))]:List (Addr×(List PV→Option PV))).lookup D=some (Ql C):=by
    simp only [List.lookup_cons,List.lookup_nil]
    simp only [List.mem_cons,List.not_mem_nil,or_false] at hD
    cases h1:D==C 1 with
    | true=>rfl
    | false =>
      cases h2:D==C 2 with
      | true=>rfl
      | false =>
        cases h3:D==C 3 with
        | true=>rfl
        | false =>
          cases h4:D==C 4 with
          | true=>rfl
          | false =>
            rw [beq_eq_false_iff_ne] at h1 h2 h3 h4
            rcases hD with h | h | h | h
            · exact absurd h h1
            · exact absurd h h2
            · exact absurd h h3
            · exact absurd h h4
  rw [hlk]
  exact name_of' C hD hl
theorem cnt_all' {xs:List Nat} (p:Nat→Bool):((xs.filter p).length==xs.length)=(xs.filter fun c => !p c).isEmpty:=by
  induction xs with
  | nil=>rfl
  | cons x xs ih =>
    have hl:=List.length_filter_le p xs
    cases h:p x with
    | true =>
      rw [List.filter_cons_of_pos h,List.filter_cons_of_neg (by simp [h]),← ih,List.length_cons,List.length_cons]
      rw [Bool.eq_iff_iff,beq_iff_eq,beq_iff_eq]
      omega
    | false =>
      rw [List.filter_cons_of_neg (by simp [h]),List.filter_cons_of_pos (by simp [h]),List.length_cons]
      rw [show ((xs.filter p).length==xs.length + 1)=false by rw [beq_eq_false_iff_ne];omega]
      rfl
noncomputable def nmV (b:Bk) (m w:Nat):Str:=if (yl b (it b m)).testBit w=true then "settled" else if (nots b w).isEmpty=true then "sure" else if (ylds b w).isEmpty=true then "never" else "maybe"
theorem pNe_e0' (xs:List Nat):pNe (.lst (encN xs)) (.lst [])=some (.bl (!xs.isEmpty)):=by
  have:=pNe_ll xs []
  rw [show encN []=([]:List PV) from rfl] at this
  rw [this]
  cases xs <;> rfl
local macro_rules | `(tactic| walk_at "ev") => `(tactic| try simp (disch:=first | assumption | omega | (simp only [encN_len,tr_len,encN_len,List.length_map,List.length_range,List.length_cons,List.length_nil,List.length_append];omega) | decide) only [encN_len,encN_flat,enc_ix0,enc_ix1,enc_ix2,renc_ix0,renc_ix1,flat_benc,flat_renc,e_inside,tr_get,tr_flat,tr_set,testBit_one,testBit_zero',e_whole_n,pNe_e0',EVc,List.length_cons,List.length_nil,if_true,List.map_cons,List.map_nil,List.replicate_zero,List.replicate_succ,List.cons_append,List.nil_append,List.getElem?_cons_zero,List.getElem?_cons_succ,Option.bind_some,Option.map_some,List.set_cons_zero,List.set_cons_succ,List.length_map,List.length_range,List.all_nil,List.all_cons,List.length_append])
theorem e_due3 {b:Bk} (ok:b.Ok) {m w:Nat} (hw:w < b.words):ZF [b.enc,pN w,pN (it b m),.lst (encN (ylds b w)),.tup (encN (cmpL b 0))]=some (.str (nmV b m w)):=by
  unfold ZF Qcf nmV
  walk_at "ev"
  rw [Qbg ok (QgD b m)]
  walk_at "ev"
  cases (yl b (it b m)).testBit w with
  | true=>walk_at "ev"
  | false =>
    rw [if_neg (by decide)]
    walk_at "ev"
    have e1:((ylds b w).length==(cmpL b 0).length)=(nots b w).isEmpty:=cnt_all' _
    rw [e1]
    cases (nots b w).isEmpty with
    | true=>walk_at "ev"
    | false =>
      rw [if_neg (by decide)]
      walk_at "ev"
      cases (ylds b w).isEmpty with
      | true=>walk_at "ev"
      | false=>rw [if_neg (by decide)];walk_at "ev"
theorem and_sub {U W:Nat} (h:∀ g,U.testBit g=true→W.testBit g=true):U&&&W=U:=by
  refine Nat.eq_of_testBit_eq fun k => ?_
  rw [Nat.testBit_and]
  cases hk:U.testBit k with
  | false=>rfl
  | true=>rw [h k hk];rfl
theorem QcQ {b:Bk} (ok:b.Ok) {within word U:Nat} (hw:word < b.words) (hh:within < 2 ^ b.banes.length) (hs:∀ g,U.testBit g=true→within.testBit g=true) (h:IsRs b word U):QD [b.enc,pN within,pN word,pN U]=some (.bl true):=by
  have h8:=ok.g8
  have hU:=sub_lt hh hs
  unfold QD Qaf
  walk_at "ev"
  rw [and_sub hs,show (U==U)=true from beq_self_eq_true U]
  walk_at "ev"
  rw [Qbg ok hU]
  walk_at "ev"
  rw [h.1]
  walk_at "ev"
  obtain ⟨γ',e,s4,rfl⟩:=QiE (g:=gSet 4) (b:=YA) (fun j γ=>∃ s4,γ=[.fz b.enc,.fz (pN within),.fz (pN word),.fz (pN U),s4])
    b.banes.length [.fz b.enc,.fz (pN within),.fz (pN word),.fz (pN U),.un] ⟨.un,rfl⟩ (by
      rintro j γ hj ⟨s4,rfl⟩
      refine ⟨_,_,rfl,?_,.fz (pN j),rfl⟩
      unfold YA
      walk_at "ev"
      cases hb:U.testBit j with
      | false=>walk_at "ev"
      | true =>
        have hle:2 ^ j≤U:=Nat.ge_two_pow_of_testBit hb
        walk_at "ev"
        rw [Qbg ok (held:=U - 2 ^ j) (Nat.lt_of_le_of_lt (Nat.sub_le _ _) hU)]
        walk_at "ev"
        rw [← dif_pow hb,h.2 j hb]
        walk_at "ev")
  rw [e]
  walk_at "ev"
theorem QiM (b:Bk) (w:Nat):∀ xs:List Nat,List.zipWith (fun x y=>PV.tup [x,y]) (xs.map (prV b w)) (encN xs)=xs.map fun c=>PV.tup [prV b w c,pN c]
  | []=>rfl
  | x :: xs=>by
    show PV.tup [prV b w x,pN x] :: List.zipWith (fun x y=>PV.tup [x,y]) (xs.map (prV b w)) (encN xs)=_
    rw [QiM b w xs]
    rfl
theorem e_sure {b:Bk} (ok:b.Ok) {w:Nat} (hw:w < b.words) (hn:(nots b w).isEmpty=true):ZV [b.enc,pN w,.tup ((ylds b w).map (prV b w)),.tup (encN (cmpL b 0))]=some (.bl true):=by
  have hw60:=ok.w60
  have hn2:∀ c∈cmpL b 0,(yl b c).testBit w=true:=fun c hc=>by
    cases h:(yl b c).testBit w with
    | true=>rfl
    | false =>
      have:c∈nots b w:=by unfold nots;exact List.mem_filter.mpr ⟨hc,by simp [h]⟩
      rw [List.isEmpty_iff.mp hn] at this
      cases this
  have hy:ylds b w=cmpL b 0:=by unfold ylds;exact List.filter_eq_self.mpr hn2
  rw [hy]
  unfold ZV Qdd
  walk_at "ev"
  rw [show ((cmpL b 0).length==(cmpL b 0).length)=true from beq_self_eq_true _]
  walk_at "ev"
  rw [show QfY [PV.tup ((cmpL b 0).map (prV b w)),PV.tup (encN (cmpL b 0))]=some (List.zipWith (fun x y=>PV.tup [x,y]) ((cmpL b 0).map (prV b w)) (encN (cmpL b 0))) from rfl,QiM]
  walk_at "ev"
  obtain ⟨γ',e,s4,s5,rfl⟩:=Yg (g:=XC 4 5) (b:=Qac) (fun c=>PV.tup [prV b w c,pN c]) (fun pre γ=>∃ s4 s5,γ=[.fz b.enc,.fz (pN w),.fz (.tup ((cmpL b 0).map (prV b w))),.fz (.tup (encN (cmpL b 0))),s4,s5])
    (cmpL b 0) (cmpL b 0) [] [.fz b.enc,.fz (pN w),.fz (.tup ((cmpL b 0).map (prV b w))),.fz (.tup (encN (cmpL b 0))),.un,.un] rfl ⟨.un,.un,rfl⟩ (by
      rintro pre c post γ hpre ⟨s4,s5,rfl⟩
      have hc:c∈cmpL b 0:=by rw [← hpre];simp
      have hcl:=(Xt.mp hc).1
      obtain ⟨_,r1,r2⟩:=Qkv ok hcl hw (hn2 c hc)
      refine ⟨_,_,rfl,?_,.fz (prV b w c),.fz (pN c),rfl⟩
      unfold Qac prV aRV
      rw [hn2 c hc,if_pos rfl]
      walk_at "ev"
      rw [show ((0 + 1 + 1==2):Bool)=true from rfl]
      walk_at "ev"
      rw [show (c==c)=true from beq_self_eq_true c]
      walk_at "ev"
      rw [QcQ ok hw hcl r1 r2]
      walk_at "ev")
  rw [e]
  walk_at "ev"
end DH

noncomputable section
namespace HD
open PySem PySem.W PySem.Calls PyProof.Rows L2
noncomputable abbrev fo (x q:Str) (st:Stmt) (dV doc pm:Value) (c:Addr):Obj:=⟨.type "function",none,.func (fnOf x q (Qo st) (Qn st) (Qc st) dV .none doc pm none (.ref c) .none),#[]⟩
noncomputable abbrev co (x q:Str) (t:Nat) (l n:Int) (a b:Addr) (u v:Value) (c:Addr) (z:Nat):Obj:=⟨.type "code",none,.fields #[.str x t,.str q (t + 1),.str "/claim/cut.py" (t + 2),.int l 0,.int n 0,.int 0 0,.int 0 0,.int 3 0,.ref a,.bool true,.int 181 0,.ref b,.none,u,v,.ref c,.int z 0,.int l 0,.str "/claim/cut.py" (z + 1)],#[]⟩
noncomputable abbrev en (P:Params) (x:Str) (t:Nat) (v:Value):DictEntry:=⟨PyData.keyHash P x,.str x t,v⟩
noncomputable def run (thr ok:Thread→Bool) (st:SharedT→Thread→Option (SharedT×Thread)):Nat→SharedT→Thread→Option SharedT
  | 0,_,_=>none
  | n + 1,s,t=>match thr t with
    | true=>some s
    | false=>match ok t with
      | false=>none
      | true=>match st s t with
        | some x=>run thr ok st n x.1 x.2
        | none=>none
theorem run_top {tb:String→Option Builtin} {p:Program} {w:World} {m:Nat} {an:Option Value}:∀ (n:Nat) (s r:SharedT) (t:Thread),
    run through (stepOk m an) (stepT (denote tb) p w) n s t=some r→topRun tb p w m an n s.abs t=some r.abs:=by
  intro n
  induction n with
  | zero=>intro s r t h;cases h
  | succ n ih =>
    intro s r t h
    simp only [run] at h
    simp only [topRun]
    split at h
    · next e=>cases h;rw [e]
    · next e =>
      rw [e]
      split at h
      · cases h
      · next e2 =>
        rw [e2]
        split at h
        · next x e3=>rw [stepT_spec (s':=x.1) (t':=x.2) e3];exact ih _ _ _ h
        · cases h
noncomputable def tree (l:List Obj):BT:=(l.foldl (fun x o=>(x.1.ins x.2 o,x.2 + 1)) (BT.nil,0)).1
noncomputable def st0 (w:World) (os:OsState):SharedT:=⟨tree (boot_heap w.params).objs.toList,11,(boot_heap w.params).life,Array.mk [],boot_drawn,boot_toks,os⟩
theorem st0_abs (w:World) (os:OsState):(st0 w os).abs=⟨boot_heap w.params,Array.mk [],boot_drawn,boot_toks,os⟩:=by
  have h:∀ P:Params,absHeap (tree (boot_heap P).objs.toList) 11 (boot_heap P).life=boot_heap P:=fun P=>by kernel_rfl
  show Shared.mk (absHeap (tree (boot_heap w.params).objs.toList) 11 (boot_heap w.params).life) _ _ _ _=_
  rw [h]
  rfl
noncomputable def only (p:Program) (st:Stmt):Program:={ p with main:={ p.main with body:=[st] } }
noncomputable def defPos (s:Stmt):Pos:=match s with
  | .FunctionDef _ _ _ _ _ _ _ _ _ c=>c
  | _=>⟨0,0,0,0⟩
noncomputable def Qdv (p:Program):List Str:=(p.main.scope.names.map (·.1)).filter fun n => !(n==("law":Str))
noncomputable def sees (p:Program) (P:Params) (h:Heap) (s:Shared):Bool :=
  staticsOk (importedModules p.main.body) (boot_heap P) h&&namesBound p h&&gensDone s&&laidKept (boot_heap P) h
noncomputable def end_ (p q:Program) (as:List Addr) (w:World) (os:OsState) (N:Nat) :=
  (run through (Fast.tw6613529449190102663 11 (some (.ref 6))) (Fast.tw10156331382660048174 (Fast.tw11892475500146522536 Fast.tw14364793385576792824) p w) N (st0 w os) (topStub p)).map fun s =>
    (sees p w.params s.abs.heap s.abs,Fast.tw4187177175401517315 q (Qdv p) (importedModules p.main.body) (fun _=>true) true s.abs,as.map s.abs.heap.get?)
theorem left {p q:Program} {K:Params→Frag} {as:List Addr} {N:Nat} (e:opening p=plainProg p.main.scope.names) (f:∀ s,fenceModules? p s=some s) (hN:Nat.ble 600 N=true)
    (one:∀ (w:World) (os:OsState),end_ p q as w os N=some (true,openGood q (Qdv p),(K w.params).map fun x=>some x.2)) :
    LeftO p q (Qdv p) (fun _=>true) (fun s=>as.map s.heap.get?) (fun w=>(K w.params).map fun x=>some x.2) N:=by
  intro w
  have o:=boot_open (p:=p) (N:=N) e hN f w
  match hf:fencedOpening treeTable p w N with
  | none=>rw [hf] at o;cases o
  | some ⟨h,gs,d,k,os⟩ =>
    rw [hf] at o
    have o2:=Option.some.inj o
    have c1:h=boot_heap w.params:=congrArg Prod.fst o2
    have c2:gs=Array.mk []:=congrArg (fun x=>x.2.1) o2
    have c3:d=boot_drawn:=congrArg (fun x=>x.2.2.1) o2
    have c4:k=boot_toks:=congrArg (fun x=>x.2.2.2) o2
    have r:=one w os
    unfold end_ at r
    rw [← Fast.te6613529449190102663,← Fast.te10156331382660048174,← Fast.te11892475500146522536,← Fast.te14364793385576792824,← Fast.te4187177175401517315] at r
    match hr:run through (stepOk 11 (some (.ref 6))) (stepT (denote treeTable) p w) N (st0 w os) (topStub p) with
    | none=>rw [hr] at r;cases r
    | some s =>
      rw [hr] at r
      have r2:=Option.some.inj r
      have l1:=congrArg Prod.fst r2
      have l2:=congrArg (fun x=>x.2.1) r2
      have l3:=congrArg (fun x=>x.2.2) r2
      have t:=run_top N _ _ _ hr
      rw [st0_abs] at t
      subst c1 c2 c3 c4
      have z:(boot_heap w.params).isNs mainGlobals=true∧(boot_heap w.params).objs.size=11∧(boot_heap w.params).nsMap mainGlobals "__annotations__"=some (.ref 6):=⟨by kernel_rfl,by kernel_rfl,by kernel_rfl⟩
      have u:topFrom treeTable p w N ⟨boot_heap w.params,Array.mk [],boot_drawn,boot_toks,os⟩=some s.abs:=by
        simp only [topFrom,z.1,z.2.1,z.2.2,t]
        have l1':(staticsOk (importedModules p.main.body) (boot_heap w.params) s.abs.heap&&namesBound p s.abs.heap&&gensDone s.abs&&laidKept (boot_heap w.params) s.abs.heap)=true:=l1
        simp only [Option.bind_some,l1']
        rfl
      have v:openEnds treeTable p w N=some s.abs:=by
        unfold openEnds
        rw [hf]
        exact u
      rw [v]
      exact congrArg some (Prod.ext l2 l3)
theorem opens {l:OpenLaw} {K:Params→Frag} {as:List Addr} {st:Stmt} {N:Nat} (ws:Fast.tw9446332074065402090 l=true) (e:opening l.prog=plainProg l.prog.main.scope.names) (f:∀ s,fenceModules? l.prog s=some s) (hN:Nat.ble 600 N=true)
    (one:∀ (w:World) (os:OsState),end_ l.prog (only l.prog st) as w os N=some (true,openGood (only l.prog st) (Qdv l.prog),(K w.params).map fun x=>some x.2)) (ha:∀ P,as=(K P).map (·.1))
    (hd:defOf (only l.prog st) l.name=some (⟨l.name,Qo st,Qn st,Qc st,defPos st⟩,[])) (hp:l.prog.theDef l.name=some (Qo st,Qn st,Qc st)) (hk:kwWritten? (Qo st).kwonlyargs (Qo st).kw_defaults=some [])
    (ok:(chainsOk (only l.prog st)&&opensWell l.prog&&(frees l.row.toRowW&&l.row.within.isEmpty))=true) (hb:l.prog.bare) (hw:l.row.toRowW.promised)
    (go:WalkO (only l.prog st) (Qdv l.prog) (fun _ _=>True) (InK K) l.row.toRowW ⟨l.name,Qo st,Qn st,Qc st,defPos st⟩ [] fun f vs=>PySem.call f vs):l.Holds:=by
  rw [← Fast.te9446332074065402090] at ws
  exact holds_law ws fun k=>holds_open (r:=l.row) (left e f hN one) (InK.of ha) InK.keeps (fun _ _=>trivial) (fun _ _ _ _ _=>trivial) hd hp hk (fun s _=>recFacts_of (R:=[]) rfl) (Bool.or_true _) k ok hb hw go
end HD
namespace K44
open PySem PySem.Spec PyProof.Rows L2 L2.PM DH
noncomputable def kin (p q r s:Bool):List PV:=(if p=true then [PV.str "settled"] else [])++((if q=true then [PV.str "sure"] else [])++((if r=true then [PV.str "maybe"] else [])++(if s=true then [PV.str "never"] else [])))
theorem kinds_ok (p q r s:Bool):Xc (XC 0 1) (mTru (mVar 1)) (mVar 0) [.un,.un] [.tup [.str "settled",.bl p],.tup [.str "sure",.bl q],.tup [.str "maybe",.bl r],.tup [.str "never",.bl s]]=some (kin p q r s):=by
  cases p <;> cases q <;> cases r <;> cases s <;> rfl
inductive Kd (C:Nat→Addr) (b:Bk) (m w:Nat) (D:Addr) (ks:List Str) (ps:List PV) (sel:Bool→Bool→Bool→Bool→Bool):Prop where
  | settled (e:sel=fun a _ _ _=>a) (hy:(yl b (it b m)).testBit w=true) (h1:(ks.zip ps).lookup ("reason":Str)=some (pN (RU b (it b m) w)))
  | sure (e:sel=fun _ a _ _=>a) (hn:(nots b w).isEmpty=true) (h1:(ks.zip ps).lookup ("pairs":Str)=some (.tup ((ylds b w).map (prV b w))))
  | maybe (e:sel=fun _ _ a _=>a) (c d:Nat) (hc:c∈ylds b w) (hd:d∈nots b w) (h1:(ks.zip ps).lookup ("camp":Str)=some (pN c)) (h2:(ks.zip ps).lookup ("reason":Str)=some (pN (RU b c w))) (h3:(ks.zip ps).lookup ("other":Str)=some (pN d))
  | never (e:sel=fun _ _ _ a=>a)
theorem lot_kind (C:Nat→Addr) (h4:Four C) (b:Bk) (m w:Nat):∃ (D:Addr) (ks:List Str) (ps:List PV) (sel:Bool→Bool→Bool→Bool→Bool),lotV C b m w = .obj D ks ps∧D∈[C 1,C 2,C 3,C 4]∧ks.contains ("called":Str)=false∧(ks.zip ps).lookup ("name":Str)=some (.str (nmV b m w)) ∧
    (ks.zip ps).lookup ("word":Str)=some (pN w)∧(∀ a b c d,isiS [(C 1,a),(C 2,b),(C 3,c),(C 4,d)] (.obj D ks ps)=some (.bl (sel a b c d)))∧kin (sel true false false false) (sel false true false false) (sel false false true false) (sel false false false true)=[.str (nmV b m w)]∧sel true true true true=true∧Kd C b m w D ks ps sel:=by
  unfold lotV nmV
  cases hy:(yl b (it b m)).testBit w with
  | true =>
    refine ⟨C 1,_,_,fun a _ _ _=>a,rfl,by simp,by decide +kernel,rfl,rfl,fun a b c d=>isi_1 h4 a b c d _ _,rfl,rfl,.settled rfl hy rfl⟩
  | false =>
    cases hn:(nots b w).isEmpty with
    | true=>exact ⟨C 2,_,_,fun _ a _ _=>a,rfl,by simp,by decide +kernel,rfl,rfl,fun a b c d=>isi_2 h4 a b c d _ _,rfl,rfl,.sure rfl hn rfl⟩
    | false =>
      cases hyl:(ylds b w).isEmpty with
      | true=>exact ⟨C 4,_,_,fun _ _ _ a=>a,rfl,by simp,by decide +kernel,rfl,rfl,fun a b c d=>isi_4 h4 a b c d _ _,rfl,rfl,.never rfl⟩
      | false =>
        refine ⟨C 3,_,_,fun _ _ a _=>a,rfl,by simp,by decide +kernel,rfl,rfl,fun a b c d=>isi_3 h4 a b c d _ _,rfl,rfl,.maybe rfl ((ylds b w).getD 0 0) ((nots b w).getD 0 0) ?_ ?_ rfl rfl rfl⟩
        · cases h:ylds b w with
          | nil=>rw [h] at hyl;cases hyl
          | cons c cs=>simp
        · cases h:nots b w with
          | nil=>rw [h] at hn;cases hn
          | cons c cs=>simp
theorem nm_ok (b:Bk) (m w:Nat):PyData.strOk (nmV b m w)=true:=by
  unfold nmV
  split
  · decide +kernel
  · split
    · decide +kernel
    · split
      · decide +kernel
      · decide +kernel
theorem nm_ne (b:Bk) (m w:Nat):pNe (.str (nmV b m w)) (.str (nmV b m w))=some (.bl false):=by
  rw [pNe_s (nm_ok b m w) (nm_ok b m w)]
  simp
theorem nm_nel (b:Bk) (m w:Nat):pNe (.lst [.str (nmV b m w)]) (.lst [.str (nmV b m w)])=some (.bl false):=by
  have ho:okv (.lst [.str (nmV b m w)])=true:=by simp [okv,dep,depL,okS,okSL,nm_ok]
  rw [QeE ho ho,QgW]
  rfl
local macro_rules | `(tactic| walk_at "ev") => `(tactic| try simp (disch:=first | assumption | omega | (simp only [encN_len,tr_len,encN_len,List.length_map,List.length_range,List.length_cons,List.length_nil,List.length_append];omega) | decide) only [encN_len,encN_flat,enc_ix0,enc_ix1,enc_ix2,renc_ix0,renc_ix1,flat_benc,flat_renc,e_inside,tr_get,tr_flat,tr_set,testBit_one,testBit_zero',e_whole_n,pNe_e0',ev_mIsiS,ev_mFldS,pEq_t0,e_cell,EVc,List.length_cons,List.length_nil,if_true,List.map_cons,List.map_nil,List.replicate_zero,List.replicate_succ,List.cons_append,List.nil_append,List.getElem?_cons_zero,List.getElem?_cons_succ,Option.bind_some,Option.map_some,List.set_cons_zero,List.set_cons_succ,List.length_map,List.length_range,List.all_nil,List.all_cons,List.length_append])
theorem e_paper (C:Nat→Addr) (h4:Four C) {b:Bk} (ok:b.Ok) {m w:Nat} (hw:w < b.words) (hl:Last b m):ZE C [b.enc,pN w,pN (it b m),.tup (encN (cmpL b 0))]=some (.bl true):=by
  have hw60:=ok.w60
  have hcl:=Qek ok 0
  obtain ⟨D,ks,ps,sel,el,hD,hk,hname,hword,hi,hkin,hall,hK⟩:=lot_kind C h4 b m w
  have hf:∀ {f:Str} {s:PV},(ks.zip ps).lookup f=some s→fldS [C 1,C 2,C 3,C 4] f (.obj D ks ps)=some s:=fun h=>fld_of C hD h
  unfold ZE Qce
  walk_at "ev"
  rw [e_lot C ok hw hl,el]
  have hk1:∀ kk:Bool,ZD kk [0,1] [Slot.fz b.enc,.fz (pN w),.fz (pN (it b m)),.fz (.tup (encN (cmpL b 0))),.un,.un,.un,.un,.un]=[Slot.fz b.enc,.fz (pN w),.fz (pN (it b m)),.fz (.tup (encN (cmpL b 0))),.un,.un,.un,.un,.un]:=fun kk=>by cases kk <;> rfl
  rw [Option.map_some,hk1]
  walk_at "ev"
  rw [Qgk (fun c=>(yl b c).testBit w) (cmpL b 0) fun c hc=>⟨_,rfl,by
    walk_at "ev"
    rw [Qbg ok (Xt.mp hc).1]
    walk_at "ev",by walk_at "ev"⟩]
  rw [show ((cmpL b 0).filter fun c=>(yl b c).testBit w)=ylds b w from rfl]
  walk_at "ev"
  rw [e_due3 ok hw]
  walk_at "ev"
  rw [hi,hi]
  walk_at "ev"
  rw [hi,hi]
  walk_at "ev"
  rw [hi,hall]
  walk_at "ev"
  rw [kinds_ok,hkin]
  walk_at "ev"
  rw [nm_nel]
  walk_at "ev"
  rw [Qkf C hD hk hname (by walk_at "ev")]
  walk_at "ev"
  rw [nm_ne]
  walk_at "ev"
  rw [hf hword]
  walk_at "ev"
  rw [hf hword]
  walk_at "ev"
  rw [show (w==w)=true from beq_self_eq_true w]
  walk_at "ev"
  rcases hK with ⟨e,hy,h1⟩ | ⟨e,hn,h1⟩ | ⟨e,c,d,hc,hd,h1,h2,h3⟩ | ⟨e⟩
  · subst e
    rw [hi]
    walk_at "ev"
    rw [hf h1]
    walk_at "ev"
    obtain ⟨_,r1,r2⟩:=Qkv ok (QgD b m) hw hy
    rw [QcQ ok hw (QgD b m) r1 r2]
    walk_at "ev"
  · subst e
    rw [hi]
    walk_at "ev"
    rw [hi]
    walk_at "ev"
    rw [hf h1]
    walk_at "ev"
    rw [e_sure ok hw hn]
    walk_at "ev"
  · subst e
    rw [hi]
    walk_at "ev"
    rw [hi]
    walk_at "ev"
    rw [hi]
    walk_at "ev"
    rw [hf h1]
    walk_at "ev"
    rw [hf h3]
    walk_at "ev"
    rw [hf h1]
    walk_at "ev"
    rw [decide_eq_true hc]
    walk_at "ev"
    rw [hf h3]
    walk_at "ev"
    have hdn:d∉ylds b w:=fun z=>by
      unfold nots at hd
      unfold ylds at z
      have q1:=(List.mem_filter.mp hd).2
      have q2:=(List.mem_filter.mp z).2
      rw [q2] at q1
      cases q1
    have hdc:d∈cmpL b 0:=by unfold nots at hd;exact (List.mem_filter.mp hd).1
    have hcc:c∈cmpL b 0∧(yl b c).testBit w=true:=by unfold ylds at hc;exact List.mem_filter.mp hc
    rw [decide_eq_false hdn]
    walk_at "ev"
    rw [hf h3]
    walk_at "ev"
    rw [decide_eq_true hdc]
    walk_at "ev"
    rw [hf h1]
    walk_at "ev"
    rw [hf h2]
    walk_at "ev"
    obtain ⟨_,r1,r2⟩:=Qkv ok (Xt.mp hcc.1).1 hw hcc.2
    rw [QcQ ok hw (Xt.mp hcc.1).1 r1 r2]
    walk_at "ev"
  · subst e
    rw [hi]
    walk_at "ev"
    rw [hi]
    walk_at "ev"
    rw [hi]
    walk_at "ev"
theorem law_true (C:Nat→Addr) (hC:([C 1,C 2,C 3,C 4]:List Addr).Nodup) (ns:List Int) (hn:ns.length≤63):Qbc C [.lst (ns.map .int)]=some (.bl true):=by
  unfold Qbc Qff
  walk_at "ev"
  obtain ⟨b,eb,ok⟩:=e_book9 ns hn
  have h8:=ok.g8
  have hw:=ok.w60
  have hp8:=pow8 h8
  have hcl:=Qek ok 0
  rw [eb]
  walk_at "ev"
  rw [Qjh ok]
  walk_at "ev"
  obtain ⟨m,es,hlast,_⟩:=Qfa ok
  rw [es]
  walk_at "ev"
  rw [show (cmpL b 0==[])=false by rw [beq_eq_false_iff_ne];exact cmpL_ne b]
  walk_at "ev"
  have hsome:∀ x∈it b m :: cmpL b 0,x < 2 ^ b.banes.length:=fun x hx=>by
    rcases List.mem_cons.mp hx with rfl | h
    · exact QgD b m
    · exact (Xt.mp h).1
  obtain ⟨γ',e,s4,rfl⟩:=Yg (g:=gSet 4) (b:=QbS C) pN (fun pre γ=>∃ s4,γ=[.fz (.lst (ns.map .int)),.fz b.enc,.fz (.tup (encN (cmpL b 0))),.fz (.tup [pN (it b m),.tup ((List.range b.banes.length).map fun g=>rkV b (m + 1) g)]),s4,.un,.un,.un])
    (it b m :: cmpL b 0) (it b m :: cmpL b 0) [] [.fz (.lst (ns.map .int)),.fz b.enc,.fz (.tup (encN (cmpL b 0))),.fz (.tup [pN (it b m),.tup ((List.range b.banes.length).map fun g=>rkV b (m + 1) g)]),.un,.un,.un,.un] rfl ⟨.un,rfl⟩ (by
      rintro pre x post γ hpre ⟨s4,rfl⟩
      have hx:x < 2 ^ b.banes.length:=hsome x (by rw [← hpre];simp)
      refine ⟨_,_,rfl,?_,.fz (pN x),rfl⟩
      unfold QbS
      walk_at "ev"
      rw [decide_eq_true (Nat.zero_le x)]
      walk_at "ev"
      rw [decide_eq_true hx]
      walk_at "ev")
  rw [show pN (it b m) :: encN (cmpL b 0)=(it b m :: cmpL b 0).map pN from rfl,e]
  walk_at "ev"
  have hcut:(cutP ns (some (-((2:Nat):Int))) none).length≤63:=by
    have:=cutP_len ns (some (-((2:Nat):Int))) none
    omega
  generalize cutP ns (some (-((2:Nat):Int))) none=cells at *
  walk_at "ev"
  obtain ⟨γ',e,ws,s6,rfl,hws,hwl⟩:=Yg (g:=gSet 6) (b:=Qan C) PV.int (fun pre γ=>∃ (ws:List Nat) (s6:Slot),γ=[.fz (.lst (ns.map .int)),.fz b.enc,.fz (.tup (encN (cmpL b 0))),.fz (.tup [pN (it b m),.tup ((List.range b.banes.length).map fun g=>rkV b (m + 1) g)]),s4,.ow (encN ws),s6,.un]∧(∀ x∈ws,x < b.words)∧ws.length≤pre.length)
    (((2 * b.banes.length:Nat):Int) :: ns.getD 1 0 :: cells) (((2 * b.banes.length:Nat):Int) :: ns.getD 1 0 :: cells) [] [.fz (.lst (ns.map .int)),.fz b.enc,.fz (.tup (encN (cmpL b 0))),.fz (.tup [pN (it b m),.tup ((List.range b.banes.length).map fun g=>rkV b (m + 1) g)]),s4,.ow [],.un,.un] rfl ⟨[],.un,rfl,by simp,by simp⟩ (by
      rintro pre z post γ hpre ⟨ws,s6,rfl,h1,h2⟩
      have hpl:pre.length≤65:=by
        have:=congrArg List.length hpre
        simp at this
        omega
      have key:∃ ws':List Nat,Qan C [.fz (.lst (ns.map .int)),.fz b.enc,.fz (.tup (encN (cmpL b 0))),.fz (.tup [pN (it b m),.tup ((List.range b.banes.length).map fun g=>rkV b (m + 1) g)]),s4,.ow (encN ws),.fz (.int z),.un]=some (.nx [.fz (.lst (ns.map .int)),.fz b.enc,.fz (.tup (encN (cmpL b 0))),.fz (.tup [pN (it b m),.tup ((List.range b.banes.length).map fun g=>rkV b (m + 1) g)]),s4,.ow (encN ws'),.fz (.int z),.un])∧(∀ x∈ws',x < b.words)∧ws'.length≤pre.length + 1:=by
        unfold Qan
        walk_at "ev"
        by_cases hw0:0 < b.words
        · rw [decide_eq_true hw0]
          walk_at "ev"
          have hz:=imod_lt z hw0
          obtain ⟨x,hx⟩:∃ x,(z % (b.words:Int)).toNat=x:=⟨_,rfl⟩
          rw [hx] at hz ⊢
          cases hc:decide (x∈ws) with
          | true=>walk_at "ev";exact ⟨ws,rfl,h1,by omega⟩
          | false =>
            walk_at "ev"
            rw [Qau (by rw [encN_len];omega) rfl]
            walk_at "ev"
            refine ⟨ws++[x],by rw [hx,← Qei];rfl,fun y hy => ?_,by simp;omega⟩
            rcases List.mem_append.mp hy with q | q
            · exact h1 y q
            · rw [List.mem_singleton.mp q];exact hz
        · rw [decide_eq_false hw0]
          walk_at "ev"
          exact ⟨ws,rfl,h1,by omega⟩
      obtain ⟨ws',e,q1,q2⟩:=key
      exact ⟨_,_,rfl,e,ws',_,rfl,q1,by simpa using q2⟩)
  rw [show pN (2 * b.banes.length) :: PV.int (ns.getD 1 0) :: cells.map PV.int=(((2 * b.banes.length:Nat):Int) :: ns.getD 1 0 :: cells).map PV.int from rfl,e]
  walk_at "ev"
  obtain ⟨γ',e,s7,rfl⟩:=Yg (g:=gSet 7) (b:=QbR C) pN (fun pre γ=>∃ s7,γ=[.fz (.lst (ns.map .int)),.fz b.enc,.fz (.tup (encN (cmpL b 0))),.fz (.tup [pN (it b m),.tup ((List.range b.banes.length).map fun g=>rkV b (m + 1) g)]),s4,.fz (.lst (encN ws)),s6,s7])
    ws ws [] [.fz (.lst (ns.map .int)),.fz b.enc,.fz (.tup (encN (cmpL b 0))),.fz (.tup [pN (it b m),.tup ((List.range b.banes.length).map fun g=>rkV b (m + 1) g)]),s4,.fz (.lst (encN ws)),s6,.un] rfl ⟨.un,rfl⟩ (by
      rintro pre w post γ hpre ⟨s7,rfl⟩
      have hw2:w < b.words:=hws w (by rw [← hpre];simp)
      refine ⟨_,_,rfl,?_,.fz (pN w),rfl⟩
      unfold QbR
      walk_at "ev"
      rw [e_paper C hC ok hw2 hlast]
      walk_at "ev")
  rw [show encN ws=ws.map pN from rfl] at e ⊢
  rw [e]
  walk_at "ev"
end K44

namespace K44
open PySem PySem.Spec PyProof.Rows L2 L2.PM DH
noncomputable def top (i:Nat):Stmt:=PySem.Challenge.pw_doubthall_k44_lots.main.body.getD i (.Pass ⟨0,0,0,0⟩)
structure Txt (mg:Str→Option Value):Prop where
  b_any:mg "any"=none
  b_bool:mg "bool"=none
  b_enumerate:mg "enumerate"=none
  b_int:mg "int"=none
  b_isinstance:mg "isinstance"=none
  b_len:mg "len"=none
  b_list:mg "list"=none
  b_max:mg "max"=none
  b_range:mg "range"=none
  b_reversed:mg "reversed"=none
  b_set:mg "set"=none
  b_sorted:mg "sorted"=none
  b_str:mg "str"=none
  b_tuple:mg "tuple"=none
  b_zip:mg "zip"=none
structure TFld (K:PySem.W.Frag) (C:Addr):Prop where
  fl_word:CFld K C "word"
  fl_name:CFld K C "name"
  fl_reason:CFld K C "reason"
  fl_pairs:CFld K C "pairs"
  fl_camp:CFld K C "camp"
  fl_other:CFld K C "other"
structure WFam (K:PySem.W.Frag) (mg:Str→Option Value) (C:Nat→Addr):Prop where
  fl:∀ D,D∈[C 1,C 2,C 3,C 4]→TFld K D
  mg_Lot:mg "Lot"=some (.ref (C 0))
  is_Lot:∀ D b,([(C 1,true),(C 2,true),(C 3,true),(C 4,true)]:List (Addr×Bool)).lookup D=some b→IsiC K (C 0) D b
  mg_Maybe:mg "Maybe"=some (.ref (C 3))
  is_Maybe:∀ D b,([(C 1,false),(C 2,false),(C 3,true),(C 4,false)]:List (Addr×Bool)).lookup D=some b→IsiC K (C 3) D b
  mg_Never:mg "Never"=some (.ref (C 4))
  is_Never:∀ D b,([(C 1,false),(C 2,false),(C 3,false),(C 4,true)]:List (Addr×Bool)).lookup D=some b→IsiC K (C 4) D b
  mg_Settled:mg "Settled"=some (.ref (C 1))
  is_Settled:∀ D b,([(C 1,true),(C 2,false),(C 3,false),(C 4,false)]:List (Addr×Bool)).lookup D=some b→IsiC K (C 1) D b
  mg_Sure:mg "Sure"=some (.ref (C 2))
  is_Sure:∀ D b,([(C 1,false),(C 2,true),(C 3,false),(C 4,false)]:List (Addr×Bool)).lookup D=some b→IsiC K (C 2) D b
noncomputable abbrev Zy:Stmt:=top 33
noncomputable def QaF:List Str:=["script","k"]
theorem Qdh {P:Program} {w:World} {K:PySem.W.Frag} {mg:Str→Option Value} {base:Heap} {f:Addr} {fd:FuncData} (T:Txt mg)  (F:Fun K "_law_cell_at" "_law_cell_at" Zy f fd):FnOk P w K mg base CX0 1 f fd ["script","k"] (spM K 2 QL):=by
  have sc:FnScope QaF ["script","k"] (Qc Zy):=⟨rfl,rfl,rfl,by decide +kernel,rfl,by decide +kernel,by decide +kernel⟩
  have nd:=sc.nd
  refine fnM (N:=QaF) (k:=0) F sc rfl fun cdv A outer s H E hr => ?_
  exact (Qh (Zi (QG Qfu (Qa 1 (pv 1)) (Za Yw (by rfl) T.b_len PySem.boot_len (Qb (Qa 0 (pv 0)) Qf)) (QH _)) (Qj (Qw (QY QX (Qa 0 (pv 0)) (Qa 1 (pv 1)) (fun _ _=>rfl)))) QE)
      (Qj (Qw Qi)))
noncomputable abbrev Yd:Stmt:=top 36
noncomputable def Qcj:List Str:=["shape","n","rules","k"]
theorem Qey {P:Program} {w:World} {K:PySem.W.Frag} {mg:Str→Option Value} {base:Heap} {f:Addr} {fd:FuncData} (T:Txt mg)  (F:Fun K "_law_first" "_law_first" Yd f fd):FnOk P w K mg base CX0 1 f fd ["shape","n"] (spO K 2 Zk):=by
  have sc:FnScope Qcj ["shape","n"] (Qc Yd):=⟨rfl,rfl,rfl,by decide +kernel,rfl,by decide +kernel,by decide +kernel⟩
  have nd:=sc.nd
  refine fnO (N:=Qcj) (k:=0) F sc rfl fun cdv A outer s H E hr => ?_
  exact (Qh (YU (i:=2) nd rfl (Or.inl rfl) (Xj Qf))
      (Qh (QdW PassesOwn.never rfl (QbM (by rfl) T.b_range (Qb (Qa 1 (pv 1)) Qf)) (QO (Qz (i:=3) nd rfl (Or.inl rfl))) (Qh (Zi (WM.tm (QaH (QG Qit (Qa 0 (pv 0)) Qi (QH _)) (Xn (WM.tm (Xa (QG Qfu (Qr Zq (Qa 3 (pv 3)) Qi) (Qa 1 (pv 1)) (QH _)) (Xi (QG (QaO hr.units) (Qr ZN (Qa 3 (pv 3)) Qi) Qi (QH _)))))))) (Qj (Qcm (i:=2) (pv 2) (ZH (Qb (Qr Zq (Qa 1 (pv 1)) (Qa 3 (pv 3))) (Qb (ZH (Qb (Qr Qgc (Qr Zq (Qa 3 (pv 3)) Qi) (Qr Xz Qi (Qr ZN (Qa 3 (pv 3)) Qi))) Qf)) Qf))) (XN (Qfs PySem.F.plainAttrs_list PySem.F.slot_list_append PySem.F.type_list_append Yr (pv 2) (Xu (ZH (Qb (Qr Zq (Qa 1 (pv 1)) (Qa 3 (pv 3))) (Qb (ZH (Qb (Qr Qgc (Qr Zq (Qa 3 (pv 3)) Qi) (Qr Xz Qi (Qr ZN (Qa 3 (pv 3)) Qi))) Qf)) Qf)))))))) QE)
      (Qj (Zi (WM.tm (QaH (QG (QaO hr.units) (Qa 0 (pv 0)) Qi (QH _)) (Xn (QG Qfu (Qr Zq (Qa 3 (pv 3)) Qi) (Qa 1 (pv 1)) (QH _))))) (Qj (Qcm (i:=2) (pv 2) (ZH (Qb (Qr Zq (Qa 1 (pv 1)) (Qa 3 (pv 3))) (Qb (ZH (Qb (Qr Zq (Qa 3 (pv 3)) Qi) Qf)) Qf))) (XN (Qfs PySem.F.plainAttrs_list PySem.F.slot_list_append PySem.F.type_list_append Yr (pv 2) (Xu (ZH (Qb (Qr Zq (Qa 1 (pv 1)) (Qa 3 (pv 3))) (Qb (ZH (Qb (Qr Zq (Qa 3 (pv 3)) Qi) Qf)) Qf)))))))) QE))))
      (Qh (Zi (WM.tm (QaH (QG Qit (Qa 0 (pv 0)) Qi (QH _)) (Xn (QG Qit (Qa 1 (pv 1)) Qi (QH _))))) (Qj (YU (i:=2) nd rfl (Or.inl rfl) (Qkt Qgb (Qa 2 (pv 2)) (EO.em (Xj (Qb (ZH (Qb (Qr Xz Qi (Qa 1 (pv 1))) (Qb (ZH (Xl Qf)) Qf))) (Qb (ZH (Qb (Qr Xz Qi (Qa 1 (pv 1))) (Qb (ZH (Xl Qf)) Qf))) Qf))))))) QE)
      (Qj (Qat 2 (pv 2))))))
noncomputable abbrev Yq:Stmt:=top 35
noncomputable def Qdf:List Str:=["cell","k","number"]
theorem QfD {P:Program} {w:World} {K:PySem.W.Frag} {mg:Str→Option Value} {base:Heap} {f:Addr} {fd:FuncData} (T:Txt mg)  (F:Fun K "_law_draw" "_law_draw" Yq f fd):FnOk P w K mg base CX0 1 f fd ["cell","k"] (spM K 2 Qm):=by
  have sc:FnScope Qdf ["cell","k"] (Qc Yq):=⟨rfl,rfl,rfl,by decide +kernel,rfl,by decide +kernel,by decide +kernel⟩
  have nd:=sc.nd
  refine fnM (N:=Qdf) (k:=0) F sc rfl fun cdv A outer s H E hr => ?_
  exact (Qh (QF (i:=2) nd rfl (Or.inl rfl) (Qr ZN (Qr Zq (Qr Zq (Qr Zq (Qr ZN (Qa 0 (pv 0)) Qi) (Qr Xz Qi (Qa 1 (pv 1)))) (Qr Xz (Qr Xz Qi (Qa 1 (pv 1))) (Qa 1 (pv 1)))) Qi) Qi))
      (Qh (QF (i:=2) nd rfl (Or.inl rfl) (Qr ZN (Qr Xz (Qa 2 (pv 2)) (Qa 2 (pv 2))) Qi))
      (Qj (Qw (Qr om_div (Qr ZN (Qr Xz (Qa 2 (pv 2)) (Qr Zq Qi (Qr Xz Qi (Qa 1 (pv 1))))) Qi) Qi)))))
noncomputable abbrev ZT:Stmt:=top 37
noncomputable def QaR:List Str:=["cell","n","m","among","size","body"]
theorem QfC {P:Program} {w:World} {K:PySem.W.Frag} {mg:Str→Option Value} {base:Heap} {f:Addr} {fd:FuncData} (T:Txt mg) (c__law_draw:Cal P w K mg base 1 "_law_draw" 2 Qm) (F:Fun K "_law_rule" "_law_rule" ZT f fd):FnOk P w K mg base CX0 2 f fd ["cell","n","m"] (spM K 3 Zj):=by
  have sc:FnScope QaR ["cell","n","m"] (Qc ZT):=⟨rfl,rfl,rfl,by decide +kernel,rfl,by decide +kernel,by decide +kernel⟩
  have nd:=sc.nd
  refine fnM (N:=QaR) (k:=1) F sc rfl fun cdv A outer s H E hr => ?_
  exact (Qh (QF (i:=3) nd rfl (Or.inr rfl) (Za (cm_max rfl) (by rfl) T.b_max (by kernel_rfl) (Qb Qi (Qb (Qa 1 (pv 1)) Qf))))
      (Qh (QF (i:=4) nd rfl (Or.inl rfl) (Qr Zq Qi (Qr ZN (Qp c__law_draw Qx (hr.mono (by decide)) (by rfl) (Qb (Qa 0 (pv 0)) (Xl Qf))) Qi)))
      (Qh (Zi (WM.tm (Xa (QG (QaO hr.units) (Qr ZN (Qp c__law_draw Qx (hr.mono (by decide)) (by rfl) (Qb (Qa 0 (pv 0)) (Xl Qf))) Qi) Qi (QH _)) (Xi (QG (QaO hr.units) (Qa 1 (pv 1)) Qi (QH _))))) (Qh (QF (i:=3) nd rfl (Or.inr rfl) (Qr Zq (Qa 1 (pv 1)) (Qa 2 (pv 2))))
      (Qj (QF (i:=4) nd rfl (Or.inl rfl) (Qr ZN (Qp c__law_draw Qx (hr.mono (by decide)) (by rfl) (Qb (Qa 0 (pv 0)) (Xl Qf))) Qi)))) QE)
      (Qh (ZZ (i:=5) nd rfl rfl (N':=["k","cell","among"]) (nt:=1) (caps:=[0,3]) (ts:=[0]) (ns:=[]) (ls:=[1,0,2]) rfl (XD (N:=QaR) (osc:=(Qc ZT)) rfl rfl (by decide +kernel)) (by decide) (Zc _) (XS (by rfl) T.b_range (Qb (Qa 4 (pv 4)) Qf)) (fun _ _ _ _ _ _=>(QO (Qz (i:=0) (show (["k","cell","among"]:List Str).Nodup by decide +kernel) rfl (Or.inl rfl)))) (fun _ _ _ _ _ _=>QbH) (fun _ _ _ _ _ _=>(Qr ZN (Qp c__law_draw Qx (hr.mono (by decide)) (by rfl) (Qb (Qa 1 (pv 1)) (Qb (Qr Zq Qi (Qa 0 (pv 0))) Qf))) (Qa 2 (pv 2)))))
      (Qj (Qw (ZH (Qb (Qr Zq (Qa 1 (pv 1)) (Qr ZN (Qp c__law_draw Qx (hr.mono (by decide)) (by rfl) (Qb (Qa 0 (pv 0)) (Xl Qf))) (Qa 2 (pv 2)))) (Qb (Xh XZ (by rfl) T.b_tuple (by kernel_rfl) (Qb (EO.em (Qih rfl (by rfl) T.b_set (by rfl) T.b_sorted (Qb (Qa 5 (pv 5)) Qf))) Qf)) Qf)))))))))
noncomputable abbrev ZU:Stmt:=top 38
noncomputable def QaS:List Str:=["script","cell","n","m","shape","banes","k","rules","rule"]
theorem QfE {P:Program} {w:World} {K:PySem.W.Frag} {mg:Str→Option Value} {base:Heap} {f:Addr} {fd:FuncData} (T:Txt mg) (c__law_cell_at:Cal P w K mg base 1 "_law_cell_at" 2 QL) (c__law_first:CalO P w K mg base 1 "_law_first" 2 Zk) (c__law_draw:Cal P w K mg base 1 "_law_draw" 2 Qm) (c__law_rule:Cal P w K mg base 2 "_law_rule" 3 Zj) (F:Fun K "_law_book" "_law_book" ZU f fd):FnOk P w K mg base CX0 3 f fd ["script"] (spM K 1 Zv):=by
  have sc:FnScope QaS ["script"] (Qc ZU):=⟨rfl,rfl,rfl,by decide +kernel,rfl,by decide +kernel,by decide +kernel⟩
  have nd:=sc.nd
  refine fnM (N:=QaS) (k:=2) F sc rfl fun cdv A outer s H E hr => ?_
  exact (Qh (QF (i:=1) nd rfl (Or.inl rfl) (Qp c__law_cell_at YX (hr.mono (by decide)) (by rfl) (Qb (Qa 0 (pv 0)) (Xl Qf))))
      (Qh (QF (i:=2) nd rfl (Or.inr rfl) (Qr ZN (Qp c__law_draw Qx (hr.mono (by decide)) (by rfl) (Qb (Qa 1 (pv 1)) (Xl Qf))) Qi))
      (Qh (QF (i:=3) nd rfl (Or.inl rfl) (Qr Zq (Qr Zq (Qa 2 (pv 2)) Qi) (Qr ZN (Qp c__law_draw Qx (hr.mono (by decide)) (by rfl) (Qb (Qa 1 (pv 1)) (Xl Qf))) Qi)))
      (Qh (QF (i:=4) nd rfl (Or.inl rfl) (Qr ZN (Qp c__law_draw Qx (hr.mono (by decide)) (by rfl) (Qb (Qa 1 (pv 1)) (Xl Qf))) Qi))
      (Qh (Zi (QG (QaO hr.units) (Qr ZN (Qp c__law_draw Qx (hr.mono (by decide)) (by rfl) (Qb (Qa 1 (pv 1)) (Xl Qf))) Qi) Qi (QH _)) (Qh (QF (i:=3) nd rfl (Or.inl rfl) Qi)
      (Qj (QF (i:=4) nd rfl (Or.inl rfl) Qi))) QE)
      (Qh (ZZ (i:=5) nd rfl rfl (N':=["k","n"]) (nt:=1) (caps:=[2]) (ts:=[0]) (ns:=[]) (ls:=[1,0]) rfl (XD (N:=QaS) (osc:=(Qc ZU)) rfl rfl (by decide +kernel)) (by decide) (Zc _) (XS (by rfl) T.b_range (Qb (Qa 2 (pv 2)) Qf)) (fun _ _ _ _ _ _=>(QO (Qz (i:=0) (show (["k","n"]:List Str).Nodup by decide +kernel) rfl (Or.inl rfl)))) (fun _ _ _ _ _ _=>QbH) (fun _ _ _ _ _ _=>(Qr Zq (Qa 1 (pv 1)) (Qa 0 (pv 0)))))
      (Qh (QdW PassesOwn.never rfl (QbM (by rfl) T.b_range (Qb (Qa 2 (pv 2)) Qf)) (QO (Qz (i:=6) nd rfl (Or.inl rfl))) (Qj (Zi (QG (QaO hr.units) (Qa 4 (pv 4)) Qi (QH _)) (Qj (QgP (i:=5) (pv 5) (Qr ZN (Qp c__law_draw Qx (hr.mono (by decide)) (by rfl) (Qb (Qa 1 (pv 1)) (Qb (Qr Zq Qi (Qa 6 (pv 6))) Qf))) (Qr Zq (Qa 2 (pv 2)) (Qa 3 (pv 3)))) (Qa 6 (pv 6)))) QE)))
      (Qh (YU (i:=7) nd rfl (Or.inl rfl) (eo_cal c__law_first QbE (hr.mono (by decide)) (by rfl) (Qb (Qa 4 (pv 4)) (Qb (Qa 2 (pv 2)) Qf))))
      (Qh (Qad PassesOwn.never rfl (XB (EO.em (eo_cut (Qa 0 (pv 0)) (QfM Qi) (QfM Qi)))) (QO (Qz (i:=1) nd rfl (Or.inl rfl))) (Qj (Zi (WM.tm (QaH (QG Qit (Qa 3 (pv 3)) Qi (QH _)) (Xn (QG Qfu (Za Yw (by rfl) T.b_len PySem.boot_len (Qb (Qa 7 (pv 7)) Qf)) Qi (QH _))))) (Qh (QF (i:=8) nd rfl (Or.inl rfl) (Qp c__law_rule QbD (hr.mono (by decide)) (by rfl) (Qb (Qa 1 (pv 1)) (Qb (Qa 2 (pv 2)) (Qb (Qa 3 (pv 3)) Qf)))))
      (Qj (Zi (QG (Qcu hr.units) (Qa 8 (pv 8)) (Qa 7 (pv 7)) (by with_unfolding_all rfl)) (Qj (Qcm (i:=7) (pv 7) (Qa 8 (pv 8)) (XN (Qfs PySem.F.plainAttrs_list PySem.F.slot_list_append PySem.F.type_list_append Yr (pv 7) (Xu (Qa 8 (pv 8))))))) QE))) QE)))
      (Qj (Qw (ZH (Qb (Qr Zq (Qa 2 (pv 2)) (Qa 3 (pv 3))) (Qb (Xh XZ (by rfl) T.b_tuple (by kernel_rfl) (Qb (Qa 5 (pv 5)) Qf)) (Qb (Xh XZ (by rfl) T.b_tuple (by kernel_rfl) (Qb (Qa 7 (pv 7)) Qf)) Qf)))))))))))))))
noncomputable abbrev ZI:Stmt:=top 10
noncomputable def Qbq:List Str:=["book"]
theorem QdC {P:Program} {w:World} {K:PySem.W.Frag} {mg:Str→Option Value} {base:Heap} {f:Addr} {fd:FuncData} (T:Txt mg)  (F:Fun K "all_guesses" "all_guesses" ZI f fd):FnOk P w K mg base CX0 1 f fd ["book"] (spM K 1 QW):=by
  have sc:FnScope Qbq ["book"] (Qc ZI):=⟨rfl,rfl,rfl,by decide +kernel,rfl,by decide +kernel,by decide +kernel⟩
  have nd:=sc.nd
  refine fnM (N:=Qbq) (k:=0) F sc rfl fun cdv A outer s H E hr => ?_
  exact (Qj (Qw (Qr Qgc (Qr QaJ Qi (Za Yw (by rfl) T.b_len PySem.boot_len (Qb (QY QX (Qa 0 (pv 0)) Qi (fun _ _=>rfl)) Qf))) Qi)))
noncomputable abbrev Xf:Stmt:=top 3
noncomputable def Qfp:List Str:=["row","mask","k"]
theorem QhR {P:Program} {w:World} {K:PySem.W.Frag} {mg:Str→Option Value} {base:Heap} {f:Addr} {fd:FuncData} (T:Txt mg)  (F:Fun K "mask_of" "mask_of" Xf f fd):FnOk P w K mg base CX0 1 f fd ["row"] (spM K 1 Zl):=by
  have sc:FnScope Qfp ["row"] (Qc Xf):=⟨rfl,rfl,rfl,by decide +kernel,rfl,by decide +kernel,by decide +kernel⟩
  have nd:=sc.nd
  refine fnM (N:=Qfp) (k:=0) F sc rfl fun cdv A outer s H E hr => ?_
  exact (Qh (QF (i:=1) nd rfl (Or.inl rfl) Qi)
      (Qh (Qad PassesOwn.never rfl (im_seq (Qa 0 (pv 0))) (QO (Qz (i:=2) nd rfl (Or.inl rfl))) (Qj (sm_aug (i:=1) nd rfl (Or.inl rfl) (Qr QaJ Qi (Qa 2 (pv 2))) om_ior)))
      (Qj (Qat 1 (pv 1)))))
noncomputable abbrev Zh:Stmt:=top 7
noncomputable def YF:List Str:=["book","held","steps"]
theorem QdB {P:Program} {w:World} {K:PySem.W.Frag} {mg:Str→Option Value} {base:Heap} {f:Addr} {fd:FuncData} (T:Txt mg) (c_mask_of:Cal P w K mg base 1 "mask_of" 1 Zl) (F:Fun K "known_after" "known_after" Zh f fd):FnOk P w K mg base CX0 2 f fd ["book","held","steps"] (spM K 3 Zu):=by
  have sc:FnScope YF ["book","held","steps"] (Qc Zh):=⟨rfl,rfl,rfl,by decide +kernel,rfl,by decide +kernel,by decide +kernel⟩
  have nd:=sc.nd
  refine fnM (N:=YF) (k:=1) F sc rfl fun cdv A outer s H E hr => ?_
  exact (Qj (Qw (Qr om_or (Qa 1 (pv 1)) (Qp c_mask_of Xx (hr.mono (by decide)) (by rfl) (Qb (EO.em (XO (X:=(cxOf CX0 P w K mg base YF "known_after" (Qc Zh) f cdv A outer s H E).nox) (N':=["step","book"]) (nt:=1) (caps:=[0]) (ts:=[0]) (ns:=[]) (ls:=[1,0]) rfl (XD (N:=YF) (osc:=(Qc Zh)) rfl rfl (by decide +kernel)) (by decide) (Zc _) (XB (Qa 2 (pv 2))) (fun _ _ _ _ _ _=>(QO (Qz (i:=0) (show (["step","book"]:List Str).Nodup by decide +kernel) rfl (Or.inl rfl)))) (fun _ _ _ _ _ _=>QbH) (fun _ _ _ _ _ _=>(QY QX (QY QX (QY QX (Qa 1 (pv 1)) Qi (fun _ _=>rfl)) (Qa 0 (pv 0)) (fun _ _=>rfl)) Qi (fun _ _=>rfl))))) Qf)))))
noncomputable abbrev XY:Stmt:=top 4
noncomputable def QhB:List Str:=["mask","other"]
theorem QjG {P:Program} {w:World} {K:PySem.W.Frag} {mg:Str→Option Value} {base:Heap} {f:Addr} {fd:FuncData} (T:Txt mg)  (F:Fun K "inside" "inside" XY f fd):FnOk P w K mg base CX0 1 f fd ["mask","other"] (spM K 2 QP):=by
  have sc:FnScope QhB ["mask","other"] (Qc XY):=⟨rfl,rfl,rfl,by decide +kernel,rfl,by decide +kernel,by decide +kernel⟩
  have nd:=sc.nd
  refine fnM (N:=QhB) (k:=0) F sc rfl fun cdv A outer s H E hr => ?_
  exact (Qj (Qw (Qgj (QaO hr.units) (Qr QbF (Qa 0 (pv 0)) (Qa 1 (pv 1))) (Qa 0 (pv 0)) (QH _))))
noncomputable abbrev QR:Stmt:=top 6
noncomputable def YB:List Str:=["book","held","rules","bodies","known","steps","grown","number","rule","head"]
theorem QbV {P:Program} {w:World} {K:PySem.W.Frag} {mg:Str→Option Value} {base:Heap} {f:Addr} {fd:FuncData} (T:Txt mg) (c_mask_of:Cal P w K mg base 1 "mask_of" 1 Zl) (c_inside:Cal P w K mg base 1 "inside" 2 QP) (F:Fun K "bringing_steps" "bringing_steps" QR f fd):FnOk P w K mg base CX0 2 f fd ["book","held"] (spM K 2 QS):=by
  have sc:FnScope YB ["book","held"] (Qc QR):=⟨rfl,rfl,rfl,by decide +kernel,rfl,by decide +kernel,by decide +kernel⟩
  have nd:=sc.nd
  refine fnM (N:=YB) (k:=1) F sc rfl fun cdv A outer s H E hr => ?_
  exact (Qh (QF (i:=2) nd rfl (Or.inl rfl) (QY QX (Qa 0 (pv 0)) Qi (fun _ _=>rfl)))
      (Qh (ZZ (i:=3) nd rfl rfl (N':=["rule"]) (nt:=1) (caps:=[]) (ts:=[0]) (ns:=[]) (ls:=[0]) rfl (XD (N:=YB) (osc:=(Qc QR)) rfl rfl (by decide +kernel)) (by decide) (Zc _) (Qdy (Qa 2 (pv 2))) (fun _ _ _ _ _ _=>(QO (Qz (i:=0) (show (["rule"]:List Str).Nodup by decide +kernel) rfl (Or.inl rfl)))) (fun _ _ _ _ _ _=>QbH) (fun _ _ _ _ _ _=>(Qp c_mask_of Xx (hr.mono (by decide)) (by rfl) (Qb (QY QX (Qa 0 (pv 0)) Qi (fun _ _=>rfl)) Qf))))
      (Qh (QF (i:=4) nd rfl (Or.inl rfl) (Qa 1 (pv 1)))
      (Qh (YU (i:=5) nd rfl (Or.inl rfl) (Xj Qf))
      (Qh (QF (i:=6) nd rfl (Or.inl rfl) Ym)
      (Qh (Qea 1000 PassesOwn.never (Qq (Qa 6 (pv 6))) (Qh (QF (i:=6) nd rfl (Or.inl rfl) Ym)
      (Qj (Qad PassesOwn.never rfl (Qhg rfl (by rfl) T.b_enumerate (Qb (Qa 2 (pv 2)) Qf)) (QbA (Qdu rfl (ZO (Qz (i:=7) nd rfl (Or.inl rfl)) (ZO (Qz (i:=8) nd rfl (Or.inl rfl)) Qbx)))) (Qh (QF (i:=9) nd rfl (Or.inl rfl) (Qr QaJ Qi (QY QX (Qa 8 (pv 8)) Qi (fun _ _=>rfl))))
      (Qj (Zi (WM.tm (QaH (ZB (Qq (Qp c_inside Zr (hr.mono (by decide)) (by rfl) (Qb (Qa 9 (pv 9)) (Qb (Qa 4 (pv 4)) Qf))))) (Xn (Qq (Qp c_inside Zr (hr.mono (by decide)) (by rfl) (Qb (QY QX (Qa 3 (pv 3)) (Qa 7 (pv 7)) (fun _ _=>rfl)) (Qb (Qa 4 (pv 4)) Qf))))))) (Qh (sm_aug (i:=4) nd rfl (Or.inl rfl) (Qa 9 (pv 9)) om_ior)
      (Qh (Qcm (i:=5) (pv 5) (Qa 7 (pv 7)) (XN (Qfs PySem.F.plainAttrs_list PySem.F.slot_list_append PySem.F.type_list_append Yr (pv 5) (Xu (Qa 7 (pv 7))))))
      (Qj (QF (i:=6) nd rfl (Or.inl rfl) Ym)))) QE)))))))
      (Qj (Qat 5 (pv 5)))))))))
noncomputable abbrev Xd:Stmt:=top 8
noncomputable def Qfn:List Str:=["book","held"]
theorem QhO {P:Program} {w:World} {K:PySem.W.Frag} {mg:Str→Option Value} {base:Heap} {f:Addr} {fd:FuncData} (T:Txt mg) (c_known_after:Cal P w K mg base 2 "known_after" 3 Zu) (c_bringing_steps:Cal P w K mg base 2 "bringing_steps" 2 QS) (F:Fun K "yielded" "yielded" Xd f fd):FnOk P w K mg base CX0 3 f fd ["book","held"] (spM K 2 Yh):=by
  have sc:FnScope Qfn ["book","held"] (Qc Xd):=⟨rfl,rfl,rfl,by decide +kernel,rfl,by decide +kernel,by decide +kernel⟩
  have nd:=sc.nd
  refine fnM (N:=Qfn) (k:=2) F sc rfl fun cdv A outer s H E hr => ?_
  exact (Qj (Qw (Qp c_known_after QbT (hr.mono (by decide)) (by rfl) (Qb (Qa 0 (pv 0)) (Qb (Qa 1 (pv 1)) (Qb (Qp c_bringing_steps Qav (hr.mono (by decide)) (by rfl) (Qb (Qa 0 (pv 0)) (Qb (Qa 1 (pv 1)) Qf))) Qf))))))
noncomputable abbrev YS:Stmt:=top 14
noncomputable def QcA:List Str:=["book","held","known"]
theorem QjC {P:Program} {w:World} {K:PySem.W.Frag} {mg:Str→Option Value} {base:Heap} {f:Addr} {fd:FuncData} (T:Txt mg) (c_mask_of:Cal P w K mg base 1 "mask_of" 1 Zl) (c_inside:Cal P w K mg base 1 "inside" 2 QP) (c_yielded:Cal P w K mg base 3 "yielded" 2 Yh) (F:Fun K "struck" "struck" YS f fd):FnOk P w K mg base CX0 4 f fd ["book","held"] (spM K 2 Yy):=by
  have sc:FnScope QcA ["book","held"] (Qc YS):=⟨rfl,rfl,rfl,by decide +kernel,rfl,by decide +kernel,by decide +kernel⟩
  have nd:=sc.nd
  refine fnM (N:=QcA) (k:=3) F sc rfl fun cdv A outer s H E hr => ?_
  exact (Qh (QF (i:=2) nd rfl (Or.inr rfl) (Qp c_yielded Qbj (hr.mono (by decide)) (by rfl) (Qb (Qa 0 (pv 0)) (Qb (Qa 1 (pv 1)) Qf))))
      (Qj (Qw (Qp c_mask_of Xx (hr.mono (by decide)) (by rfl) (Qb (EO.em (XO (X:=(cxOf CX0 P w K mg base QcA "struck" (Qc YS) f cdv A outer s H E).nox) (N':=["guess","bane","known"]) (nt:=2) (caps:=[2]) (ts:=[0,1]) (ns:=[1,2]) (ls:=[0]) rfl (XD (N:=QcA) (osc:=(Qc YS)) rfl rfl (by decide +kernel)) (by decide) (QdH _ _) (Qhg rfl (by rfl) T.b_enumerate (Qb (QY QX (Qa 0 (pv 0)) Qi (fun _ _=>rfl)) Qf)) (fun _ _ _ _ _ _=>(QbA (Qdu rfl (ZO (Qz (i:=0) (show (["guess","bane","known"]:List Str).Nodup by decide +kernel) rfl (Or.inl rfl)) (ZO (Qz (i:=1) (show (["guess","bane","known"]:List Str).Nodup by decide +kernel) rfl (Or.inl rfl)) Qbx))))) (fun _ _ _ _ _ _=>(QbG (Qq (Qp c_inside Zr (hr.mono (by decide)) (by rfl) (Qb (Qr QaJ Qi (Qa 1 (pv 1))) (Qb (Qa 2 (pv 2)) Qf)))))) (fun _ _ _ _ _ _=>(Qa 0 (pv 0))))) Qf)))))
noncomputable abbrev YI:Stmt:=top 16
noncomputable def QdS:List Str:=["book","held"]
theorem Qgx {P:Program} {w:World} {K:PySem.W.Frag} {mg:Str→Option Value} {base:Heap} {f:Addr} {fd:FuncData} (T:Txt mg) (c_struck:Cal P w K mg base 4 "struck" 2 Yy) (F:Fun K "at_peace" "at_peace" YI f fd):FnOk P w K mg base CX0 5 f fd ["book","held"] (spM K 2 Yn):=by
  have sc:FnScope QdS ["book","held"] (Qc YI):=⟨rfl,rfl,rfl,by decide +kernel,rfl,by decide +kernel,by decide +kernel⟩
  have nd:=sc.nd
  refine fnM (N:=QdS) (k:=4) F sc rfl fun cdv A outer s H E hr => ?_
  exact (Qj (Qw (Qgj (QaO hr.units) (Qr QbF (Qa 1 (pv 1)) (Qp c_struck Qcb (hr.mono (by decide)) (by rfl) (Qb (Qa 0 (pv 0)) (Qb (Qa 1 (pv 1)) Qf)))) Qi (QH _))))
noncomputable abbrev YG:Stmt:=top 15
noncomputable def QdQ:List Str:=["book","held"]
theorem Qgv {P:Program} {w:World} {K:PySem.W.Frag} {mg:Str→Option Value} {base:Heap} {f:Addr} {fd:FuncData} (T:Txt mg) (c_all_guesses:Cal P w K mg base 1 "all_guesses" 1 QW) (c_struck:Cal P w K mg base 4 "struck" 2 Yy) (F:Fun K "unstruck" "unstruck" YG f fd):FnOk P w K mg base CX0 5 f fd ["book","held"] (spM K 2 Ya):=by
  have sc:FnScope QdQ ["book","held"] (Qc YG):=⟨rfl,rfl,rfl,by decide +kernel,rfl,by decide +kernel,by decide +kernel⟩
  have nd:=sc.nd
  refine fnM (N:=QdQ) (k:=4) F sc rfl fun cdv A outer s H E hr => ?_
  exact (Qj (Qw (Qr QbF (Qp c_all_guesses Xs (hr.mono (by decide)) (by rfl) (Qb (Qa 0 (pv 0)) Qf)) (em_inv (Qp c_struck Qcb (hr.mono (by decide)) (by rfl) (Qb (Qa 0 (pv 0)) (Qb (Qa 1 (pv 1)) Qf)))))))
noncomputable abbrev YH:Stmt:=top 17
noncomputable def QdR:List Str:=["book","held"]
theorem Qgw {P:Program} {w:World} {K:PySem.W.Frag} {mg:Str→Option Value} {base:Heap} {f:Addr} {fd:FuncData} (T:Txt mg) (c_unstruck:Cal P w K mg base 5 "unstruck" 2 Ya) (F:Fun K "defended" "defended" YH f fd):FnOk P w K mg base CX0 6 f fd ["book","held"] (spM K 2 Zb):=by
  have sc:FnScope QdR ["book","held"] (Qc YH):=⟨rfl,rfl,rfl,by decide +kernel,rfl,by decide +kernel,by decide +kernel⟩
  have nd:=sc.nd
  refine fnM (N:=QdR) (k:=5) F sc rfl fun cdv A outer s H E hr => ?_
  exact (Qj (Qw (Qp c_unstruck Qay (hr.mono (by decide)) (by rfl) (Qb (Qa 0 (pv 0)) (Qb (Qp c_unstruck Qay (hr.mono (by decide)) (by rfl) (Qb (Qa 0 (pv 0)) (Qb (Qa 1 (pv 1)) Qf))) Qf)))))
noncomputable abbrev XW:Stmt:=top 18
noncomputable def Qhz:List Str:=["book","held"]
theorem QjD {P:Program} {w:World} {K:PySem.W.Frag} {mg:Str→Option Value} {base:Heap} {f:Addr} {fd:FuncData} (T:Txt mg) (c_inside:Cal P w K mg base 1 "inside" 2 QP) (c_at_peace:Cal P w K mg base 5 "at_peace" 2 Yn) (c_defended:Cal P w K mg base 6 "defended" 2 Zb) (F:Fun K "stands" "stands" XW f fd):FnOk P w K mg base CX0 7 f fd ["book","held"] (spM K 2 Xp):=by
  have sc:FnScope Qhz ["book","held"] (Qc XW):=⟨rfl,rfl,rfl,by decide +kernel,rfl,by decide +kernel,by decide +kernel⟩
  have nd:=sc.nd
  refine fnM (N:=Qhz) (k:=6) F sc rfl fun cdv A outer s H E hr => ?_
  exact (Qj (Qw (QiG (Qp c_at_peace QdA (hr.mono (by decide)) (by rfl) (Qb (Qa 0 (pv 0)) (Qb (Qa 1 (pv 1)) Qf))) (QiF (Qp c_inside Zr (hr.mono (by decide)) (by rfl) (Qb (Qa 1 (pv 1)) (Qb (Qp c_defended Xb (hr.mono (by decide)) (by rfl) (Qb (Qa 0 (pv 0)) (Qb (Qa 1 (pv 1)) Qf))) Qf)))))))
noncomputable abbrev YV:Stmt:=top 20
noncomputable def QbC:List Str:=["book","holding","found","held","in_another"]
theorem ok_camps {P:Program} {w:World} {K:PySem.W.Frag} {mg:Str→Option Value} {base:Heap} {f:Addr} {fd:FuncData} (T:Txt mg) (c_all_guesses:Cal P w K mg base 1 "all_guesses" 1 QW) (c_inside:Cal P w K mg base 1 "inside" 2 QP) (c_stands:Cal P w K mg base 7 "stands" 2 Xp) (F:FunD K "camps" "camps" YV f fd 0):FnOk P w K mg base CX0 8 f fd ["book","holding"] (spM K 2 Xo):=by
  have sc:FnScope QbC ["book","holding"] (Qc YV):=⟨rfl,rfl,rfl,by decide +kernel,rfl,by decide +kernel,by decide +kernel⟩
  have nd:=sc.nd
  refine fnMD (N:=QbC) (k:=7) F sc rfl fun cdv A outer s H E hr => ?_
  exact (Qh (YU (i:=2) nd rfl (Or.inl rfl) (Xj Qf))
      (Qh (QdW PassesOwn.never rfl (Qid (by rfl) T.b_range (Qb (Qp c_all_guesses Xs (hr.mono (by decide)) (by rfl) (Qb (Qa 0 (pv 0)) Qf)) (Qb (Qgi Qi) (Qb (Qgi Qi) Qf)))) (QO (Qz (i:=3) nd rfl (Or.inr rfl))) (Qh (QF (i:=4) nd rfl (Or.inl rfl) (Za (cm_any rfl) (by rfl) T.b_any (by kernel_rfl) (Qb (EO.em (XO (X:=(cxOf CX0 P w K mg base QbC "camps" (Qc YV) f cdv A outer s H E).nox) (N':=["camp","held"]) (nt:=1) (caps:=[3]) (ts:=[0]) (ns:=[]) (ls:=[1,0]) rfl (XD (N:=QbC) (osc:=(Qc YV)) rfl rfl (by decide +kernel)) (by decide) (Zc _) (XB (Qa 2 (pv 2))) (fun _ _ _ _ _ _=>(QO (Qz (i:=0) (show (["camp","held"]:List Str).Nodup by decide +kernel) rfl (Or.inl rfl)))) (fun _ _ _ _ _ _=>QbH) (fun _ _ _ _ _ _=>(Qp c_inside Zr (hr.mono (by decide)) (by rfl) (Qb (Qa 1 (pv 1)) (Qb (Qa 0 (pv 0)) Qf)))))) Qf)))
      (Qj (Zi (WM.tm (QaH (ZB (Qq (Qa 4 (pv 4)))) (Xn (Qq (Qp c_stands Qfy (hr.mono (by decide)) (by rfl) (Qb (Qa 0 (pv 0)) (Qb (Qa 3 (pv 3)) Qf))))))) (Qj (Qcm (i:=2) (pv 2) (Qa 3 (pv 3)) (XN (Qfs PySem.F.plainAttrs_list PySem.F.slot_list_append PySem.F.type_list_append Yr (pv 2) (Xu (Qa 3 (pv 3))))))) QE))))
      (Qj (Qw (Xh XZ (by rfl) T.b_tuple (by kernel_rfl) (Qb (EO.em (XO (X:=(cxOf CX0 P w K mg base QbC "camps" (Qc YV) f cdv A outer s H E).nox) (N':=["camp","holding"]) (nt:=1) (caps:=[1]) (ts:=[0]) (ns:=[1,0]) (ls:=[0]) rfl (XD (N:=QbC) (osc:=(Qc YV)) rfl rfl (by decide +kernel)) (by decide) (Zc _) (im_revL rfl (by rfl) T.b_reversed (Qb (Qa 2 (pv 2)) Qf)) (fun _ _ _ _ _ _=>(QO (Qz (i:=0) (show (["camp","holding"]:List Str).Nodup by decide +kernel) rfl (Or.inl rfl)))) (fun _ _ _ _ _ _=>(QbG (Qq (Qp c_inside Zr (hr.mono (by decide)) (by rfl) (Qb (Qa 1 (pv 1)) (Qb (Qa 0 (pv 0)) Qf)))))) (fun _ _ _ _ _ _=>(Qa 0 (pv 0))))) Qf))))))
noncomputable abbrev XX:Stmt:=top 22
noncomputable def QhA:List Str:=["book","held","sets"]
theorem QjE {P:Program} {w:World} {K:PySem.W.Frag} {mg:Str→Option Value} {base:Heap} {f:Addr} {fd:FuncData} (T:Txt mg) (c_defended:Cal P w K mg base 6 "defended" 2 Zb) (F:Fun K "rounds" "rounds" XX f fd):FnOk P w K mg base CX0 7 f fd ["book"] (spM K 1 Xq):=by
  have sc:FnScope QhA ["book"] (Qc XX):=⟨rfl,rfl,rfl,by decide +kernel,rfl,by decide +kernel,by decide +kernel⟩
  have nd:=sc.nd
  refine fnM (N:=QhA) (k:=6) F sc rfl fun cdv A outer s H E hr => ?_
  exact (Qh (QF (i:=1) nd rfl (Or.inl rfl) Qi)
      (Qh (YU (i:=2) nd rfl (Or.inl rfl) (Xj (Qb (Qa 1 (pv 1)) Qf)))
      (Qh (Qea 1000 PassesOwn.never (QG (Qdo hr.units) (Qp c_defended Xb (hr.mono (by decide)) (by rfl) (Qb (Qa 0 (pv 0)) (Qb (Qa 1 (pv 1)) Qf))) (Qa 1 (pv 1)) (QH _)) (Qh (QF (i:=1) nd rfl (Or.inl rfl) (Qp c_defended Xb (hr.mono (by decide)) (by rfl) (Qb (Qa 0 (pv 0)) (Qb (Qa 1 (pv 1)) Qf))))
      (Qj (Qcm (i:=2) (pv 2) (Qa 1 (pv 1)) (XN (Qfs PySem.F.plainAttrs_list PySem.F.slot_list_append PySem.F.type_list_append Yr (pv 2) (Xu (Qa 1 (pv 1)))))))))
      (Qj (Qat 2 (pv 2))))))
noncomputable abbrev Xe:Stmt:=top 23
noncomputable def Qfo:List Str:=["sets","guess","number","held"]
theorem QhQ {P:Program} {w:World} {K:PySem.W.Frag} {mg:Str→Option Value} {base:Heap} {f:Addr} {fd:FuncData} (T:Txt mg) (c_inside:Cal P w K mg base 1 "inside" 2 QP) (F:Fun K "rank_in" "rank_in" Xe f fd):FnOk P w K mg base CX0 2 f fd ["sets","guess"] (spM K 2 YN):=by
  have sc:FnScope Qfo ["sets","guess"] (Qc Xe):=⟨rfl,rfl,rfl,by decide +kernel,rfl,by decide +kernel,by decide +kernel⟩
  have nd:=sc.nd
  refine fnM (N:=Qfo) (k:=1) F sc rfl fun cdv A outer s H E hr => ?_
  exact (Qh (Qad PassesOwn.never rfl (im_enumL rfl (by rfl) T.b_enumerate (Qb (Qa 0 (pv 0)) Qf)) (QbA (Qdu rfl (ZO (Qz (i:=2) nd rfl (Or.inl rfl)) (ZO (Qz (i:=3) nd rfl (Or.inl rfl)) Qbx)))) (Qj (Zi (Qq (Qp c_inside Zr (hr.mono (by decide)) (by rfl) (Qb (Qr QaJ Qi (Qa 1 (pv 1))) (Qb (Qa 3 (pv 3)) Qf)))) (Qj (Qat 2 (pv 2))) QE)))
      (Qj (Qw QeI)))
noncomputable abbrev YM:Stmt:=top 24
noncomputable def QcT:List Str:=["book","sets","ranks"]
theorem QhP {P:Program} {w:World} {K:PySem.W.Frag} {mg:Str→Option Value} {base:Heap} {f:Addr} {fd:FuncData} (T:Txt mg) (c_rounds:Cal P w K mg base 7 "rounds" 1 Xq) (c_rank_in:Cal P w K mg base 2 "rank_in" 2 YN) (F:Fun K "settled" "settled" YM f fd):FnOk P w K mg base CX0 8 f fd ["book"] (spM K 1 Yi):=by
  have sc:FnScope QcT ["book"] (Qc YM):=⟨rfl,rfl,rfl,by decide +kernel,rfl,by decide +kernel,by decide +kernel⟩
  have nd:=sc.nd
  refine fnM (N:=QcT) (k:=7) F sc rfl fun cdv A outer s H E hr => ?_
  exact (Qh (QF (i:=1) nd rfl (Or.inr rfl) (Qp c_rounds Qfz (hr.mono (by decide)) (by rfl) (Qb (Qa 0 (pv 0)) Qf)))
      (Qh (ZZ (i:=2) nd rfl rfl (N':=["guess","sets"]) (nt:=1) (caps:=[1]) (ts:=[0]) (ns:=[]) (ls:=[1,0]) rfl (XD (N:=QcT) (osc:=(Qc YM)) rfl rfl (by decide +kernel)) (by decide) (Zc _) (XS (by rfl) T.b_range (Qb (Za Yw (by rfl) T.b_len PySem.boot_len (Qb (QY QX (Qa 0 (pv 0)) Qi (fun _ _=>rfl)) Qf)) Qf)) (fun _ _ _ _ _ _=>(QO (Qz (i:=0) (show (["guess","sets"]:List Str).Nodup by decide +kernel) rfl (Or.inl rfl)))) (fun _ _ _ _ _ _=>QbH) (fun _ _ _ _ _ _=>(Qp c_rank_in Qeu (hr.mono (by decide)) (by rfl) (Qb (Qa 1 (pv 1)) (Qb (Qa 0 (pv 0)) Qf)))))
      (Qj (Qw (ZH (Qb (QY QX (Qa 1 (pv 1)) (Qgi Qi) (fun _ _=>rfl)) (Qb (Xh XZ (by rfl) T.b_tuple (by kernel_rfl) (Qb (Qa 2 (pv 2)) Qf)) Qf)))))))
noncomputable abbrev YT:Stmt:=top 2
noncomputable def QcB:List Str:=["mask"]
theorem QjF {P:Program} {w:World} {K:PySem.W.Frag} {mg:Str→Option Value} {base:Heap} {f:Addr} {fd:FuncData} (T:Txt mg)  (F:Fun K "places" "places" YT f fd):FnOk P w K mg base CX0 1 f fd ["mask"] (spM K 1 Xr):=by
  have sc:FnScope QcB ["mask"] (Qc YT):=⟨rfl,rfl,rfl,by decide +kernel,rfl,by decide +kernel,by decide +kernel⟩
  have nd:=sc.nd
  refine fnM (N:=QcB) (k:=0) F sc rfl fun cdv A outer s H E hr => ?_
  exact (Qj (sm_retO (XO (X:=(cxOf CX0 P w K mg base QcB "places" (Qc YT) f cdv A outer s H E).nox) (N':=["k","mask"]) (nt:=1) (caps:=[0]) (ts:=[0]) (ns:=[1,0]) (ls:=[0]) rfl (XD (N:=QcB) (osc:=(Qc YT)) rfl rfl (by decide +kernel)) (by decide) (Zc _) (XS (by rfl) T.b_range (Qb (em_bits (Qa 0 (pv 0))) Qf)) (fun _ _ _ _ _ _=>(QO (Qz (i:=0) (show (["k","mask"]:List Str).Nodup by decide +kernel) rfl (Or.inl rfl)))) (fun _ _ _ _ _ _=>(QbG (Qq (Qr QbF (Qr QiB (Qa 1 (pv 1)) (Qa 0 (pv 0))) Qi)))) (fun _ _ _ _ _ _=>(Qa 0 (pv 0))))))
noncomputable abbrev Yb:Stmt:=top 11
noncomputable def Qch:List Str:=["book","held","word"]
theorem Qev {P:Program} {w:World} {K:PySem.W.Frag} {mg:Str→Option Value} {base:Heap} {f:Addr} {fd:FuncData} (T:Txt mg) (c_inside:Cal P w K mg base 1 "inside" 2 QP) (c_yielded:Cal P w K mg base 3 "yielded" 2 Yh) (F:Fun K "does_yield" "does_yield" Yb f fd):FnOk P w K mg base CX0 4 f fd ["book","held","word"] (spM K 3 Zs):=by
  have sc:FnScope Qch ["book","held","word"] (Qc Yb):=⟨rfl,rfl,rfl,by decide +kernel,rfl,by decide +kernel,by decide +kernel⟩
  have nd:=sc.nd
  refine fnM (N:=Qch) (k:=3) F sc rfl fun cdv A outer s H E hr => ?_
  exact (Qj (Qw (Qp c_inside Zr (hr.mono (by decide)) (by rfl) (Qb (Qr QaJ Qi (Qa 2 (pv 2))) (Qb (Qp c_yielded Qbj (hr.mono (by decide)) (by rfl) (Qb (Qa 0 (pv 0)) (Qb (Qa 1 (pv 1)) Qf))) Qf)))))
noncomputable abbrev YJ:Stmt:=top 12
noncomputable def QdT:List Str:=["book","within","word","reason","guess","smaller"]
theorem Qgy {P:Program} {w:World} {K:PySem.W.Frag} {mg:Str→Option Value} {base:Heap} {f:Addr} {fd:FuncData} (T:Txt mg) (c_places:Cal P w K mg base 1 "places" 1 Xr) (c_does_yield:Cal P w K mg base 4 "does_yield" 3 Zs) (F:Fun K "a_reason" "a_reason" YJ f fd):FnOk P w K mg base CX0 5 f fd ["book","within","word"] (spM K 3 QM):=by
  have sc:FnScope QdT ["book","within","word"] (Qc YJ):=⟨rfl,rfl,rfl,by decide +kernel,rfl,by decide +kernel,by decide +kernel⟩
  have nd:=sc.nd
  refine fnM (N:=QdT) (k:=4) F sc rfl fun cdv A outer s H E hr => ?_
  exact (Qh (Zi (ZB (Qq (Qp c_does_yield XF (hr.mono (by decide)) (by rfl) (Qb (Qa 0 (pv 0)) (Qb (Qa 1 (pv 1)) (Qb (Qa 2 (pv 2)) Qf)))))) (Qj (Qw QeI)) QE)
      (Qh (QF (i:=3) nd rfl (Or.inl rfl) (Qa 1 (pv 1)))
      (Qh (Qad PassesOwn.never rfl (XB (Qp c_places QfA (hr.mono (by decide)) (by rfl) (Qb (Qa 1 (pv 1)) Qf))) (QO (Qz (i:=4) nd rfl (Or.inl rfl))) (Qh (QF (i:=5) nd rfl (Or.inl rfl) (Qr QbF (Qa 3 (pv 3)) (em_inv (Qr QaJ Qi (Qa 4 (pv 4))))))
      (Qj (Zi (Qq (Qp c_does_yield XF (hr.mono (by decide)) (by rfl) (Qb (Qa 0 (pv 0)) (Qb (Qa 5 (pv 5)) (Qb (Qa 2 (pv 2)) Qf))))) (Qj (QF (i:=3) nd rfl (Or.inl rfl) (Qa 5 (pv 5)))) QE))))
      (Qj (Qat 3 (pv 3))))))
noncomputable abbrev Zz:Stmt:=ZG (top 26) 0
noncomputable def QaG:List Str:=["self","word","name"]
theorem Yj {P:Program} {w:World} {K:PySem.W.Frag} {mg:Str→Option Value} {base:Heap} {f:Addr} {fd:FuncData} (T:Txt mg) {D:Addr} (W:TFld K D)  (F:Fun K "__init__" "Lot.__init__" Zz f fd):FnOk P w K mg base CX0 1 f fd ["self","word","name"] (spX K (ObjG K D "-") 3 Qs):=by
  have sc:FnScope QaG ["self","word","name"] (Qc Zz):=⟨rfl,rfl,rfl,by decide +kernel,rfl,by decide +kernel,by decide +kernel⟩
  have nd:=sc.nd
  refine fnX (N:=QaG) (k:=0) F sc rfl fun cdv A outer s H E hr => ?_
  exact (Qbv (Qfq (pv 0) W.fl_word (Qa 1 (pv 1)))
      (QeC (Qfq (pv 0) W.fl_name (Qa 2 (pv 2)))))
noncomputable abbrev Zf:Stmt:=ZG (top 29) 0
noncomputable def XL:List Str:=["self","word","camp","reason","other"]
theorem QbX {P:Program} {w:World} {K:PySem.W.Frag} {mg:Str→Option Value} {base:Heap} {f:Addr} {fd:FuncData} (T:Txt mg) {D:Addr} (W:TFld K D) (c_Lot___init__:CalB P w K mg base 1 D "-" "Lot" "__init__" 3 Qs) (F:Fun K "__init__" "Maybe.__init__" Zf f fd):FnOk P w K mg base CX0 3 f fd ["self","word","camp","reason","other"] (spX K (ObjG K D "-") 5 QU):=by
  have sc:FnScope XL ["self","word","camp","reason","other"] (Qc Zf):=⟨rfl,rfl,rfl,by decide +kernel,rfl,by decide +kernel,by decide +kernel⟩
  have nd:=sc.nd
  refine fnX (N:=XL) (k:=2) F sc rfl fun cdv A outer s H E hr => ?_
  exact (Qbv (Qkn c_Lot___init__ ZC (hr.mono (by decide)) (by rfl) (Qb (Qa 0 (pv 0)) (Qb (Qa 1 (pv 1)) (Qgm Qf))))
      (Qbv (Qfq (pv 0) W.fl_camp (Qa 2 (pv 2)))
      (Qbv (Qfq (pv 0) W.fl_reason (Qa 3 (pv 3)))
      (QeC (Qfq (pv 0) W.fl_other (Qa 4 (pv 4)))))))
noncomputable abbrev QQ:Stmt:=ZG (top 27) 0
noncomputable def YZ:List Str:=["self","word","reason"]
theorem QaU {P:Program} {w:World} {K:PySem.W.Frag} {mg:Str→Option Value} {base:Heap} {f:Addr} {fd:FuncData} (T:Txt mg) {D:Addr} (W:TFld K D) (c_Lot___init__:CalB P w K mg base 1 D "-" "Lot" "__init__" 3 Qs) (F:Fun K "__init__" "Settled.__init__" QQ f fd):FnOk P w K mg base CX0 3 f fd ["self","word","reason"] (spX K (ObjG K D "-") 3 QJ):=by
  have sc:FnScope YZ ["self","word","reason"] (Qc QQ):=⟨rfl,rfl,rfl,by decide +kernel,rfl,by decide +kernel,by decide +kernel⟩
  have nd:=sc.nd
  refine fnX (N:=YZ) (k:=2) F sc rfl fun cdv A outer s H E hr => ?_
  exact (Qbv (Qkn c_Lot___init__ ZC (hr.mono (by decide)) (by rfl) (Qb (Qa 0 (pv 0)) (Qb (Qa 1 (pv 1)) (Qgm Qf))))
      (QeC (Qfq (pv 0) W.fl_reason (Qa 2 (pv 2)))))
noncomputable abbrev Zp:Stmt:=ZG (top 28) 0
noncomputable def Qai:List Str:=["self","word","pairs"]
theorem QcE {P:Program} {w:World} {K:PySem.W.Frag} {mg:Str→Option Value} {base:Heap} {f:Addr} {fd:FuncData} (T:Txt mg) {D:Addr} (W:TFld K D) (c_Lot___init__:CalB P w K mg base 1 D "-" "Lot" "__init__" 3 Qs) (F:Fun K "__init__" "Sure.__init__" Zp f fd):FnOk P w K mg base CX0 3 f fd ["self","word","pairs"] (spX K (ObjG K D "-") 3 QZ):=by
  have sc:FnScope Qai ["self","word","pairs"] (Qc Zp):=⟨rfl,rfl,rfl,by decide +kernel,rfl,by decide +kernel,by decide +kernel⟩
  have nd:=sc.nd
  refine fnX (N:=Qai) (k:=2) F sc rfl fun cdv A outer s H E hr => ?_
  exact (Qbv (Qkn c_Lot___init__ ZC (hr.mono (by decide)) (by rfl) (Qb (Qa 0 (pv 0)) (Qb (Qa 1 (pv 1)) (Qgm Qf))))
      (QeC (Qfq (pv 0) W.fl_pairs (Qa 2 (pv 2)))))
noncomputable abbrev Ze:Stmt:=ZG (top 30) 0
noncomputable def XJ:List Str:=["self","word"]
theorem QbW {P:Program} {w:World} {K:PySem.W.Frag} {mg:Str→Option Value} {base:Heap} {f:Addr} {fd:FuncData} (T:Txt mg) {D:Addr} (W:TFld K D) (c_Lot___init__:CalB P w K mg base 1 D "-" "Lot" "__init__" 3 Qs) (F:Fun K "__init__" "Never.__init__" Ze f fd):FnOk P w K mg base CX0 3 f fd ["self","word"] (spX K (ObjG K D "-") 2 QT):=by
  have sc:FnScope XJ ["self","word"] (Qc Ze):=⟨rfl,rfl,rfl,by decide +kernel,rfl,by decide +kernel,by decide +kernel⟩
  have nd:=sc.nd
  refine fnX (N:=XJ) (k:=2) F sc rfl fun cdv A outer s H E hr => ?_
  exact (QeC (Qkn c_Lot___init__ ZC (hr.mono (by decide)) (by rfl) (Qb (Qa 0 (pv 0)) (Qb (Qa 1 (pv 1)) (Qgm Qf)))))
noncomputable abbrev Qdm:Stmt:=top 31
noncomputable def Qiw:List Str:=["book","word","reason","pairs","yielding","others"]
theorem ok_lot {P:Program} {w:World} {K:PySem.W.Frag} {mg:Str→Option Value} {base:Heap} {f:Addr} {fd:FuncData} (T:Txt mg) {C:Nat→Addr} (W:WFam K mg C) (c_camps:CalD P w K mg base 8 "camps" 2 0 Xo) (c_settled:Cal P w K mg base 8 "settled" 1 Yi) (c_a_reason:Cal P w K mg base 5 "a_reason" 3 QM) (c_Maybe___init__:Qds P w K mg base 3 (C 3) "-" "Maybe" 5 QU) (c_Settled___init__:Qds P w K mg base 3 (C 1) "-" "Settled" 3 QJ) (c_Sure___init__:Qds P w K mg base 3 (C 2) "-" "Sure" 3 QZ) (c_Never___init__:Qds P w K mg base 3 (C 4) "-" "Never" 2 QT) (F:Fun K "lot" "lot" Qdm f fd):FnOk P w K mg base CX0 9 f fd ["book","word"] (spM K 2 (Qfr C)):=by
  have sc:FnScope Qiw ["book","word"] (Qc Qdm):=⟨rfl,rfl,rfl,by decide +kernel,rfl,by decide +kernel,by decide +kernel⟩
  have nd:=sc.nd
  refine fnM (N:=Qiw) (k:=8) F sc rfl fun cdv A outer s H E hr => ?_
  exact (Qh (QF (i:=2) nd rfl (Or.inl rfl) (Qp c_a_reason Qaz (hr.mono (by decide)) (by rfl) (Qb (Qa 0 (pv 0)) (Qb (QY QX (Qp c_settled Qbk (hr.mono (by decide)) (by rfl) (Qb (Qa 0 (pv 0)) Qf)) Qi (fun _ _=>rfl)) (Qb (Qa 1 (pv 1)) Qf)))))
      (Qh (Zi (QG QgX (Qa 2 (pv 2)) QeI (QH _)) (Qj (Qw (Qgh c_Settled___init__ XR (hr.mono (by decide)) (by rfl) (Qb (Qa 1 (pv 1)) (Qb (Qa 2 (pv 2)) Qf))))) QE)
      (Qh (ZZ (i:=3) nd rfl rfl (N':=["camp","book","word"]) (nt:=1) (caps:=[0,1]) (ts:=[0]) (ns:=[]) (ls:=[0,1,0,2]) rfl (XD (N:=Qiw) (osc:=(Qc Qdm)) rfl rfl (by decide +kernel)) (by decide) (Zc _) (Qdy (Qjg c_camps QcU (hr.mono (by decide)) (by rfl) (Qb (Qa 0 (pv 0)) Qf))) (fun _ _ _ _ _ _=>(QO (Qz (i:=0) (show (["camp","book","word"]:List Str).Nodup by decide +kernel) rfl (Or.inl rfl)))) (fun _ _ _ _ _ _=>QbH) (fun _ _ _ _ _ _=>(ZH (Qb (Qa 0 (pv 0)) (Qb (Qp c_a_reason Qaz (hr.mono (by decide)) (by rfl) (Qb (Qa 1 (pv 1)) (Qb (Qa 0 (pv 0)) (Qb (Qa 2 (pv 2)) Qf)))) Qf)))))
      (Qh (ZZ (i:=4) nd rfl rfl (N':=["pair"]) (nt:=1) (caps:=[]) (ts:=[0]) (ns:=([0]++[])) (ls:=[0]) rfl (XD (N:=Qiw) (osc:=(Qc Qdm)) rfl rfl (by decide +kernel)) (by decide) (Zc _) (XB (Qa 3 (pv 3))) (fun _ _ _ _ _ _=>(QO (Qz (i:=0) (show (["pair"]:List Str).Nodup by decide +kernel) rfl (Or.inl rfl)))) (fun _ _ _ _ _ _=>(QbG (QG QgX (QY QX (Qa 0 (pv 0)) Qi (fun _ _=>rfl)) QeI (QH _)))) (fun _ _ _ _ _ _=>(Qa 0 (pv 0))))
      (Qh (ZZ (i:=5) nd rfl rfl (N':=["pair"]) (nt:=1) (caps:=[]) (ts:=[0]) (ns:=([0]++[])) (ls:=[0]) rfl (XD (N:=Qiw) (osc:=(Qc Qdm)) rfl rfl (by decide +kernel)) (by decide) (Zc _) (XB (Qa 3 (pv 3))) (fun _ _ _ _ _ _=>(QO (Qz (i:=0) (show (["pair"]:List Str).Nodup by decide +kernel) rfl (Or.inl rfl)))) (fun _ _ _ _ _ _=>(QbG (QG om_is (QY QX (Qa 0 (pv 0)) Qi (fun _ _=>rfl)) QeI (QH _)))) (fun _ _ _ _ _ _=>(QY QX (Qa 0 (pv 0)) Qi (fun _ _=>rfl))))
      (Qh (Zi (ZB (Qq (Qa 5 (pv 5)))) (Qj (Qw (Qgh c_Sure___init__ QaT (hr.mono (by decide)) (by rfl) (Qb (Qa 1 (pv 1)) (Qb (Xh XZ (by rfl) T.b_tuple (by kernel_rfl) (Qb (Qa 4 (pv 4)) Qf)) Qf))))) QE)
      (Qh (Zi (ZB (Qq (Qa 4 (pv 4)))) (Qj (Qw (Qgh c_Never___init__ Qaw (hr.mono (by decide)) (by rfl) (Qb (Qa 1 (pv 1)) Qf)))) QE)
      (Qj (Qw (Qgh c_Maybe___init__ Qax (hr.mono (by decide)) (by rfl) (Qb (Qa 1 (pv 1)) (Qb (QY QX (QY QX (Qa 4 (pv 4)) Qi (fun _ _=>rfl)) Qi (fun _ _=>rfl)) (Qb (QY QX (QY QX (Qa 4 (pv 4)) Qi (fun _ _=>rfl)) Qi (fun _ _=>rfl)) (Qb (QY QX (Qa 5 (pv 5)) Qi (fun _ _=>rfl)) Qf))))))))))))))
noncomputable abbrev QK:Stmt:=top 39
noncomputable def ZK:List Str:=["book","held","words","grown","head","body"]
theorem QdE {P:Program} {w:World} {K:PySem.W.Frag} {mg:Str→Option Value} {base:Heap} {f:Addr} {fd:FuncData} (T:Txt mg)  (F:Fun K "_law_closed" "_law_closed" QK f fd):FnOk P w K mg base CX0 1 f fd ["book","held"] (spM K 2 QA):=by
  have sc:FnScope ZK ["book","held"] (Qc QK):=⟨rfl,rfl,rfl,by decide +kernel,rfl,by decide +kernel,by decide +kernel⟩
  have nd:=sc.nd
  refine fnM (N:=ZK) (k:=0) F sc rfl fun cdv A outer s H E hr => ?_
  exact (Qh (YU (i:=2) nd rfl (Or.inr rfl) (XO (X:=(cxOf CX0 P w K mg base ZK "_law_closed" (Qc QK) f cdv A outer s H E).nox) (N':=["k","book","held"]) (nt:=1) (caps:=[0,1]) (ts:=[0]) (ns:=[]) (ls:=[0,1,2,0]) rfl (XD (N:=ZK) (osc:=(Qc QK)) rfl rfl (by decide +kernel)) (by decide) (Zc _) (XS (by rfl) T.b_range (Qb (QY QX (Qa 0 (pv 0)) Qi (fun _ _=>rfl)) Qf)) (fun _ _ _ _ _ _=>(QO (Qz (i:=0) (show (["k","book","held"]:List Str).Nodup by decide +kernel) rfl (Or.inl rfl)))) (fun _ _ _ _ _ _=>QbH) (fun _ _ _ _ _ _=>(QiG (Qgj Qfu (Qa 0 (pv 0)) (Za Yw (by rfl) T.b_len PySem.boot_len (Qb (QY QX (Qa 1 (pv 1)) Qi (fun _ _=>rfl)) Qf)) (QH _)) (QiF (Qgj (QaO (by exact hr.units)) (Qr QbF (Qr QiB (Qa 2 (pv 2)) (Qa 0 (pv 0))) Qi) Qi (QH _)))))))
      (Qh (QF (i:=3) nd rfl (Or.inl rfl) Ym)
      (Qh (Qea 1000 PassesOwn.never (Qq (Qa 3 (pv 3))) (Qh (QF (i:=3) nd rfl (Or.inl rfl) Ym)
      (Qj (Qad PassesOwn.never rfl (Qdy (QY QX (Qa 0 (pv 0)) Qi (fun _ _=>rfl))) (QbA (Qdu rfl (ZO (Qz (i:=4) nd rfl (Or.inl rfl)) (ZO (Qz (i:=5) nd rfl (Or.inl rfl)) Qbx)))) (Qj (Zi (WM.tm (QaH (ZB (Qq (QY QX (Qa 2 (pv 2)) (Qa 4 (pv 4)) (fun _ _=>rfl)))) (Xn (QG (QaO hr.units) (Za Yw (by rfl) T.b_len PySem.boot_len (Qb (EO.em (XO (X:=(cxOf CX0 P w K mg base ZK "_law_closed" (Qc QK) f cdv A outer s H E).nox) (N':=["word","words"]) (nt:=1) (caps:=[2]) (ts:=[0]) (ns:=[1,0]) (ls:=[0]) rfl (XD (N:=ZK) (osc:=(Qc QK)) rfl rfl (by decide +kernel)) (by decide) (Zc _) (Qdy (Qa 5 (pv 5))) (fun _ _ _ _ _ _=>(QO (Qz (i:=0) (show (["word","words"]:List Str).Nodup by decide +kernel) rfl (Or.inl rfl)))) (fun _ _ _ _ _ _=>(QbG (Qq (QY QX (Qa 1 (pv 1)) (Qa 0 (pv 0)) (fun _ _=>rfl))))) (fun _ _ _ _ _ _=>(Qa 0 (pv 0))))) Qf)) (Za Yw (by rfl) T.b_len PySem.boot_len (Qb (Qa 5 (pv 5)) Qf)) (QH _))))) (Qh (QgP (i:=2) (pv 2) Ym (Qa 4 (pv 4)))
      (Qj (QF (i:=3) nd rfl (Or.inl rfl) Ym))) QE))))))
      (Qj (Qat 2 (pv 2))))))
noncomputable abbrev YK:Stmt:=top 42
noncomputable def QdU:List Str:=["book","word","held","good","some"]
theorem Qgz {P:Program} {w:World} {K:PySem.W.Frag} {mg:Str→Option Value} {base:Heap} {f:Addr} {fd:FuncData} (T:Txt mg) (c__law_closed:Cal P w K mg base 1 "_law_closed" 2 QA) (F:Fun K "_law_due" "_law_due" YK f fd):FnOk P w K mg base CX0 2 f fd ["book","word","held","good","some"] (spM K 5 ZF):=by
  have sc:FnScope QdU ["book","word","held","good","some"] (Qc YK):=⟨rfl,rfl,rfl,by decide +kernel,rfl,by decide +kernel,by decide +kernel⟩
  have nd:=sc.nd
  refine fnM (N:=QdU) (k:=1) F sc rfl fun cdv A outer s H E hr => ?_
  exact (Qh (Zi (Qq (QY QX (Qp c__law_closed Zw (hr.mono (by decide)) (by rfl) (Qb (Qa 0 (pv 0)) (Qb (Qa 2 (pv 2)) Qf))) (Qa 1 (pv 1)) (fun _ _=>rfl))) (Qj (Qw QaM)) QE)
      (Qh (Zi (QG (QaO hr.units) (Za Yw (by rfl) T.b_len PySem.boot_len (Qb (Qa 3 (pv 3)) Qf)) (Za Yw (by rfl) T.b_len PySem.boot_len (Qb (Qa 4 (pv 4)) Qf)) (QH _)) (Qj (Qw QaM)) QE)
      (Qh (Zi (QG (Qdo hr.units) (Qa 3 (pv 3)) (EO.em (Xj Qf)) (QH _)) (Qj (Qw QaM)) QE)
      (Qj (Qw QaM)))))
noncomputable abbrev Ye:Stmt:=ZG (top 26) 1
noncomputable def Qck:List Str:=["self"]
theorem YD {P:Program} {w:World} {K:PySem.W.Frag} {mg:Str→Option Value} {base:Heap} {f:Addr} {fd:FuncData} (T:Txt mg) {C:Nat→Addr} (W:WFam K mg C)  (F:Fun K "called" "Lot.called" Ye f fd):FnOk P w K mg base CX0 1 f fd ["self"] (spM K 1 (Ql C)):=by
  have sc:FnScope Qck ["self"] (Qc Ye):=⟨rfl,rfl,rfl,by decide +kernel,rfl,by decide +kernel,by decide +kernel⟩
  have nd:=sc.nd
  refine fnM (N:=Qck) (k:=0) F sc rfl fun cdv A outer s H E hr => ?_
  exact (Qj (Qw (Ys (Qa 0 (pv 0)) (fun D h=>(W.fl D h).fl_name))))
noncomputable abbrev Yc:Stmt:=top 34
noncomputable def Qci:List Str:=["found"]
theorem Qew {P:Program} {w:World} {K:PySem.W.Frag} {mg:Str→Option Value} {base:Heap} {f:Addr} {fd:FuncData} (T:Txt mg)  (F:Fun K "_law_whole" "_law_whole" Yc f fd):FnOk P w K mg base CX0 1 f fd ["found"] (spM K 1 QB):=by
  have sc:FnScope Qci ["found"] (Qc Yc):=⟨rfl,rfl,rfl,by decide +kernel,rfl,by decide +kernel,by decide +kernel⟩
  have nd:=sc.nd
  refine fnM (N:=Qci) (k:=0) F sc rfl fun cdv A outer s H E hr => ?_
  exact (Qj (Qw (QiG (YO (x := "int") isi_int (Qa 0 (pv 0)) (by rfl) T.b_isinstance (by rfl) T.b_int (by kernel_rfl)) (QiF (em_not (YO (x := "bool") isi_bl (Qa 0 (pv 0)) (by rfl) T.b_isinstance (by rfl) T.b_bool (by kernel_rfl)))))))
noncomputable abbrev ZJ:Stmt:=top 40
noncomputable def Qbr:List Str:=["book","within","word","found","guess"]
theorem QdD {P:Program} {w:World} {K:PySem.W.Frag} {mg:Str→Option Value} {base:Heap} {f:Addr} {fd:FuncData} (T:Txt mg) (c__law_closed:Cal P w K mg base 1 "_law_closed" 2 QA) (c__law_whole:Cal P w K mg base 1 "_law_whole" 1 QB) (F:Fun K "_law_reason" "_law_reason" ZJ f fd):FnOk P w K mg base CX0 2 f fd ["book","within","word","found"] (spM K 4 QD):=by
  have sc:FnScope Qbr ["book","within","word","found"] (Qc ZJ):=⟨rfl,rfl,rfl,by decide +kernel,rfl,by decide +kernel,by decide +kernel⟩
  have nd:=sc.nd
  refine fnM (N:=Qbr) (k:=1) F sc rfl fun cdv A outer s H E hr => ?_
  exact (Qh (Zi (WM.tm (Xa (ZB (Qq (Qp c__law_whole Zg (hr.mono (by decide)) (by rfl) (Qb (Qa 3 (pv 3)) Qf)))) (Xa (QG Qfu (Qa 3 (pv 3)) Qi (QH _)) (Xi (QG (Qdo hr.units) (Qr QbF (Qa 3 (pv 3)) (Qa 1 (pv 1))) (Qa 3 (pv 3)) (QH _)))))) (Qj (Qw Ym)) QE)
      (Qh (Zi (ZB (Qq (QY QX (Qp c__law_closed Zw (hr.mono (by decide)) (by rfl) (Qb (Qa 0 (pv 0)) (Qb (Qa 3 (pv 3)) Qf))) (Qa 2 (pv 2)) (fun _ _=>rfl)))) (Qj (Qw Ym)) QE)
      (Qh (QdW PassesOwn.never rfl (QbM (by rfl) T.b_range (Qb (Za Yw (by rfl) T.b_len PySem.boot_len (Qb (QY QX (Qa 0 (pv 0)) Qi (fun _ _=>rfl)) Qf)) Qf)) (QO (Qz (i:=4) nd rfl (Or.inl rfl))) (Qj (Zi (WM.tm (QaH (QG (QaO hr.units) (Qr QbF (Qr QiB (Qa 3 (pv 3)) (Qa 4 (pv 4))) Qi) Qi (QH _)) (Xn (Qq (QY QX (Qp c__law_closed Zw (hr.mono (by decide)) (by rfl) (Qb (Qa 0 (pv 0)) (Qb (Qr Qgc (Qa 3 (pv 3)) (Qr QaJ Qi (Qa 4 (pv 4)))) Qf))) (Qa 2 (pv 2)) (fun _ _=>rfl)))))) (Qj (Qw Ym)) QE)))
      (Qj (Qw Ym)))))
noncomputable abbrev Yp:Stmt:=top 41
noncomputable def Qde:List Str:=["book","word","found","some","pair","camp"]
theorem QfB {P:Program} {w:World} {K:PySem.W.Frag} {mg:Str→Option Value} {base:Heap} {f:Addr} {fd:FuncData} (T:Txt mg) (c__law_whole:Cal P w K mg base 1 "_law_whole" 1 QB) (c__law_reason:Cal P w K mg base 2 "_law_reason" 4 QD) (F:Fun K "_law_sure" "_law_sure" Yp f fd):FnOk P w K mg base CX0 3 f fd ["book","word","found","some"] (spM K 4 ZV):=by
  have sc:FnScope Qde ["book","word","found","some"] (Qc Yp):=⟨rfl,rfl,rfl,by decide +kernel,rfl,by decide +kernel,by decide +kernel⟩
  have nd:=sc.nd
  refine fnM (N:=Qde) (k:=2) F sc rfl fun cdv A outer s H E hr => ?_
  exact (Qh (Zi (WM.tm (Xa (ZB (Qq (YO (x := "tuple") QdX (Qa 2 (pv 2)) (by rfl) T.b_isinstance (by rfl) T.b_tuple (by kernel_rfl)))) (Xi (QG (Qdo hr.units) (Za Yw (by rfl) T.b_len PySem.boot_len (Qb (Qa 2 (pv 2)) Qf)) (Za Yw (by rfl) T.b_len PySem.boot_len (Qb (Qa 3 (pv 3)) Qf)) (QH _))))) (Qj (Qw Ym)) QE)
      (Qh (Qad PassesOwn.never rfl (im_zipTT rfl (by rfl) T.b_zip (Qb (Qa 2 (pv 2)) (Qb (Qa 3 (pv 3)) Qf))) (QbA (Qdu rfl (ZO (Qz (i:=4) nd rfl (Or.inl rfl)) (ZO (Qz (i:=5) nd rfl (Or.inl rfl)) Qbx)))) (Qh (Zi (WM.tm (Xa (ZB (Qq (YO (x := "tuple") QdX (Qa 4 (pv 4)) (by rfl) T.b_isinstance (by rfl) T.b_tuple (by kernel_rfl)))) (Xa (QG (Qdo hr.units) (Za Yw (by rfl) T.b_len PySem.boot_len (Qb (Qa 4 (pv 4)) Qf)) Qi (QH _)) (Xi (ZB (Qq (Qp c__law_whole Zg (hr.mono (by decide)) (by rfl) (Qb (QY QX (Qa 4 (pv 4)) Qi (fun _ _=>rfl)) Qf)))))))) (Qj (Qw Ym)) QE)
      (Qj (Zi (WM.tm (Xa (QG (Qdo hr.units) (QY QX (Qa 4 (pv 4)) Qi (fun _ _=>rfl)) (Qa 5 (pv 5)) (QH _)) (Xi (ZB (Qq (Qp c__law_reason Yf (hr.mono (by decide)) (by rfl) (Qb (Qa 0 (pv 0)) (Qb (Qa 5 (pv 5)) (Qb (Qa 1 (pv 1)) (Qb (QY QX (Qa 4 (pv 4)) Qi (fun _ _=>rfl)) Qf)))))))))) (Qj (Qw Ym)) QE))))
      (Qj (Qw Ym))))
noncomputable abbrev Zd:Stmt:=top 43
noncomputable def Yu:List Str:=["book","word","held","some","found","good","due","kinds","name"]
theorem Qex {P:Program} {w:World} {K:PySem.W.Frag} {mg:Str→Option Value} {base:Heap} {f:Addr} {fd:FuncData} (T:Txt mg) {C:Nat→Addr} (W:WFam K mg C) (c_lot:Cal P w K mg base 9 "lot" 2 (Qfr C)) (c__law_closed:Cal P w K mg base 1 "_law_closed" 2 QA) (c__law_due:Cal P w K mg base 2 "_law_due" 5 ZF) (c_Lot_called_1:Qdr P w K mg base 1 (C 1) "called" 1 (Ql C)) (c_Lot_called_2:Qdr P w K mg base 1 (C 2) "called" 1 (Ql C)) (c_Lot_called_3:Qdr P w K mg base 1 (C 3) "called" 1 (Ql C)) (c_Lot_called_4:Qdr P w K mg base 1 (C 4) "called" 1 (Ql C)) (c__law_whole:Cal P w K mg base 1 "_law_whole" 1 QB) (c__law_reason:Cal P w K mg base 2 "_law_reason" 4 QD) (c__law_sure:Cal P w K mg base 3 "_law_sure" 4 ZV) (F:Fun K "_law_paper" "_law_paper" Zd f fd):FnOk P w K mg base CX0 10 f fd ["book","word","held","some"] (spM K 4 (ZE C)):=by
  have sc:FnScope Yu ["book","word","held","some"] (Qc Zd):=⟨rfl,rfl,rfl,by decide +kernel,rfl,by decide +kernel,by decide +kernel⟩
  have nd:=sc.nd
  refine fnM (N:=Yu) (k:=9) F sc rfl fun cdv A outer s H E hr => ?_
  exact (Qh (QF (i:=4) nd rfl (Or.inl rfl) (Qp c_lot (Qjx C) (hr.mono (by decide)) (by rfl) (Qb (Qa 0 (pv 0)) (Qb (Qa 1 (pv 1)) Qf))))
      (Qh (ZZ (i:=5) nd rfl rfl (N':=["camp","book","word"]) (nt:=1) (caps:=[0,1]) (ts:=[0]) (ns:=[1,0,2]) (ls:=[0]) rfl (XD (N:=Yu) (osc:=(Qc Zd)) rfl rfl (by decide +kernel)) (by decide) (Zc _) (Qdy (Qa 3 (pv 3))) (fun _ _ _ _ _ _=>(QO (Qz (i:=0) (show (["camp","book","word"]:List Str).Nodup by decide +kernel) rfl (Or.inl rfl)))) (fun _ _ _ _ _ _=>(QbG (Qq (QY QX (Qp c__law_closed Zw (hr.mono (by decide)) (by rfl) (Qb (Qa 1 (pv 1)) (Qb (Qa 0 (pv 0)) Qf))) (Qa 2 (pv 2)) (fun _ _=>rfl))))) (fun _ _ _ _ _ _=>(Qa 0 (pv 0))))
      (Qh (QF (i:=6) nd rfl (Or.inl rfl) (Qp c__law_due QcD (hr.mono (by decide)) (by rfl) (Qb (Qa 0 (pv 0)) (Qb (Qa 1 (pv 1)) (Qb (Qa 2 (pv 2)) (Qb (Qa 5 (pv 5)) (Qb (Qa 3 (pv 3)) Qf)))))))
      (Qh (YU (i:=7) nd rfl (Or.inl rfl) (Xj (Qb (ZH (Qb QaM (Qb (XQ (x := "Settled") W.is_Settled (Qa 4 (pv 4)) (by rfl) T.b_isinstance (by rfl) W.mg_Settled) Qf))) (Qb (ZH (Qb QaM (Qb (XQ (x := "Sure") W.is_Sure (Qa 4 (pv 4)) (by rfl) T.b_isinstance (by rfl) W.mg_Sure) Qf))) Qf))))
      (Qh (YU (i:=7) nd rfl (Or.inl rfl) (Qkt Qgb (Qa 7 (pv 7)) (EO.em (Xj (Qb (ZH (Qb QaM (Qb (XQ (x := "Maybe") W.is_Maybe (Qa 4 (pv 4)) (by rfl) T.b_isinstance (by rfl) W.mg_Maybe) Qf))) (Qb (ZH (Qb QaM (Qb (XQ (x := "Never") W.is_Never (Qa 4 (pv 4)) (by rfl) T.b_isinstance (by rfl) W.mg_Never) Qf))) Qf))))))
      (Qh (Zi (WM.tm (Xa (ZB (Qq (XQ (x := "Lot") W.is_Lot (Qa 4 (pv 4)) (by rfl) T.b_isinstance (by rfl) W.mg_Lot))) (Xi (QG (Qdo hr.units) (EO.em (XO (X:=(cxOf CX0 P w K mg base Yu "_law_paper" (Qc Zd) f cdv A outer s H E).nox) (N':=["name","truth"]) (nt:=2) (caps:=[]) (ts:=[0,1]) (ns:=[1]) (ls:=[0]) rfl (XD (N:=Yu) (osc:=(Qc Zd)) rfl rfl (by decide +kernel)) (by decide) (QdH _ _) (XB (Qa 7 (pv 7))) (fun _ _ _ _ _ _=>(QbA (Qdu rfl (ZO (Qz (i:=0) (show (["name","truth"]:List Str).Nodup by decide +kernel) rfl (Or.inl rfl)) (ZO (Qz (i:=1) (show (["name","truth"]:List Str).Nodup by decide +kernel) rfl (Or.inl rfl)) Qbx))))) (fun _ _ _ _ _ _=>(QbG (Qq (Qa 1 (pv 1))))) (fun _ _ _ _ _ _=>(Qa 0 (pv 0))))) (EO.em (Xj (Qb (Qa 6 (pv 6)) Qf))) (QH _))))) (Qj (Qw Ym)) QE)
      (Qh (QF (i:=8) nd rfl (Or.inl rfl) (Qka (Qa 4 (pv 4)) (QN ⟨⟨_,c_Lot_called_1,hr.mono (by decide)⟩,(ZW C)⟩ (QN ⟨⟨_,c_Lot_called_2,hr.mono (by decide)⟩,(ZW C)⟩ (QN ⟨⟨_,c_Lot_called_3,hr.mono (by decide)⟩,(ZW C)⟩ (QN ⟨⟨_,c_Lot_called_4,hr.mono (by decide)⟩,(ZW C)⟩ Qdw))))))
      (Qh (Zi (WM.tm (Xa (ZB (Qq (YO (x := "str") isi_str (Qa 8 (pv 8)) (by rfl) T.b_isinstance (by rfl) T.b_str (by kernel_rfl)))) (Xa (QG (Qdo hr.units) (Qa 8 (pv 8)) (Qa 6 (pv 6)) (QH _)) (Xa (ZB (Qq (Qp c__law_whole Zg (hr.mono (by decide)) (by rfl) (Qb (Ys (Qa 4 (pv 4)) (fun D h=>(W.fl D h).fl_word)) Qf)))) (Xi (QG (Qdo hr.units) (Ys (Qa 4 (pv 4)) (fun D h=>(W.fl D h).fl_word)) (Qa 1 (pv 1)) (QH _))))))) (Qj (Qw Ym)) QE)
      (Qh (Zi (Qq (XQ (x := "Settled") W.is_Settled (Qa 4 (pv 4)) (by rfl) T.b_isinstance (by rfl) W.mg_Settled)) (Qj (Qw (Qp c__law_reason Yf (hr.mono (by decide)) (by rfl) (Qb (Qa 0 (pv 0)) (Qb (Qa 2 (pv 2)) (Qb (Qa 1 (pv 1)) (Qb (Ys (Qa 4 (pv 4)) (fun D h=>(W.fl D h).fl_reason)) Qf))))))) QE)
      (Qh (Zi (Qq (XQ (x := "Sure") W.is_Sure (Qa 4 (pv 4)) (by rfl) T.b_isinstance (by rfl) W.mg_Sure)) (Qj (Qw (Qp c__law_sure Qdg (hr.mono (by decide)) (by rfl) (Qb (Qa 0 (pv 0)) (Qb (Qa 1 (pv 1)) (Qb (Ys (Qa 4 (pv 4)) (fun D h=>(W.fl D h).fl_pairs)) (Qb (Qa 3 (pv 3)) Qf))))))) QE)
      (Qh (Zi (Qq (XQ (x := "Maybe") W.is_Maybe (Qa 4 (pv 4)) (by rfl) T.b_isinstance (by rfl) W.mg_Maybe)) (Qh (Zi (WM.tm (Xa (ZB (Qq (Qp c__law_whole Zg (hr.mono (by decide)) (by rfl) (Qb (Ys (Qa 4 (pv 4)) (fun D h=>(W.fl D h).fl_camp)) Qf)))) (Xa (ZB (Qq (Qp c__law_whole Zg (hr.mono (by decide)) (by rfl) (Qb (Ys (Qa 4 (pv 4)) (fun D h=>(W.fl D h).fl_other)) Qf)))) (Xi (QG (Qcu hr.units) (Ys (Qa 4 (pv 4)) (fun D h=>(W.fl D h).fl_camp)) (Qa 5 (pv 5)) (by with_unfolding_all rfl)))))) (Qj (Qw Ym)) QE)
      (Qh (Zi (WM.tm (Xa (QG (om_in hr.units) (Ys (Qa 4 (pv 4)) (fun D h=>(W.fl D h).fl_other)) (Qa 5 (pv 5)) (by with_unfolding_all rfl)) (Xi (QG (Qcu hr.units) (Ys (Qa 4 (pv 4)) (fun D h=>(W.fl D h).fl_other)) (Qa 3 (pv 3)) (by with_unfolding_all rfl))))) (Qj (Qw Ym)) QE)
      (Qj (Qw (Qp c__law_reason Yf (hr.mono (by decide)) (by rfl) (Qb (Qa 0 (pv 0)) (Qb (Ys (Qa 4 (pv 4)) (fun D h=>(W.fl D h).fl_camp)) (Qb (Qa 1 (pv 1)) (Qb (Ys (Qa 4 (pv 4)) (fun D h=>(W.fl D h).fl_reason)) Qf))))))))) QE)
      (Qj (Qw Ym)))))))))))))
noncomputable abbrev Qdn:Stmt:=top 44
noncomputable def N_law:List Str:=["script","book","some","told","mask","words","cell","word"]
theorem ok_law {P:Program} {w:World} {K:PySem.W.Frag} {mg:Str→Option Value} {base:Heap} {f:Addr} {fd:FuncData} (T:Txt mg) {C:Nat→Addr} (W:WFam K mg C) (c__law_cell_at:Cal P w K mg base 1 "_law_cell_at" 2 QL) (c__law_book:Cal P w K mg base 3 "_law_book" 1 Zv) (c_camps:CalD P w K mg base 8 "camps" 2 0 Xo) (c_settled:Cal P w K mg base 8 "settled" 1 Yi) (c__law_whole:Cal P w K mg base 1 "_law_whole" 1 QB) (c__law_paper:Cal P w K mg base 10 "_law_paper" 4 (ZE C)) (F:Fun K "law" "law" Qdn f fd):FnOk P w K mg base CX0 11 f fd ["script"] (spM K 1 (Qbc C)):=by
  have sc:FnScope N_law ["script"] (Qc Qdn):=⟨rfl,rfl,rfl,by decide +kernel,rfl,by decide +kernel,by decide +kernel⟩
  have nd:=sc.nd
  refine fnM (N:=N_law) (k:=10) F sc rfl fun cdv A outer s H E hr => ?_
  exact (Qh (QF (i:=1) nd rfl (Or.inl rfl) (Qp c__law_book QbU (hr.mono (by decide)) (by rfl) (Qb (Qa 0 (pv 0)) Qf)))
      (Qh (QF (i:=2) nd rfl (Or.inl rfl) (Qjg c_camps QcU (hr.mono (by decide)) (by rfl) (Qb (Qa 1 (pv 1)) Qf)))
      (Qh (QF (i:=3) nd rfl (Or.inl rfl) (Qp c_settled Qbk (hr.mono (by decide)) (by rfl) (Qb (Qa 1 (pv 1)) Qf)))
      (Qh (Zi (WM.tm (Xa (ZB (Qq (YO (x := "tuple") QdX (Qa 2 (pv 2)) (by rfl) T.b_isinstance (by rfl) T.b_tuple (by kernel_rfl)))) (Xa (QG (QaO hr.units) (Qa 2 (pv 2)) (ZH Qf) (QH _)) (Xi (ZB (Qq (YO (x := "tuple") QdX (Qa 3 (pv 3)) (by rfl) T.b_isinstance (by rfl) T.b_tuple (by kernel_rfl)))))))) (Qj (Qw Ym)) QE)
      (Qh (Qad PassesOwn.never rfl (XB (EO.em (Qkt Qgb (EO.em (Xj (Qb (QY QX (Qa 3 (pv 3)) Qi (fun _ _=>rfl)) Qf))) (EO.em (QjY co_list (by rfl) T.b_list (by kernel_rfl) (Qb (Qa 2 (pv 2)) Qf)))))) (QO (Qz (i:=4) nd rfl (Or.inl rfl))) (Qj (Zi (WM.tm (Xa (ZB (Qq (Qp c__law_whole Zg (hr.mono (by decide)) (by rfl) (Qb (Qa 4 (pv 4)) Qf)))) (Xi (ZB (tm_chain om_le Qfu Qi (Qa 4 (pv 4)) (Qr QaJ Qi (Za Yw (by rfl) T.b_len PySem.boot_len (Qb (QY QX (Qa 1 (pv 1)) Qi (fun _ _=>rfl)) Qf)))))))) (Qj (Qw Ym)) QE)))
      (Qh (YU (i:=5) nd rfl (Or.inl rfl) (Xj Qf))
      (Qh (Qad PassesOwn.never rfl (XB (EO.em (Qkt Qgb (EO.em (Xj (Qb (Qr Xz Qi (Za Yw (by rfl) T.b_len PySem.boot_len (Qb (QY QX (Qa 1 (pv 1)) Qi (fun _ _=>rfl)) Qf))) (Qb (Qp c__law_cell_at YX (hr.mono (by decide)) (by rfl) (Qb (Qa 0 (pv 0)) (Xl Qf))) Qf)))) (EO.em (eo_cut (Qa 0 (pv 0)) (QfM (Qgi Qi)) om_none))))) (QO (Qz (i:=6) nd rfl (Or.inl rfl))) (Qj (Zi (WM.tm (QaH (QG Qit (QY QX (Qa 1 (pv 1)) Qi (fun _ _=>rfl)) Qi (QH _)) (Xn (QG (Qcu hr.units) (Qr ZN (Qa 6 (pv 6)) (QY QX (Qa 1 (pv 1)) Qi (fun _ _=>rfl))) (Qa 5 (pv 5)) (by with_unfolding_all rfl))))) (Qj (Qcm (i:=5) (pv 5) (Qr ZN (Qa 6 (pv 6)) (QY QX (Qa 1 (pv 1)) Qi (fun _ _=>rfl))) (XN (Qfs PySem.F.plainAttrs_list PySem.F.slot_list_append PySem.F.type_list_append Yr (pv 5) (Xu (Qr ZN (Qa 6 (pv 6)) (QY QX (Qa 1 (pv 1)) Qi (fun _ _=>rfl)))))))) QE)))
      (Qh (Qad PassesOwn.never rfl (XB (Qa 5 (pv 5))) (QO (Qz (i:=7) nd rfl (Or.inl rfl))) (Qj (Zi (ZB (Qq (Qp c__law_paper (QcC C) (hr.mono (by decide)) (by rfl) (Qb (Qa 1 (pv 1)) (Qb (Qa 7 (pv 7)) (Qb (QY QX (Qa 3 (pv 3)) Qi (fun _ _=>rfl)) (Qb (Qa 2 (pv 2)) Qf))))))) (Qj (Qw Ym)) QE)))
      (Qj (Qw Ym))))))))))
theorem all_mk {l:PySem.W.OpenLaw} {w:World} {K:PySem.W.Frag} {h:Heap} {mg:Str→Option Value} {fa:Addr} (hlaw:∀ (C:Nat→Addr),([C 1,C 2,C 3,C 4]:List Addr).Nodup→∀ (ns:List Int),ns.length≤63→Qbc C [.lst (ns.map .int)]=some (.bl true)) (X:K.In h) (G:h.Ns mainGlobals mg) (hfa:mg "law"=some (.ref fa))
    {C0 C1 C2 C3 C4:Addr}
    {f0:Addr} {od0 an0:Option Addr} {sl0:Array (Option Value)} {oc0 kV0 dc0 pm0 cd0 ct0:Value}
    {f1:Addr} {od1 an1:Option Addr} {sl1:Array (Option Value)} {oc1 kV1 dc1 pm1 cd1 ct1:Value}
    {f2:Addr} {od2 an2:Option Addr} {sl2:Array (Option Value)} {oc2 kV2 dc2 pm2 cd2 ct2:Value}
    {f3:Addr} {od3 an3:Option Addr} {sl3:Array (Option Value)} {oc3 kV3 dc3 pm3 cd3 ct3:Value}
    {f4:Addr} {od4 an4:Option Addr} {sl4:Array (Option Value)} {oc4 kV4 dc4 pm4 cd4 ct4:Value}
    {f5:Addr} {od5 an5:Option Addr} {sl5:Array (Option Value)} {oc5 kV5 dc5 pm5 cd5 ct5:Value}
    {f6:Addr} {od6 an6:Option Addr} {sl6:Array (Option Value)} {oc6 kV6 dc6 pm6 cd6 ct6:Value}
    {f7:Addr} {od7 an7:Option Addr} {sl7:Array (Option Value)} {oc7 kV7 dc7 pm7 cd7 ct7:Value}
    {f8:Addr} {od8 an8:Option Addr} {sl8:Array (Option Value)} {oc8 kV8 dc8 pm8 cd8 ct8:Value}
    {f9:Addr} {od9 an9:Option Addr} {sl9:Array (Option Value)} {oc9 kV9 dc9 pm9 cd9 ct9:Value}
    {f10:Addr} {od10 an10:Option Addr} {sl10:Array (Option Value)} {oc10 kV10 dc10 pm10 cd10 ct10:Value}
    {f11:Addr} {od11 an11:Option Addr} {sl11:Array (Option Value)} {oc11 kV11 dc11 pm11 cd11 ct11:Value}
    {f12:Addr} {od12 an12:Option Addr} {sl12:Array (Option Value)} {oc12 kV12 dc12 pm12 cd12 ct12:Value}
    {f13:Addr} {od13 an13:Option Addr} {sl13:Array (Option Value)} {oc13 kV13 dc13 pm13 cd13 ct13:Value}
    {f14:Addr} {od14 an14:Option Addr} {sl14:Array (Option Value)} {oc14 kV14 dc14 pm14 cd14 ct14:Value}
    {f15:Addr} {od15 an15:Option Addr} {sl15:Array (Option Value)} {oc15 kV15 dc15 pm15 cd15 ct15:Value}
    {f16:Addr} {od16 an16:Option Addr} {sl16:Array (Option Value)} {oc16 kV16 dc16 pm16 cd16 ct16:Value} {T16:Addr} {tc16:Value} {td16:Option Addr} {ts16:Array (Option Value)} {tk16:Tok} {tn16:Nat}
    {f17:Addr} {od17 an17:Option Addr} {sl17:Array (Option Value)} {oc17 kV17 dc17 pm17 cd17 ct17:Value}
    {f18:Addr} {od18 an18:Option Addr} {sl18:Array (Option Value)} {oc18 kV18 dc18 pm18 cd18 ct18:Value}
    {f19:Addr} {od19 an19:Option Addr} {sl19:Array (Option Value)} {oc19 kV19 dc19 pm19 cd19 ct19:Value}
    {f20:Addr} {od20 an20:Option Addr} {sl20:Array (Option Value)} {oc20 kV20 dc20 pm20 cd20 ct20:Value}
    {f21:Addr} {od21 an21:Option Addr} {sl21:Array (Option Value)} {oc21 kV21 dc21 pm21 cd21 ct21:Value}
    {f22:Addr} {od22 an22:Option Addr} {sl22:Array (Option Value)} {oc22 kV22 dc22 pm22 cd22 ct22:Value}
    {f23:Addr} {od23 an23:Option Addr} {sl23:Array (Option Value)} {oc23 kV23 dc23 pm23 cd23 ct23:Value}
    {f24:Addr} {od24 an24:Option Addr} {sl24:Array (Option Value)} {oc24 kV24 dc24 pm24 cd24 ct24:Value}
    {f25:Addr} {od25 an25:Option Addr} {sl25:Array (Option Value)} {oc25 kV25 dc25 pm25 cd25 ct25:Value}
    {f26:Addr} {od26 an26:Option Addr} {sl26:Array (Option Value)} {oc26 kV26 dc26 pm26 cd26 ct26:Value}
    {f27:Addr} {od27 an27:Option Addr} {sl27:Array (Option Value)} {oc27 kV27 dc27 pm27 cd27 ct27:Value}
    {f28:Addr} {od28 an28:Option Addr} {sl28:Array (Option Value)} {oc28 kV28 dc28 pm28 cd28 ct28:Value}
    {f29:Addr} {od29 an29:Option Addr} {sl29:Array (Option Value)} {oc29 kV29 dc29 pm29 cd29 ct29:Value}
    {f30:Addr} {od30 an30:Option Addr} {sl30:Array (Option Value)} {oc30 kV30 dc30 pm30 cd30 ct30:Value}
    {f31:Addr} {od31 an31:Option Addr} {sl31:Array (Option Value)} {oc31 kV31 dc31 pm31 cd31 ct31:Value}
    {f32:Addr} {od32 an32:Option Addr} {sl32:Array (Option Value)} {oc32 kV32 dc32 pm32 cd32 ct32:Value}
    {f33:Addr} {od33 an33:Option Addr} {sl33:Array (Option Value)} {oc33 kV33 dc33 pm33 cd33 ct33:Value}
    {f34:Addr} {od34 an34:Option Addr} {sl34:Array (Option Value)} {oc34 kV34 dc34 pm34 cd34 ct34:Value}
    {f35:Addr} {od35 an35:Option Addr} {sl35:Array (Option Value)} {oc35 kV35 dc35 pm35 cd35 ct35:Value}
    {f36:Addr} {od36 an36:Option Addr} {sl36:Array (Option Value)} {oc36 kV36 dc36 pm36 cd36 ct36:Value}
    (aC0:PySem.W.nsIn K mainGlobals "Lot"=some (some (.ref C0)))
    (aC1:PySem.W.nsIn K mainGlobals "Settled"=some (some (.ref C1)))
    (aC2:PySem.W.nsIn K mainGlobals "Sure"=some (some (.ref C2)))
    (aC3:PySem.W.nsIn K mainGlobals "Maybe"=some (some (.ref C3)))
    (aC4:PySem.W.nsIn K mainGlobals "Never"=some (some (.ref C4)))
    (gC0:PySem.W.specialIn K (.ref C0) "__getattribute__"=some (some (.builtin "type.__getattribute__")))
    (rC0:PySem.W.readsIn K C0 (.type "type")=true)
    (pC1:PySem.W.plainGet K C1 Str.empty=true)
    (hC1:PySem.W.hasDictIn K C1=true)
    (oC1:PySem.W.plainOver K C1=true)
    (sC1:PySem.W.findIn K (.ref C1) "__setattr__"=some (some (.builtin "object.__setattr__")))
    (mC1:PySem.W.makesIn K C1=true)
    (kC1:PySem.W.keepIn K (.ref C1)=true)
    (n1_word:PySem.W.findIn K (.ref C1) "word"=some none)
    (n1_name:PySem.W.findIn K (.ref C1) "name"=some none)
    (n1_reason:PySem.W.findIn K (.ref C1) "reason"=some none)
    (n1_pairs:PySem.W.findIn K (.ref C1) "pairs"=some none)
    (n1_camp:PySem.W.findIn K (.ref C1) "camp"=some none)
    (n1_other:PySem.W.findIn K (.ref C1) "other"=some none)
    (pC2:PySem.W.plainGet K C2 Str.empty=true)
    (hC2:PySem.W.hasDictIn K C2=true)
    (oC2:PySem.W.plainOver K C2=true)
    (sC2:PySem.W.findIn K (.ref C2) "__setattr__"=some (some (.builtin "object.__setattr__")))
    (mC2:PySem.W.makesIn K C2=true)
    (kC2:PySem.W.keepIn K (.ref C2)=true)
    (n2_word:PySem.W.findIn K (.ref C2) "word"=some none)
    (n2_name:PySem.W.findIn K (.ref C2) "name"=some none)
    (n2_reason:PySem.W.findIn K (.ref C2) "reason"=some none)
    (n2_pairs:PySem.W.findIn K (.ref C2) "pairs"=some none)
    (n2_camp:PySem.W.findIn K (.ref C2) "camp"=some none)
    (n2_other:PySem.W.findIn K (.ref C2) "other"=some none)
    (pC3:PySem.W.plainGet K C3 Str.empty=true)
    (hC3:PySem.W.hasDictIn K C3=true)
    (oC3:PySem.W.plainOver K C3=true)
    (sC3:PySem.W.findIn K (.ref C3) "__setattr__"=some (some (.builtin "object.__setattr__")))
    (mC3:PySem.W.makesIn K C3=true)
    (kC3:PySem.W.keepIn K (.ref C3)=true)
    (n3_word:PySem.W.findIn K (.ref C3) "word"=some none)
    (n3_name:PySem.W.findIn K (.ref C3) "name"=some none)
    (n3_reason:PySem.W.findIn K (.ref C3) "reason"=some none)
    (n3_pairs:PySem.W.findIn K (.ref C3) "pairs"=some none)
    (n3_camp:PySem.W.findIn K (.ref C3) "camp"=some none)
    (n3_other:PySem.W.findIn K (.ref C3) "other"=some none)
    (pC4:PySem.W.plainGet K C4 Str.empty=true)
    (hC4:PySem.W.hasDictIn K C4=true)
    (oC4:PySem.W.plainOver K C4=true)
    (sC4:PySem.W.findIn K (.ref C4) "__setattr__"=some (some (.builtin "object.__setattr__")))
    (mC4:PySem.W.makesIn K C4=true)
    (kC4:PySem.W.keepIn K (.ref C4)=true)
    (n4_word:PySem.W.findIn K (.ref C4) "word"=some none)
    (n4_name:PySem.W.findIn K (.ref C4) "name"=some none)
    (n4_reason:PySem.W.findIn K (.ref C4) "reason"=some none)
    (n4_pairs:PySem.W.findIn K (.ref C4) "pairs"=some none)
    (n4_camp:PySem.W.findIn K (.ref C4) "camp"=some none)
    (n4_other:PySem.W.findIn K (.ref C4) "other"=some none)
    (isn:PySem.W.specialIn K (.builtin "object.__class__") "__get__"=some (some (.builtin "getset_descriptor.__get__")))
    (ist:PySem.W.takesIn K (.builtin "object.__class__")=some true)
    (isa1:PySem.W.findIn K (.ref C1) "__class__"=some (some (.builtin "object.__class__")))
    (ism1:PySem.W.mroIn K C1 (.type "object")=some true)
    (isa2:PySem.W.findIn K (.ref C2) "__class__"=some (some (.builtin "object.__class__")))
    (ism2:PySem.W.mroIn K C2 (.type "object")=some true)
    (isa3:PySem.W.findIn K (.ref C3) "__class__"=some (some (.builtin "object.__class__")))
    (ism3:PySem.W.mroIn K C3 (.type "object")=some true)
    (isa4:PySem.W.findIn K (.ref C4) "__class__"=some (some (.builtin "object.__class__")))
    (ism4:PySem.W.mroIn K C4 (.type "object")=some true)
    (isk_Lot:PySem.W.isClsIn K C0=true)
    (isy_Lot:PySem.W.typeIn K (.ref C0)=some (.type "type"))
    (is_Lot_1:PySem.W.mroIn K C1 (.ref C0)=some true)
    (is_Lot_2:PySem.W.mroIn K C2 (.ref C0)=some true)
    (is_Lot_3:PySem.W.mroIn K C3 (.ref C0)=some true)
    (is_Lot_4:PySem.W.mroIn K C4 (.ref C0)=some true)
    (isk_Maybe:PySem.W.isClsIn K C3=true)
    (isy_Maybe:PySem.W.typeIn K (.ref C3)=some (.type "type"))
    (is_Maybe_1:PySem.W.mroIn K C1 (.ref C3)=some false)
    (ne_Maybe_1:(C1==C3)=false)
    (is_Maybe_2:PySem.W.mroIn K C2 (.ref C3)=some false)
    (ne_Maybe_2:(C2==C3)=false)
    (is_Maybe_3:PySem.W.mroIn K C3 (.ref C3)=some true)
    (is_Maybe_4:PySem.W.mroIn K C4 (.ref C3)=some false)
    (ne_Maybe_4:(C4==C3)=false)
    (isk_Never:PySem.W.isClsIn K C4=true)
    (isy_Never:PySem.W.typeIn K (.ref C4)=some (.type "type"))
    (is_Never_1:PySem.W.mroIn K C1 (.ref C4)=some false)
    (ne_Never_1:(C1==C4)=false)
    (is_Never_2:PySem.W.mroIn K C2 (.ref C4)=some false)
    (ne_Never_2:(C2==C4)=false)
    (is_Never_3:PySem.W.mroIn K C3 (.ref C4)=some false)
    (ne_Never_3:(C3==C4)=false)
    (is_Never_4:PySem.W.mroIn K C4 (.ref C4)=some true)
    (isk_Settled:PySem.W.isClsIn K C1=true)
    (isy_Settled:PySem.W.typeIn K (.ref C1)=some (.type "type"))
    (is_Settled_1:PySem.W.mroIn K C1 (.ref C1)=some true)
    (is_Settled_2:PySem.W.mroIn K C2 (.ref C1)=some false)
    (ne_Settled_2:(C2==C1)=false)
    (is_Settled_3:PySem.W.mroIn K C3 (.ref C1)=some false)
    (ne_Settled_3:(C3==C1)=false)
    (is_Settled_4:PySem.W.mroIn K C4 (.ref C1)=some false)
    (ne_Settled_4:(C4==C1)=false)
    (isk_Sure:PySem.W.isClsIn K C2=true)
    (isy_Sure:PySem.W.typeIn K (.ref C2)=some (.type "type"))
    (is_Sure_1:PySem.W.mroIn K C1 (.ref C2)=some false)
    (ne_Sure_1:(C1==C2)=false)
    (is_Sure_2:PySem.W.mroIn K C2 (.ref C2)=some true)
    (is_Sure_3:PySem.W.mroIn K C3 (.ref C2)=some false)
    (ne_Sure_3:(C3==C2)=false)
    (is_Sure_4:PySem.W.mroIn K C4 (.ref C2)=some false)
    (ne_Sure_4:(C4==C2)=false)
    (a0:PySem.W.nsIn K mainGlobals "_law_cell_at"=some (some (.ref f0)))
    (l0:K.lookup f0=some ⟨oc0,od0,.func (PySem.W.fnOf "_law_cell_at" "_law_cell_at" (Qo Zy) (Qn Zy) (Qc Zy) .none kV0 dc0 pm0 an0 cd0 ct0),sl0⟩)
    (c0:PySem.W.codeIn K cd0 "_law_cell_at"=true)
    (k0:PySem.W.keepIn K (.ref f0)=true)
    (a1:PySem.W.nsIn K mainGlobals "_law_first"=some (some (.ref f1)))
    (l1:K.lookup f1=some ⟨oc1,od1,.func (PySem.W.fnOf "_law_first" "_law_first" (Qo Yd) (Qn Yd) (Qc Yd) .none kV1 dc1 pm1 an1 cd1 ct1),sl1⟩)
    (c1:PySem.W.codeIn K cd1 "_law_first"=true)
    (k1:PySem.W.keepIn K (.ref f1)=true)
    (a2:PySem.W.nsIn K mainGlobals "_law_draw"=some (some (.ref f2)))
    (l2:K.lookup f2=some ⟨oc2,od2,.func (PySem.W.fnOf "_law_draw" "_law_draw" (Qo Yq) (Qn Yq) (Qc Yq) .none kV2 dc2 pm2 an2 cd2 ct2),sl2⟩)
    (c2:PySem.W.codeIn K cd2 "_law_draw"=true)
    (k2:PySem.W.keepIn K (.ref f2)=true)
    (a3:PySem.W.nsIn K mainGlobals "_law_rule"=some (some (.ref f3)))
    (l3:K.lookup f3=some ⟨oc3,od3,.func (PySem.W.fnOf "_law_rule" "_law_rule" (Qo ZT) (Qn ZT) (Qc ZT) .none kV3 dc3 pm3 an3 cd3 ct3),sl3⟩)
    (c3:PySem.W.codeIn K cd3 "_law_rule"=true)
    (k3:PySem.W.keepIn K (.ref f3)=true)
    (a4:PySem.W.nsIn K mainGlobals "_law_book"=some (some (.ref f4)))
    (l4:K.lookup f4=some ⟨oc4,od4,.func (PySem.W.fnOf "_law_book" "_law_book" (Qo ZU) (Qn ZU) (Qc ZU) .none kV4 dc4 pm4 an4 cd4 ct4),sl4⟩)
    (c4:PySem.W.codeIn K cd4 "_law_book"=true)
    (k4:PySem.W.keepIn K (.ref f4)=true)
    (a5:PySem.W.nsIn K mainGlobals "all_guesses"=some (some (.ref f5)))
    (l5:K.lookup f5=some ⟨oc5,od5,.func (PySem.W.fnOf "all_guesses" "all_guesses" (Qo ZI) (Qn ZI) (Qc ZI) .none kV5 dc5 pm5 an5 cd5 ct5),sl5⟩)
    (c5:PySem.W.codeIn K cd5 "all_guesses"=true)
    (k5:PySem.W.keepIn K (.ref f5)=true)
    (a6:PySem.W.nsIn K mainGlobals "mask_of"=some (some (.ref f6)))
    (l6:K.lookup f6=some ⟨oc6,od6,.func (PySem.W.fnOf "mask_of" "mask_of" (Qo Xf) (Qn Xf) (Qc Xf) .none kV6 dc6 pm6 an6 cd6 ct6),sl6⟩)
    (c6:PySem.W.codeIn K cd6 "mask_of"=true)
    (k6:PySem.W.keepIn K (.ref f6)=true)
    (a7:PySem.W.nsIn K mainGlobals "known_after"=some (some (.ref f7)))
    (l7:K.lookup f7=some ⟨oc7,od7,.func (PySem.W.fnOf "known_after" "known_after" (Qo Zh) (Qn Zh) (Qc Zh) .none kV7 dc7 pm7 an7 cd7 ct7),sl7⟩)
    (c7:PySem.W.codeIn K cd7 "known_after"=true)
    (k7:PySem.W.keepIn K (.ref f7)=true)
    (a8:PySem.W.nsIn K mainGlobals "inside"=some (some (.ref f8)))
    (l8:K.lookup f8=some ⟨oc8,od8,.func (PySem.W.fnOf "inside" "inside" (Qo XY) (Qn XY) (Qc XY) .none kV8 dc8 pm8 an8 cd8 ct8),sl8⟩)
    (c8:PySem.W.codeIn K cd8 "inside"=true)
    (k8:PySem.W.keepIn K (.ref f8)=true)
    (a9:PySem.W.nsIn K mainGlobals "bringing_steps"=some (some (.ref f9)))
    (l9:K.lookup f9=some ⟨oc9,od9,.func (PySem.W.fnOf "bringing_steps" "bringing_steps" (Qo QR) (Qn QR) (Qc QR) .none kV9 dc9 pm9 an9 cd9 ct9),sl9⟩)
    (c9:PySem.W.codeIn K cd9 "bringing_steps"=true)
    (k9:PySem.W.keepIn K (.ref f9)=true)
    (a10:PySem.W.nsIn K mainGlobals "yielded"=some (some (.ref f10)))
    (l10:K.lookup f10=some ⟨oc10,od10,.func (PySem.W.fnOf "yielded" "yielded" (Qo Xd) (Qn Xd) (Qc Xd) .none kV10 dc10 pm10 an10 cd10 ct10),sl10⟩)
    (c10:PySem.W.codeIn K cd10 "yielded"=true)
    (k10:PySem.W.keepIn K (.ref f10)=true)
    (a11:PySem.W.nsIn K mainGlobals "struck"=some (some (.ref f11)))
    (l11:K.lookup f11=some ⟨oc11,od11,.func (PySem.W.fnOf "struck" "struck" (Qo YS) (Qn YS) (Qc YS) .none kV11 dc11 pm11 an11 cd11 ct11),sl11⟩)
    (c11:PySem.W.codeIn K cd11 "struck"=true)
    (k11:PySem.W.keepIn K (.ref f11)=true)
    (a12:PySem.W.nsIn K mainGlobals "at_peace"=some (some (.ref f12)))
    (l12:K.lookup f12=some ⟨oc12,od12,.func (PySem.W.fnOf "at_peace" "at_peace" (Qo YI) (Qn YI) (Qc YI) .none kV12 dc12 pm12 an12 cd12 ct12),sl12⟩)
    (c12:PySem.W.codeIn K cd12 "at_peace"=true)
    (k12:PySem.W.keepIn K (.ref f12)=true)
    (a13:PySem.W.nsIn K mainGlobals "unstruck"=some (some (.ref f13)))
    (l13:K.lookup f13=some ⟨oc13,od13,.func (PySem.W.fnOf "unstruck" "unstruck" (Qo YG) (Qn YG) (Qc YG) .none kV13 dc13 pm13 an13 cd13 ct13),sl13⟩)
    (c13:PySem.W.codeIn K cd13 "unstruck"=true)
    (k13:PySem.W.keepIn K (.ref f13)=true)
    (a14:PySem.W.nsIn K mainGlobals "defended"=some (some (.ref f14)))
    (l14:K.lookup f14=some ⟨oc14,od14,.func (PySem.W.fnOf "defended" "defended" (Qo YH) (Qn YH) (Qc YH) .none kV14 dc14 pm14 an14 cd14 ct14),sl14⟩)
    (c14:PySem.W.codeIn K cd14 "defended"=true)
    (k14:PySem.W.keepIn K (.ref f14)=true)
    (a15:PySem.W.nsIn K mainGlobals "stands"=some (some (.ref f15)))
    (l15:K.lookup f15=some ⟨oc15,od15,.func (PySem.W.fnOf "stands" "stands" (Qo XW) (Qn XW) (Qc XW) .none kV15 dc15 pm15 an15 cd15 ct15),sl15⟩)
    (c15:PySem.W.codeIn K cd15 "stands"=true)
    (k15:PySem.W.keepIn K (.ref f15)=true)
    (a16:PySem.W.nsIn K mainGlobals "camps"=some (some (.ref f16)))
    (l16:K.lookup f16=some ⟨oc16,od16,.func (PySem.W.fnOf "camps" "camps" (Qo YV) (Qn YV) (Qc YV) (.ref T16) kV16 dc16 pm16 an16 cd16 ct16),sl16⟩)
    (c16:PySem.W.codeIn K cd16 "camps"=true)
    (k16:PySem.W.keepIn K (.ref f16)=true)
    (t16:K.lookup T16=some ⟨tc16,td16,.seq #[.int 0 tk16] tn16,ts16⟩)
    (a17:PySem.W.nsIn K mainGlobals "rounds"=some (some (.ref f17)))
    (l17:K.lookup f17=some ⟨oc17,od17,.func (PySem.W.fnOf "rounds" "rounds" (Qo XX) (Qn XX) (Qc XX) .none kV17 dc17 pm17 an17 cd17 ct17),sl17⟩)
    (c17:PySem.W.codeIn K cd17 "rounds"=true)
    (k17:PySem.W.keepIn K (.ref f17)=true)
    (a18:PySem.W.nsIn K mainGlobals "rank_in"=some (some (.ref f18)))
    (l18:K.lookup f18=some ⟨oc18,od18,.func (PySem.W.fnOf "rank_in" "rank_in" (Qo Xe) (Qn Xe) (Qc Xe) .none kV18 dc18 pm18 an18 cd18 ct18),sl18⟩)
    (c18:PySem.W.codeIn K cd18 "rank_in"=true)
    (k18:PySem.W.keepIn K (.ref f18)=true)
    (a19:PySem.W.nsIn K mainGlobals "settled"=some (some (.ref f19)))
    (l19:K.lookup f19=some ⟨oc19,od19,.func (PySem.W.fnOf "settled" "settled" (Qo YM) (Qn YM) (Qc YM) .none kV19 dc19 pm19 an19 cd19 ct19),sl19⟩)
    (c19:PySem.W.codeIn K cd19 "settled"=true)
    (k19:PySem.W.keepIn K (.ref f19)=true)
    (a20:PySem.W.nsIn K mainGlobals "places"=some (some (.ref f20)))
    (l20:K.lookup f20=some ⟨oc20,od20,.func (PySem.W.fnOf "places" "places" (Qo YT) (Qn YT) (Qc YT) .none kV20 dc20 pm20 an20 cd20 ct20),sl20⟩)
    (c20:PySem.W.codeIn K cd20 "places"=true)
    (k20:PySem.W.keepIn K (.ref f20)=true)
    (a21:PySem.W.nsIn K mainGlobals "does_yield"=some (some (.ref f21)))
    (l21:K.lookup f21=some ⟨oc21,od21,.func (PySem.W.fnOf "does_yield" "does_yield" (Qo Yb) (Qn Yb) (Qc Yb) .none kV21 dc21 pm21 an21 cd21 ct21),sl21⟩)
    (c21:PySem.W.codeIn K cd21 "does_yield"=true)
    (k21:PySem.W.keepIn K (.ref f21)=true)
    (a22:PySem.W.nsIn K mainGlobals "a_reason"=some (some (.ref f22)))
    (l22:K.lookup f22=some ⟨oc22,od22,.func (PySem.W.fnOf "a_reason" "a_reason" (Qo YJ) (Qn YJ) (Qc YJ) .none kV22 dc22 pm22 an22 cd22 ct22),sl22⟩)
    (c22:PySem.W.codeIn K cd22 "a_reason"=true)
    (k22:PySem.W.keepIn K (.ref f22)=true)
    (a23:PySem.W.findCls K (.ref C0) (.type "type") "__init__"=some (.val (.ref f23)))
    (l23:K.lookup f23=some ⟨oc23,od23,.func (PySem.W.fnOf "__init__" "Lot.__init__" (Qo Zz) (Qn Zz) (Qc Zz) .none kV23 dc23 pm23 an23 cd23 ct23),sl23⟩)
    (c23:PySem.W.codeIn K cd23 "Lot.__init__"=true)
    (k23:PySem.W.keepIn K (.ref f23)=true)
    (a24:PySem.W.findIn K (.ref C3) "__init__"=some (some (.ref f24)))
    (i24:PySem.W.isFn K (.ref f24)=true)
    (l24:K.lookup f24=some ⟨oc24,od24,.func (PySem.W.fnOf "__init__" "Maybe.__init__" (Qo Zf) (Qn Zf) (Qc Zf) .none kV24 dc24 pm24 an24 cd24 ct24),sl24⟩)
    (c24:PySem.W.codeIn K cd24 "Maybe.__init__"=true)
    (k24:PySem.W.keepIn K (.ref f24)=true)
    (a25:PySem.W.findIn K (.ref C1) "__init__"=some (some (.ref f25)))
    (i25:PySem.W.isFn K (.ref f25)=true)
    (l25:K.lookup f25=some ⟨oc25,od25,.func (PySem.W.fnOf "__init__" "Settled.__init__" (Qo QQ) (Qn QQ) (Qc QQ) .none kV25 dc25 pm25 an25 cd25 ct25),sl25⟩)
    (c25:PySem.W.codeIn K cd25 "Settled.__init__"=true)
    (k25:PySem.W.keepIn K (.ref f25)=true)
    (a26:PySem.W.findIn K (.ref C2) "__init__"=some (some (.ref f26)))
    (i26:PySem.W.isFn K (.ref f26)=true)
    (l26:K.lookup f26=some ⟨oc26,od26,.func (PySem.W.fnOf "__init__" "Sure.__init__" (Qo Zp) (Qn Zp) (Qc Zp) .none kV26 dc26 pm26 an26 cd26 ct26),sl26⟩)
    (c26:PySem.W.codeIn K cd26 "Sure.__init__"=true)
    (k26:PySem.W.keepIn K (.ref f26)=true)
    (a27:PySem.W.findIn K (.ref C4) "__init__"=some (some (.ref f27)))
    (i27:PySem.W.isFn K (.ref f27)=true)
    (l27:K.lookup f27=some ⟨oc27,od27,.func (PySem.W.fnOf "__init__" "Never.__init__" (Qo Ze) (Qn Ze) (Qc Ze) .none kV27 dc27 pm27 an27 cd27 ct27),sl27⟩)
    (c27:PySem.W.codeIn K cd27 "Never.__init__"=true)
    (k27:PySem.W.keepIn K (.ref f27)=true)
    (a28:PySem.W.nsIn K mainGlobals "lot"=some (some (.ref f28)))
    (l28:K.lookup f28=some ⟨oc28,od28,.func (PySem.W.fnOf "lot" "lot" (Qo Qdm) (Qn Qdm) (Qc Qdm) .none kV28 dc28 pm28 an28 cd28 ct28),sl28⟩)
    (c28:PySem.W.codeIn K cd28 "lot"=true)
    (k28:PySem.W.keepIn K (.ref f28)=true)
    (a29:PySem.W.nsIn K mainGlobals "_law_closed"=some (some (.ref f29)))
    (l29:K.lookup f29=some ⟨oc29,od29,.func (PySem.W.fnOf "_law_closed" "_law_closed" (Qo QK) (Qn QK) (Qc QK) .none kV29 dc29 pm29 an29 cd29 ct29),sl29⟩)
    (c29:PySem.W.codeIn K cd29 "_law_closed"=true)
    (k29:PySem.W.keepIn K (.ref f29)=true)
    (a30:PySem.W.nsIn K mainGlobals "_law_due"=some (some (.ref f30)))
    (l30:K.lookup f30=some ⟨oc30,od30,.func (PySem.W.fnOf "_law_due" "_law_due" (Qo YK) (Qn YK) (Qc YK) .none kV30 dc30 pm30 an30 cd30 ct30),sl30⟩)
    (c30:PySem.W.codeIn K cd30 "_law_due"=true)
    (k30:PySem.W.keepIn K (.ref f30)=true)
    (a31_1:PySem.W.findIn K (.ref C1) "called"=some (some (.ref f31)))
    (a31_2:PySem.W.findIn K (.ref C2) "called"=some (some (.ref f31)))
    (a31_3:PySem.W.findIn K (.ref C3) "called"=some (some (.ref f31)))
    (a31_4:PySem.W.findIn K (.ref C4) "called"=some (some (.ref f31)))
    (i31:PySem.W.isFn K (.ref f31)=true)
    (l31:K.lookup f31=some ⟨oc31,od31,.func (PySem.W.fnOf "called" "Lot.called" (Qo Ye) (Qn Ye) (Qc Ye) .none kV31 dc31 pm31 an31 cd31 ct31),sl31⟩)
    (c31:PySem.W.codeIn K cd31 "Lot.called"=true)
    (k31:PySem.W.keepIn K (.ref f31)=true)
    (a32:PySem.W.nsIn K mainGlobals "_law_whole"=some (some (.ref f32)))
    (l32:K.lookup f32=some ⟨oc32,od32,.func (PySem.W.fnOf "_law_whole" "_law_whole" (Qo Yc) (Qn Yc) (Qc Yc) .none kV32 dc32 pm32 an32 cd32 ct32),sl32⟩)
    (c32:PySem.W.codeIn K cd32 "_law_whole"=true)
    (k32:PySem.W.keepIn K (.ref f32)=true)
    (a33:PySem.W.nsIn K mainGlobals "_law_reason"=some (some (.ref f33)))
    (l33:K.lookup f33=some ⟨oc33,od33,.func (PySem.W.fnOf "_law_reason" "_law_reason" (Qo ZJ) (Qn ZJ) (Qc ZJ) .none kV33 dc33 pm33 an33 cd33 ct33),sl33⟩)
    (c33:PySem.W.codeIn K cd33 "_law_reason"=true)
    (k33:PySem.W.keepIn K (.ref f33)=true)
    (a34:PySem.W.nsIn K mainGlobals "_law_sure"=some (some (.ref f34)))
    (l34:K.lookup f34=some ⟨oc34,od34,.func (PySem.W.fnOf "_law_sure" "_law_sure" (Qo Yp) (Qn Yp) (Qc Yp) .none kV34 dc34 pm34 an34 cd34 ct34),sl34⟩)
    (c34:PySem.W.codeIn K cd34 "_law_sure"=true)
    (k34:PySem.W.keepIn K (.ref f34)=true)
    (a35:PySem.W.nsIn K mainGlobals "_law_paper"=some (some (.ref f35)))
    (l35:K.lookup f35=some ⟨oc35,od35,.func (PySem.W.fnOf "_law_paper" "_law_paper" (Qo Zd) (Qn Zd) (Qc Zd) .none kV35 dc35 pm35 an35 cd35 ct35),sl35⟩)
    (c35:PySem.W.codeIn K cd35 "_law_paper"=true)
    (k35:PySem.W.keepIn K (.ref f35)=true)
    (a36:PySem.W.nsIn K mainGlobals "law"=some (some (.ref f36)))
    (l36:K.lookup f36=some ⟨oc36,od36,.func (PySem.W.fnOf "law" "law" (Qo Qdn) (Qn Qdn) (Qc Qdn) .none kV36 dc36 pm36 an36 cd36 ct36),sl36⟩)
    (c36:PySem.W.codeIn K cd36 "law"=true)
    (k36:PySem.W.keepIn K (.ref f36)=true)
    (z_any:PySem.W.nsIn K mainGlobals "any"=some none)
    (z_bool:PySem.W.nsIn K mainGlobals "bool"=some none)
    (z_enumerate:PySem.W.nsIn K mainGlobals "enumerate"=some none)
    (z_int:PySem.W.nsIn K mainGlobals "int"=some none)
    (z_isinstance:PySem.W.nsIn K mainGlobals "isinstance"=some none)
    (z_len:PySem.W.nsIn K mainGlobals "len"=some none)
    (z_list:PySem.W.nsIn K mainGlobals "list"=some none)
    (z_max:PySem.W.nsIn K mainGlobals "max"=some none)
    (z_range:PySem.W.nsIn K mainGlobals "range"=some none)
    (z_reversed:PySem.W.nsIn K mainGlobals "reversed"=some none)
    (z_set:PySem.W.nsIn K mainGlobals "set"=some none)
    (z_sorted:PySem.W.nsIn K mainGlobals "sorted"=some none)
    (z_str:PySem.W.nsIn K mainGlobals "str"=some none)
    (z_tuple:PySem.W.nsIn K mainGlobals "tuple"=some none)
    (z_zip:PySem.W.nsIn K mainGlobals "zip"=some none)
    (dC:([C1,C2,C3,C4]:List Addr).Nodup)
    : ∃ fd:FuncData,(∀ (s:Shared) (v:Value),BindsTo s fd ⟨[v],[]⟩ [("script",v)])∧∀ base:Heap,K.In base→base.Ns mainGlobals mg→FnOk l.prog w K mg base CX0 11 fa fd ["script"] (spM K 1 Qcl):=by
  have e:=hfa.symm.trans (PySem.W.mg_of X G a36)
  cases e
  have T:Txt mg:=⟨PySem.W.mg_none_of X G z_any,PySem.W.mg_none_of X G z_bool,PySem.W.mg_none_of X G z_enumerate,PySem.W.mg_none_of X G z_int,PySem.W.mg_none_of X G z_isinstance,PySem.W.mg_none_of X G z_len,PySem.W.mg_none_of X G z_list,PySem.W.mg_none_of X G z_max,PySem.W.mg_none_of X G z_range,PySem.W.mg_none_of X G z_reversed,PySem.W.mg_none_of X G z_set,PySem.W.mg_none_of X G z_sorted,PySem.W.mg_none_of X G z_str,PySem.W.mg_none_of X G z_tuple,PySem.W.mg_none_of X G z_zip⟩
  have CL1:Cls K C1:=⟨pC1,hC1,oC1,sC1⟩
  have W1:TFld K C1:=⟨⟨CL1,n1_word⟩,⟨CL1,n1_name⟩,⟨CL1,n1_reason⟩,⟨CL1,n1_pairs⟩,⟨CL1,n1_camp⟩,⟨CL1,n1_other⟩⟩
  have CL2:Cls K C2:=⟨pC2,hC2,oC2,sC2⟩
  have W2:TFld K C2:=⟨⟨CL2,n2_word⟩,⟨CL2,n2_name⟩,⟨CL2,n2_reason⟩,⟨CL2,n2_pairs⟩,⟨CL2,n2_camp⟩,⟨CL2,n2_other⟩⟩
  have CL3:Cls K C3:=⟨pC3,hC3,oC3,sC3⟩
  have W3:TFld K C3:=⟨⟨CL3,n3_word⟩,⟨CL3,n3_name⟩,⟨CL3,n3_reason⟩,⟨CL3,n3_pairs⟩,⟨CL3,n3_camp⟩,⟨CL3,n3_other⟩⟩
  have CL4:Cls K C4:=⟨pC4,hC4,oC4,sC4⟩
  have W4:TFld K C4:=⟨⟨CL4,n4_word⟩,⟨CL4,n4_name⟩,⟨CL4,n4_reason⟩,⟨CL4,n4_pairs⟩,⟨CL4,n4_camp⟩,⟨CL4,n4_other⟩⟩
  have W:WFam K mg (famC [C0,C1,C2,C3,C4]):=⟨famA W1 (famA W2 (famA W3 (famA W4 (fun _ h=>nomatch h)))),PySem.W.mg_of X G aC0,(QN ⟨CL1,isa1,isn,ist,ism1,Qer isk_Lot isy_Lot is_Lot_1⟩ (QN ⟨CL2,isa2,isn,ist,ism2,Qer isk_Lot isy_Lot is_Lot_2⟩ (QN ⟨CL3,isa3,isn,ist,ism3,Qer isk_Lot isy_Lot is_Lot_3⟩ (QN ⟨CL4,isa4,isn,ist,ism4,Qer isk_Lot isy_Lot is_Lot_4⟩ Qdw)))),PySem.W.mg_of X G aC3,(QN ⟨CL1,isa1,isn,ist,ism1,Qbu isk_Maybe isy_Maybe is_Maybe_1 ne_Maybe_1⟩ (QN ⟨CL2,isa2,isn,ist,ism2,Qbu isk_Maybe isy_Maybe is_Maybe_2 ne_Maybe_2⟩ (QN ⟨CL3,isa3,isn,ist,ism3,Qer isk_Maybe isy_Maybe is_Maybe_3⟩ (QN ⟨CL4,isa4,isn,ist,ism4,Qbu isk_Maybe isy_Maybe is_Maybe_4 ne_Maybe_4⟩ Qdw)))),PySem.W.mg_of X G aC4,(QN ⟨CL1,isa1,isn,ist,ism1,Qbu isk_Never isy_Never is_Never_1 ne_Never_1⟩ (QN ⟨CL2,isa2,isn,ist,ism2,Qbu isk_Never isy_Never is_Never_2 ne_Never_2⟩ (QN ⟨CL3,isa3,isn,ist,ism3,Qbu isk_Never isy_Never is_Never_3 ne_Never_3⟩ (QN ⟨CL4,isa4,isn,ist,ism4,Qer isk_Never isy_Never is_Never_4⟩ Qdw)))),PySem.W.mg_of X G aC1,(QN ⟨CL1,isa1,isn,ist,ism1,Qer isk_Settled isy_Settled is_Settled_1⟩ (QN ⟨CL2,isa2,isn,ist,ism2,Qbu isk_Settled isy_Settled is_Settled_2 ne_Settled_2⟩ (QN ⟨CL3,isa3,isn,ist,ism3,Qbu isk_Settled isy_Settled is_Settled_3 ne_Settled_3⟩ (QN ⟨CL4,isa4,isn,ist,ism4,Qbu isk_Settled isy_Settled is_Settled_4 ne_Settled_4⟩ Qdw)))),PySem.W.mg_of X G aC2,(QN ⟨CL1,isa1,isn,ist,ism1,Qbu isk_Sure isy_Sure is_Sure_1 ne_Sure_1⟩ (QN ⟨CL2,isa2,isn,ist,ism2,Qer isk_Sure isy_Sure is_Sure_2⟩ (QN ⟨CL3,isa3,isn,ist,ism3,Qbu isk_Sure isy_Sure is_Sure_3 ne_Sure_3⟩ (QN ⟨CL4,isa4,isn,ist,ism4,Qbu isk_Sure isy_Sure is_Sure_4 ne_Sure_4⟩ Qdw))))⟩
  have F0:=QI (st:=Zy) l0 c0 k0
  have b0:=F0.binds (ps:=["script","k"]) fun _ _ _ _ _ _ us hl=>match us,hl with | [_,_],_=>rfl
  have F1:=QI (st:=Yd) l1 c1 k1
  have b1:=F1.binds (ps:=["shape","n"]) fun _ _ _ _ _ _ us hl=>match us,hl with | [_,_],_=>rfl
  have F2:=QI (st:=Yq) l2 c2 k2
  have b2:=F2.binds (ps:=["cell","k"]) fun _ _ _ _ _ _ us hl=>match us,hl with | [_,_],_=>rfl
  have F3:=QI (st:=ZT) l3 c3 k3
  have b3:=F3.binds (ps:=["cell","n","m"]) fun _ _ _ _ _ _ us hl=>match us,hl with | [_,_,_],_=>rfl
  have F4:=QI (st:=ZU) l4 c4 k4
  have b4:=F4.binds (ps:=["script"]) fun _ _ _ _ _ _ us hl=>match us,hl with | [_],_=>rfl
  have F5:=QI (st:=ZI) l5 c5 k5
  have b5:=F5.binds (ps:=["book"]) fun _ _ _ _ _ _ us hl=>match us,hl with | [_],_=>rfl
  have F6:=QI (st:=Xf) l6 c6 k6
  have b6:=F6.binds (ps:=["row"]) fun _ _ _ _ _ _ us hl=>match us,hl with | [_],_=>rfl
  have F7:=QI (st:=Zh) l7 c7 k7
  have b7:=F7.binds (ps:=["book","held","steps"]) fun _ _ _ _ _ _ us hl=>match us,hl with | [_,_,_],_=>rfl
  have F8:=QI (st:=XY) l8 c8 k8
  have b8:=F8.binds (ps:=["mask","other"]) fun _ _ _ _ _ _ us hl=>match us,hl with | [_,_],_=>rfl
  have F9:=QI (st:=QR) l9 c9 k9
  have b9:=F9.binds (ps:=["book","held"]) fun _ _ _ _ _ _ us hl=>match us,hl with | [_,_],_=>rfl
  have F10:=QI (st:=Xd) l10 c10 k10
  have b10:=F10.binds (ps:=["book","held"]) fun _ _ _ _ _ _ us hl=>match us,hl with | [_,_],_=>rfl
  have F11:=QI (st:=YS) l11 c11 k11
  have b11:=F11.binds (ps:=["book","held"]) fun _ _ _ _ _ _ us hl=>match us,hl with | [_,_],_=>rfl
  have F12:=QI (st:=YI) l12 c12 k12
  have b12:=F12.binds (ps:=["book","held"]) fun _ _ _ _ _ _ us hl=>match us,hl with | [_,_],_=>rfl
  have F13:=QI (st:=YG) l13 c13 k13
  have b13:=F13.binds (ps:=["book","held"]) fun _ _ _ _ _ _ us hl=>match us,hl with | [_,_],_=>rfl
  have F14:=QI (st:=YH) l14 c14 k14
  have b14:=F14.binds (ps:=["book","held"]) fun _ _ _ _ _ _ us hl=>match us,hl with | [_,_],_=>rfl
  have F15:=QI (st:=XW) l15 c15 k15
  have b15:=F15.binds (ps:=["book","held"]) fun _ _ _ _ _ _ us hl=>match us,hl with | [_,_],_=>rfl
  have F16:=funD_mk (st:=YV) l16 c16 k16 t16
  have b16:=F16.binds (ps:=["book","holding"]) fun _ _ _ _ _ _ _ d us hl=>match us,hl with | [_,_],_=>⟨_,rfl,rfl⟩
  have bd16:=F16.bindsD (ps:=["book","holding"]) fun _ _ _ _ _ _ _ d us hl=>match us,hl with | [_],_=>⟨_,rfl,rfl⟩
  have F17:=QI (st:=XX) l17 c17 k17
  have b17:=F17.binds (ps:=["book"]) fun _ _ _ _ _ _ us hl=>match us,hl with | [_],_=>rfl
  have F18:=QI (st:=Xe) l18 c18 k18
  have b18:=F18.binds (ps:=["sets","guess"]) fun _ _ _ _ _ _ us hl=>match us,hl with | [_,_],_=>rfl
  have F19:=QI (st:=YM) l19 c19 k19
  have b19:=F19.binds (ps:=["book"]) fun _ _ _ _ _ _ us hl=>match us,hl with | [_],_=>rfl
  have F20:=QI (st:=YT) l20 c20 k20
  have b20:=F20.binds (ps:=["mask"]) fun _ _ _ _ _ _ us hl=>match us,hl with | [_],_=>rfl
  have F21:=QI (st:=Yb) l21 c21 k21
  have b21:=F21.binds (ps:=["book","held","word"]) fun _ _ _ _ _ _ us hl=>match us,hl with | [_,_,_],_=>rfl
  have F22:=QI (st:=YJ) l22 c22 k22
  have b22:=F22.binds (ps:=["book","within","word"]) fun _ _ _ _ _ _ us hl=>match us,hl with | [_,_,_],_=>rfl
  have F23:=QI (st:=Zz) l23 c23 k23
  have b23:=F23.binds (ps:=["self","word","name"]) fun _ _ _ _ _ _ us hl=>match us,hl with | [_,_,_],_=>rfl
  have F24:=QI (st:=Zf) l24 c24 k24
  have b24:=F24.binds (ps:=["self","word","camp","reason","other"]) fun _ _ _ _ _ _ us hl=>match us,hl with | [_,_,_,_,_],_=>rfl
  have F25:=QI (st:=QQ) l25 c25 k25
  have b25:=F25.binds (ps:=["self","word","reason"]) fun _ _ _ _ _ _ us hl=>match us,hl with | [_,_,_],_=>rfl
  have F26:=QI (st:=Zp) l26 c26 k26
  have b26:=F26.binds (ps:=["self","word","pairs"]) fun _ _ _ _ _ _ us hl=>match us,hl with | [_,_,_],_=>rfl
  have F27:=QI (st:=Ze) l27 c27 k27
  have b27:=F27.binds (ps:=["self","word"]) fun _ _ _ _ _ _ us hl=>match us,hl with | [_,_],_=>rfl
  have F28:=QI (st:=Qdm) l28 c28 k28
  have b28:=F28.binds (ps:=["book","word"]) fun _ _ _ _ _ _ us hl=>match us,hl with | [_,_],_=>rfl
  have F29:=QI (st:=QK) l29 c29 k29
  have b29:=F29.binds (ps:=["book","held"]) fun _ _ _ _ _ _ us hl=>match us,hl with | [_,_],_=>rfl
  have F30:=QI (st:=YK) l30 c30 k30
  have b30:=F30.binds (ps:=["book","word","held","good","some"]) fun _ _ _ _ _ _ us hl=>match us,hl with | [_,_,_,_,_],_=>rfl
  have F31:=QI (st:=Ye) l31 c31 k31
  have b31:=F31.binds (ps:=["self"]) fun _ _ _ _ _ _ us hl=>match us,hl with | [_],_=>rfl
  have F32:=QI (st:=Yc) l32 c32 k32
  have b32:=F32.binds (ps:=["found"]) fun _ _ _ _ _ _ us hl=>match us,hl with | [_],_=>rfl
  have F33:=QI (st:=ZJ) l33 c33 k33
  have b33:=F33.binds (ps:=["book","within","word","found"]) fun _ _ _ _ _ _ us hl=>match us,hl with | [_,_,_,_],_=>rfl
  have F34:=QI (st:=Yp) l34 c34 k34
  have b34:=F34.binds (ps:=["book","word","found","some"]) fun _ _ _ _ _ _ us hl=>match us,hl with | [_,_,_,_],_=>rfl
  have F35:=QI (st:=Zd) l35 c35 k35
  have b35:=F35.binds (ps:=["book","word","held","some"]) fun _ _ _ _ _ _ us hl=>match us,hl with | [_,_,_,_],_=>rfl
  have F36:=QI (st:=Qdn) l36 c36 k36
  refine ⟨PySem.W.fnOf "law" "law" (Qo Qdn) (Qn Qdn) (Qc Qdn) .none kV36 dc36 pm36 an36 cd36 ct36,fun s v => .of_eq rfl,fun base _ _ => ?_⟩
  have q0:Cal l.prog w K mg base 1 "_law_cell_at" 2 QL:=⟨_,_,_,Qdh T  F0,PySem.W.mg_of X G a0,k0,b0⟩
  have q1:CalO l.prog w K mg base 1 "_law_first" 2 Zk:=⟨_,_,_,Qey T  F1,PySem.W.mg_of X G a1,k1,b1⟩
  have q2:Cal l.prog w K mg base 1 "_law_draw" 2 Qm:=⟨_,_,_,QfD T  F2,PySem.W.mg_of X G a2,k2,b2⟩
  have q3:Cal l.prog w K mg base 2 "_law_rule" 3 Zj:=⟨_,_,_,QfC T q2 F3,PySem.W.mg_of X G a3,k3,b3⟩
  have q4:Cal l.prog w K mg base 3 "_law_book" 1 Zv:=⟨_,_,_,QfE T q0 q1 q2 q3 F4,PySem.W.mg_of X G a4,k4,b4⟩
  have q5:Cal l.prog w K mg base 1 "all_guesses" 1 QW:=⟨_,_,_,QdC T  F5,PySem.W.mg_of X G a5,k5,b5⟩
  have q6:Cal l.prog w K mg base 1 "mask_of" 1 Zl:=⟨_,_,_,QhR T  F6,PySem.W.mg_of X G a6,k6,b6⟩
  have q7:Cal l.prog w K mg base 2 "known_after" 3 Zu:=⟨_,_,_,QdB T q6 F7,PySem.W.mg_of X G a7,k7,b7⟩
  have q8:Cal l.prog w K mg base 1 "inside" 2 QP:=⟨_,_,_,QjG T  F8,PySem.W.mg_of X G a8,k8,b8⟩
  have q9:Cal l.prog w K mg base 2 "bringing_steps" 2 QS:=⟨_,_,_,QbV T q6 q8 F9,PySem.W.mg_of X G a9,k9,b9⟩
  have q10:Cal l.prog w K mg base 3 "yielded" 2 Yh:=⟨_,_,_,QhO T q7 q9 F10,PySem.W.mg_of X G a10,k10,b10⟩
  have q11:Cal l.prog w K mg base 4 "struck" 2 Yy:=⟨_,_,_,QjC T q6 q8 q10 F11,PySem.W.mg_of X G a11,k11,b11⟩
  have q12:Cal l.prog w K mg base 5 "at_peace" 2 Yn:=⟨_,_,_,Qgx T q11 F12,PySem.W.mg_of X G a12,k12,b12⟩
  have q13:Cal l.prog w K mg base 5 "unstruck" 2 Ya:=⟨_,_,_,Qgv T q5 q11 F13,PySem.W.mg_of X G a13,k13,b13⟩
  have q14:Cal l.prog w K mg base 6 "defended" 2 Zb:=⟨_,_,_,Qgw T q13 F14,PySem.W.mg_of X G a14,k14,b14⟩
  have q15:Cal l.prog w K mg base 7 "stands" 2 Xp:=⟨_,_,_,QjD T q8 q12 q14 F15,PySem.W.mg_of X G a15,k15,b15⟩
  have q16:CalD l.prog w K mg base 8 "camps" 2 0 Xo:=⟨_,_,_,ok_camps T q5 q8 q15 F16,PySem.W.mg_of X G a16,k16,b16,bd16⟩
  have q17:Cal l.prog w K mg base 7 "rounds" 1 Xq:=⟨_,_,_,QjE T q14 F17,PySem.W.mg_of X G a17,k17,b17⟩
  have q18:Cal l.prog w K mg base 2 "rank_in" 2 YN:=⟨_,_,_,QhQ T q8 F18,PySem.W.mg_of X G a18,k18,b18⟩
  have q19:Cal l.prog w K mg base 8 "settled" 1 Yi:=⟨_,_,_,QhP T q17 q18 F19,PySem.W.mg_of X G a19,k19,b19⟩
  have q20:Cal l.prog w K mg base 1 "places" 1 Xr:=⟨_,_,_,QjF T  F20,PySem.W.mg_of X G a20,k20,b20⟩
  have q21:Cal l.prog w K mg base 4 "does_yield" 3 Zs:=⟨_,_,_,Qev T q8 q10 F21,PySem.W.mg_of X G a21,k21,b21⟩
  have q22:Cal l.prog w K mg base 5 "a_reason" 3 QM:=⟨_,_,_,Qgy T q20 q21 F22,PySem.W.mg_of X G a22,k22,b22⟩
  have q23_1:CalB l.prog w K mg base 1 C1 "-" "Lot" "__init__" 3 Qs:=⟨_,_,_,C0,Yj T W1  F23,PySem.W.mg_of X G aC0,gC0,rC0,a23,k23,b23⟩
  have q23_2:CalB l.prog w K mg base 1 C2 "-" "Lot" "__init__" 3 Qs:=⟨_,_,_,C0,Yj T W2  F23,PySem.W.mg_of X G aC0,gC0,rC0,a23,k23,b23⟩
  have q23_3:CalB l.prog w K mg base 1 C3 "-" "Lot" "__init__" 3 Qs:=⟨_,_,_,C0,Yj T W3  F23,PySem.W.mg_of X G aC0,gC0,rC0,a23,k23,b23⟩
  have q23_4:CalB l.prog w K mg base 1 C4 "-" "Lot" "__init__" 3 Qs:=⟨_,_,_,C0,Yj T W4  F23,PySem.W.mg_of X G aC0,gC0,rC0,a23,k23,b23⟩
  have q24:Qds l.prog w K mg base 3 C3 "-" "Maybe" 5 QU:=⟨_,_,_,QbX T W3 q23_3 F24,⟨mC3,a24,i24,kC3⟩,PySem.W.mg_of X G aC3,b24⟩
  have q25:Qds l.prog w K mg base 3 C1 "-" "Settled" 3 QJ:=⟨_,_,_,QaU T W1 q23_1 F25,⟨mC1,a25,i25,kC1⟩,PySem.W.mg_of X G aC1,b25⟩
  have q26:Qds l.prog w K mg base 3 C2 "-" "Sure" 3 QZ:=⟨_,_,_,QcE T W2 q23_2 F26,⟨mC2,a26,i26,kC2⟩,PySem.W.mg_of X G aC2,b26⟩
  have q27:Qds l.prog w K mg base 3 C4 "-" "Never" 2 QT:=⟨_,_,_,QbW T W4 q23_4 F27,⟨mC4,a27,i27,kC4⟩,PySem.W.mg_of X G aC4,b27⟩
  have q28:Cal l.prog w K mg base 9 "lot" 2 (Qfr (famC [C0,C1,C2,C3,C4])):=⟨_,_,_,ok_lot T W q16 q19 q22 q24 q25 q26 q27 F28,PySem.W.mg_of X G a28,k28,b28⟩
  have q29:Cal l.prog w K mg base 1 "_law_closed" 2 QA:=⟨_,_,_,QdE T  F29,PySem.W.mg_of X G a29,k29,b29⟩
  have q30:Cal l.prog w K mg base 2 "_law_due" 5 ZF:=⟨_,_,_,Qgz T q29 F30,PySem.W.mg_of X G a30,k30,b30⟩
  have q31_1:Qdr l.prog w K mg base 1 C1 "called" 1 (Ql (famC [C0,C1,C2,C3,C4])):=⟨_,_,_,YD T W  F31,CL1,⟨a31_1,i31,k31⟩,b31⟩
  have q31_2:Qdr l.prog w K mg base 1 C2 "called" 1 (Ql (famC [C0,C1,C2,C3,C4])):=⟨_,_,_,YD T W  F31,CL2,⟨a31_2,i31,k31⟩,b31⟩
  have q31_3:Qdr l.prog w K mg base 1 C3 "called" 1 (Ql (famC [C0,C1,C2,C3,C4])):=⟨_,_,_,YD T W  F31,CL3,⟨a31_3,i31,k31⟩,b31⟩
  have q31_4:Qdr l.prog w K mg base 1 C4 "called" 1 (Ql (famC [C0,C1,C2,C3,C4])):=⟨_,_,_,YD T W  F31,CL4,⟨a31_4,i31,k31⟩,b31⟩
  have q32:Cal l.prog w K mg base 1 "_law_whole" 1 QB:=⟨_,_,_,Qew T  F32,PySem.W.mg_of X G a32,k32,b32⟩
  have q33:Cal l.prog w K mg base 2 "_law_reason" 4 QD:=⟨_,_,_,QdD T q29 q32 F33,PySem.W.mg_of X G a33,k33,b33⟩
  have q34:Cal l.prog w K mg base 3 "_law_sure" 4 ZV:=⟨_,_,_,QfB T q32 q33 F34,PySem.W.mg_of X G a34,k34,b34⟩
  have q35:Cal l.prog w K mg base 10 "_law_paper" 4 (ZE (famC [C0,C1,C2,C3,C4])):=⟨_,_,_,Qex T W q28 q29 q30 q31_1 q31_2 q31_3 q31_4 q32 q33 q34 F35,PySem.W.mg_of X G a35,k35,b35⟩
  exact (ok_law T W q0 q4 q16 q19 q32 q35 F36).sw fun qs r h=>QhJ (hlaw (famC [C0,C1,C2,C3,C4]) dC) h
theorem walk {l:PySem.W.OpenLaw} {q:Program} {loose:List Str} {XP:(Str→Option Value)→Heap→Prop} {YP:World→Heap→Prop} {d:DefRec} {K:Params→PySem.W.Frag} (hn:l.most=some 63) (hdf:d.params.defaults=[])
    (hY:∀ (w:World) (h:Heap),YP w h→(K w.params).In h) (hlaw:∀ ns:List Int,ns.length≤63→Qcl [.lst (ns.map .int)]=some (.bl true))
    (F:∀ (w:World) (mg:Str→Option Value) (fa:Addr) (h:Heap),(K w.params).In h→h.Ns mainGlobals mg→mg d.name=some (.ref fa) →
      ∃ fd:FuncData,(∀ (s:Shared) (u:Value),BindsTo s fd ⟨[u],[]⟩ [("script",u)])∧∀ base:Heap,(K w.params).In base→base.Ns mainGlobals mg→FnOk l.prog w (K w.params) mg base CX0 11 fa fd ["script"] (spM (K w.params) 1 Qcl)) :
    PySem.W.WalkO q loose XP YP l.row.toRowW d [] (fun f vs=>PySem.call f vs) :=
  L2.walk_of (n:=63) (k:=11) (x := "script") (CX:=fun _=>CX0) (sp:=fun w=>spM (K w.params) 1 Qcl) hn (by decide) hdf ⟨rfl,by decide,by decide⟩ hY F (fun w H a ns hl _ hS=>law_sp hlaw hl hS) fun _ _ _ _ _ z=>z
end K44
namespace K44
open PySem PySem.W L2 L2.PM DH HD
noncomputable def kk (P:Params):PySem.W.Frag :=
(nat_lit 2,⟨.none,none,(.dict #[] 0),#[]⟩) ::
(nat_lit 3,⟨(.type "dict"),none,(.dict #[en P "__name__" 165 (.str "law_doubthall_k44_lots" 531),en P "__doc__" 166 .none,en P "__package__" 167 .none,en P "__loader__" 168 (.builtin "__main__.__loader__#opaque"),en P "__spec__" 169 .none,en P "__annotations__" 170 (.ref 6),en P "__builtins__" 171 (.ref 4),en P "__file__" 173 (.str "/claim/cut.py" 172),en P "__cached__" 174 .none,en P "_wall" 193 (.ref 21),en P "places" 201 (.ref 26),en P "mask_of" 210 (.ref 33),en P "inside" 218 (.ref 40),en P "bringing_steps" 226 (.ref 45),en P "known_after" 232 (.ref 50),en P "yielded" 240 (.ref 57),en P "all_guesses" 249 (.ref 64),en P "does_yield" 258 (.ref 71),en P "a_reason" 270 (.ref 78),en P "struck" 278 (.ref 83),en P "unstruck" 286 (.ref 90),en P "at_peace" 294 (.ref 97),en P "defended" 302 (.ref 104),en P "stands" 310 (.ref 111),en P "camps" 319 (.ref 117),en P "rounds" 330 (.ref 124),en P "rank_in" 340 (.ref 131),en P "settled" 346 (.ref 136),en P "Lot" 394 (.ref 167),en P "Settled" 428 (.ref 195),en P "Sure" 462 (.ref 221),en P "Maybe" 500 (.ref 247),en P "Never" 524 (.ref 266),en P "lot" 530 (.ref 273),en P "_law_cell_at" 540 (.ref 280),en P "_law_whole" 547 (.ref 287),en P "_law_draw" 556 (.ref 294),en P "_law_first" 566 (.ref 301),en P "_law_rule" 572 (.ref 306),en P "_law_book" 578 (.ref 311),en P "_law_closed" 584 (.ref 316),en P "_law_reason" 595 (.ref 323),en P "_law_sure" 607 (.ref 330),en P "_law_due" 618 (.ref 337),en P "_law_paper" 624 (.ref 342),en P "law" 638 (.ref 349)] 46),#[]⟩) ::
(nat_lit 20,co "_wall" "_wall" 187 1 1 15 16 (.ref 17) (.ref 18) 19 191) ::
(nat_lit 21,fo "_wall" "_wall" (top 0) .none .none (.str "__main__" 164) 20) ::
(nat_lit 25,co "places" "places" 196 5 1 22 23 .none .none 24 199) ::
(nat_lit 26,fo "places" "places" (top 2) .none .none (.str "doubthall.masks" 194) 25) ::
(nat_lit 32,co "mask_of" "mask_of" 202 7 1 27 28 (.ref 29) (.ref 30) 31 208) ::
(nat_lit 33,fo "mask_of" "mask_of" (top 3) .none .none (.str "doubthall.masks" 194) 32) ::
(nat_lit 39,co "inside" "inside" 211 12 2 34 35 (.ref 36) (.ref 37) 38 216) ::
(nat_lit 40,fo "inside" "inside" (top 4) .none .none (.str "doubthall.masks" 194) 39) ::
(nat_lit 44,co "bringing_steps" "bringing_steps" 221 15 2 41 42 .none .none 43 224) ::
(nat_lit 45,fo "bringing_steps" "bringing_steps" (top 6) .none .none (.str "doubthall.yields" 219) 44) ::
(nat_lit 49,co "known_after" "known_after" 227 30 3 46 47 .none .none 48 230) ::
(nat_lit 50,fo "known_after" "known_after" (top 7) .none .none (.str "doubthall.yields" 219) 49) ::
(nat_lit 56,co "yielded" "yielded" 233 32 2 51 52 (.ref 53) (.ref 54) 55 238) ::
(nat_lit 57,fo "yielded" "yielded" (top 8) .none .none (.str "doubthall.yields" 219) 56) ::
(nat_lit 63,co "all_guesses" "all_guesses" 243 35 1 58 59 (.ref 60) (.ref 61) 62 247) ::
(nat_lit 64,fo "all_guesses" "all_guesses" (top 10) .none .none (.str "doubthall.reasons" 241) 63) ::
(nat_lit 70,co "does_yield" "does_yield" 250 37 3 65 66 (.ref 67) (.ref 68) 69 256) ::
(nat_lit 71,fo "does_yield" "does_yield" (top 11) .none .none (.str "doubthall.reasons" 241) 70) ::
(nat_lit 77,co "a_reason" "a_reason" 259 39 3 72 73 (.ref 74) (.ref 75) 76 268) ::
(nat_lit 78,fo "a_reason" "a_reason" (top 12) .none .none (.str "doubthall.reasons" 241) 77) ::
(nat_lit 82,co "struck" "struck" 273 49 2 79 80 .none .none 81 276) ::
(nat_lit 83,fo "struck" "struck" (top 14) .none .none (.str "doubthall.standing" 271) 82) ::
(nat_lit 89,co "unstruck" "unstruck" 279 52 2 84 85 (.ref 86) (.ref 87) 88 284) ::
(nat_lit 90,fo "unstruck" "unstruck" (top 15) .none .none (.str "doubthall.standing" 271) 89) ::
(nat_lit 96,co "at_peace" "at_peace" 287 54 2 91 92 (.ref 93) (.ref 94) 95 292) ::
(nat_lit 97,fo "at_peace" "at_peace" (top 16) .none .none (.str "doubthall.standing" 271) 96) ::
(nat_lit 103,co "defended" "defended" 295 56 2 98 99 (.ref 100) (.ref 101) 102 300) ::
(nat_lit 104,fo "defended" "defended" (top 17) .none .none (.str "doubthall.standing" 271) 103) ::
(nat_lit 110,co "stands" "stands" 303 58 2 105 106 (.ref 107) (.ref 108) 109 308) ::
(nat_lit 111,fo "stands" "stands" (top 18) .none .none (.str "doubthall.standing" 271) 110) ::
(nat_lit 112,⟨(.type "tuple"),none,(.seq #[(.int 0 313)] 0),#[]⟩) ::
(nat_lit 116,co "camps" "camps" 314 61 2 113 114 .none .none 115 317) ::
(nat_lit 117,fo "camps" "camps" (top 20) (.ref 112) .none (.str "doubthall.camps" 311) 116) ::
(nat_lit 123,co "rounds" "rounds" 322 69 1 118 119 (.ref 120) (.ref 121) 122 328) ::
(nat_lit 124,fo "rounds" "rounds" (top 22) .none .none (.str "doubthall.settled" 320) 123) ::
(nat_lit 130,co "rank_in" "rank_in" 331 76 2 125 126 (.ref 127) (.ref 128) 129 338) ::
(nat_lit 131,fo "rank_in" "rank_in" (top 23) .none .none (.str "doubthall.settled" 320) 130) ::
(nat_lit 135,co "settled" "settled" 341 81 1 132 133 .none .none 134 344) ::
(nat_lit 136,fo "settled" "settled" (top 24) .none .none (.str "doubthall.settled" 320) 135) ::
(nat_lit 149,co "__init__" "Lot.__init__" 361 88 3 144 145 (.ref 146) (.ref 147) 148 367) ::
(nat_lit 150,fo "__init__" "Lot.__init__" (ZG (top 26) 0) .none .none (.str "doubthall.lots" 347) 149) ::
(nat_lit 156,co "called" "Lot.called" 370 92 1 151 152 (.ref 153) (.ref 154) 155 374) ::
(nat_lit 157,fo "called" "Lot.called" (ZG (top 26) 1) .none .none (.str "doubthall.lots" 347) 156) ::
(nat_lit 163,co "shown" "Lot.shown" 377 95 2 158 159 (.ref 160) (.ref 161) 162 382) ::
(nat_lit 164,fo "shown" "Lot.shown" (ZG (top 26) 2) .none .none (.str "doubthall.lots" 347) 163) ::
(nat_lit 166,⟨(.type "dict"),none,(.dict #[en P "__module__" 356 (.str "doubthall.lots" 347),en P "__firstlineno__" 360 (.int 86 359),en P "__init__" 369 (.ref 150),en P "called" 376 (.ref 157),en P "shown" 384 (.ref 164),en P "__static_attributes__" 387 (.ref 165),en P "__dict__" 389 (.ref 168),en P "__weakref__" 391 (.ref 169),en P "__doc__" 392 .none] 4),#[]⟩) ::
(nat_lit 167,⟨(.type "type"),none,(.cls { name := "Lot",bases:=[(.type "object")],mro:=[(.ref 167),(.type "object")],ns:=166,qualname := "Lot",hasDict:=true,subclasses:=[(.ref 195),(.ref 221),(.ref 247),(.ref 266)],abstract:=false,hasDel:=false }),#[none,none,some (.str "Lot" 349),some (.str "Lot" 357),some (.builtin "object.__new__"),some (.bool true)]⟩) ::
(nat_lit 184,co "__init__" "Settled.__init__" 407 99 3 179 180 (.ref 181) (.ref 182) 183 413) ::
(nat_lit 185,fo "__init__" "Settled.__init__" (ZG (top 27) 0) .none .none (.str "doubthall.lots" 347) 184) ::
(nat_lit 191,co "shown" "Settled.shown" 416 103 2 186 187 (.ref 188) (.ref 189) 190 421) ::
(nat_lit 192,fo "shown" "Settled.shown" (ZG (top 27) 1) .none .none (.str "doubthall.lots" 347) 191) ::
(nat_lit 194,⟨(.type "dict"),none,(.dict #[en P "__module__" 402 (.str "doubthall.lots" 347),en P "__firstlineno__" 406 (.int 97 405),en P "__init__" 415 (.ref 185),en P "shown" 423 (.ref 192),en P "__static_attributes__" 425 (.ref 193),en P "__doc__" 426 .none] 2),#[]⟩) ::
(nat_lit 195,⟨(.type "type"),none,(.cls { name := "Settled",bases:=[(.ref 167)],mro:=[(.ref 195),(.ref 167),(.type "object")],ns:=194,qualname := "Settled",hasDict:=true,subclasses:=[],abstract:=false,hasDel:=false }),#[some (.ref 172),none,some (.str "Settled" 395),some (.str "Settled" 403),some (.builtin "object.__new__"),some (.bool true)]⟩) ::
(nat_lit 210,co "__init__" "Sure.__init__" 441 107 3 205 206 (.ref 207) (.ref 208) 209 447) ::
(nat_lit 211,fo "__init__" "Sure.__init__" (ZG (top 28) 0) .none .none (.str "doubthall.lots" 347) 210) ::
(nat_lit 217,co "shown" "Sure.shown" 450 111 2 212 213 (.ref 214) (.ref 215) 216 455) ::
(nat_lit 218,fo "shown" "Sure.shown" (ZG (top 28) 1) .none .none (.str "doubthall.lots" 347) 217) ::
(nat_lit 220,⟨(.type "dict"),none,(.dict #[en P "__module__" 436 (.str "doubthall.lots" 347),en P "__firstlineno__" 440 (.int 105 439),en P "__init__" 449 (.ref 211),en P "shown" 457 (.ref 218),en P "__static_attributes__" 459 (.ref 219),en P "__doc__" 460 .none] 2),#[]⟩) ::
(nat_lit 221,⟨(.type "type"),none,(.cls { name := "Sure",bases:=[(.ref 167)],mro:=[(.ref 221),(.ref 167),(.type "object")],ns:=220,qualname := "Sure",hasDict:=true,subclasses:=[],abstract:=false,hasDel:=false }),#[some (.ref 198),none,some (.str "Sure" 429),some (.str "Sure" 437),some (.builtin "object.__new__"),some (.bool true)]⟩) ::
(nat_lit 236,co "__init__" "Maybe.__init__" 475 115 5 231 232 (.ref 233) (.ref 234) 235 483) ::
(nat_lit 237,fo "__init__" "Maybe.__init__" (ZG (top 29) 0) .none .none (.str "doubthall.lots" 347) 236) ::
(nat_lit 243,co "shown" "Maybe.shown" 486 121 2 238 239 (.ref 240) (.ref 241) 242 491) ::
(nat_lit 244,fo "shown" "Maybe.shown" (ZG (top 29) 1) .none .none (.str "doubthall.lots" 347) 243) ::
(nat_lit 246,⟨(.type "dict"),none,(.dict #[en P "__module__" 470 (.str "doubthall.lots" 347),en P "__firstlineno__" 474 (.int 113 473),en P "__init__" 485 (.ref 237),en P "shown" 493 (.ref 244),en P "__static_attributes__" 497 (.ref 245),en P "__doc__" 498 .none] 2),#[]⟩) ::
(nat_lit 247,⟨(.type "type"),none,(.cls { name := "Maybe",bases:=[(.ref 167)],mro:=[(.ref 247),(.ref 167),(.type "object")],ns:=246,qualname := "Maybe",hasDict:=true,subclasses:=[],abstract:=false,hasDel:=false }),#[some (.ref 224),none,some (.str "Maybe" 463),some (.str "Maybe" 471),some (.builtin "object.__new__"),some (.bool true)]⟩) ::
(nat_lit 262,co "__init__" "Never.__init__" 513 125 2 257 258 (.ref 259) (.ref 260) 261 518) ::
(nat_lit 263,fo "__init__" "Never.__init__" (ZG (top 30) 0) .none .none (.str "doubthall.lots" 347) 262) ::
(nat_lit 265,⟨(.type "dict"),none,(.dict #[en P "__module__" 508 (.str "doubthall.lots" 347),en P "__firstlineno__" 512 (.int 123 511),en P "__init__" 520 (.ref 263),en P "__static_attributes__" 521 (.ref 264),en P "__doc__" 522 .none] 2),#[]⟩) ::
(nat_lit 266,⟨(.type "type"),none,(.cls { name := "Never",bases:=[(.ref 167)],mro:=[(.ref 266),(.ref 167),(.type "object")],ns:=265,qualname := "Never",hasDict:=true,subclasses:=[],abstract:=false,hasDel:=false }),#[some (.ref 250),none,some (.str "Never" 501),some (.str "Never" 509),some (.builtin "object.__new__"),some (.bool true)]⟩) ::
(nat_lit 272,co "lot" "lot" 525 127 2 269 270 .none .none 271 528) ::
(nat_lit 273,fo "lot" "lot" (top 31) .none .none (.str "doubthall.lots" 347) 272) ::
(nat_lit 279,co "_law_cell_at" "_law_cell_at" 533 140 2 274 275 (.ref 276) (.ref 277) 278 538) ::
(nat_lit 280,fo "_law_cell_at" "_law_cell_at" (top 33) .none .none (.str "law_doubthall_k44_lots" 531) 279) ::
(nat_lit 286,co "_law_whole" "_law_whole" 541 144 1 281 282 (.ref 283) (.ref 284) 285 545) ::
(nat_lit 287,fo "_law_whole" "_law_whole" (top 34) .none .none (.str "law_doubthall_k44_lots" 531) 286) ::
(nat_lit 293,co "_law_draw" "_law_draw" 548 146 2 288 289 (.ref 290) (.ref 291) 292 554) ::
(nat_lit 294,fo "_law_draw" "_law_draw" (top 35) .none .none (.str "law_doubthall_k44_lots" 531) 293) ::
(nat_lit 300,co "_law_first" "_law_first" 557 150 2 295 296 (.ref 297) (.ref 298) 299 564) ::
(nat_lit 301,fo "_law_first" "_law_first" (top 36) .none .none (.str "law_doubthall_k44_lots" 531) 300) ::
(nat_lit 305,co "_law_rule" "_law_rule" 567 160 3 302 303 .none .none 304 570) ::
(nat_lit 306,fo "_law_rule" "_law_rule" (top 37) .none .none (.str "law_doubthall_k44_lots" 531) 305) ::
(nat_lit 310,co "_law_book" "_law_book" 573 168 1 307 308 .none .none 309 576) ::
(nat_lit 311,fo "_law_book" "_law_book" (top 38) .none .none (.str "law_doubthall_k44_lots" 531) 310) ::
(nat_lit 315,co "_law_closed" "_law_closed" 579 187 2 312 313 .none .none 314 582) ::
(nat_lit 316,fo "_law_closed" "_law_closed" (top 39) .none .none (.str "law_doubthall_k44_lots" 531) 315) ::
(nat_lit 322,co "_law_reason" "_law_reason" 585 197 4 317 318 (.ref 319) (.ref 320) 321 593) ::
(nat_lit 323,fo "_law_reason" "_law_reason" (top 40) .none .none (.str "law_doubthall_k44_lots" 531) 322) ::
(nat_lit 329,co "_law_sure" "_law_sure" 596 206 4 324 325 (.ref 326) (.ref 327) 328 605) ::
(nat_lit 330,fo "_law_sure" "_law_sure" (top 41) .none .none (.str "law_doubthall_k44_lots" 531) 329) ::
(nat_lit 336,co "_law_due" "_law_due" 608 215 5 331 332 (.ref 333) (.ref 334) 335 616) ::
(nat_lit 337,fo "_law_due" "_law_due" (top 42) .none .none (.str "law_doubthall_k44_lots" 531) 336) ::
(nat_lit 341,co "_law_paper" "_law_paper" 619 223 4 338 339 .none .none 340 622) ::
(nat_lit 342,fo "_law_paper" "_law_paper" (top 43) .none .none (.str "law_doubthall_k44_lots" 531) 341) ::
(nat_lit 348,co "law" "law" 625 245 1 343 344 (.ref 345) (.ref 346) 347 636) ::
(nat_lit 349,fo "law" "law" (top 44) .none .none (.str "law_doubthall_k44_lots" 531) 348) :: []
noncomputable def ka:List Addr:=[2,3,20,21,25,26,32,33,39,40,44,45,49,50,56,57,63,64,70,71,77,78,82,83,89,90,96,97,103,104,110,111,112,116,117,123,124,130,131,135,136,149,150,156,157,163,164,166,167,184,185,191,192,194,195,210,211,217,218,220,221,236,237,243,244,246,247,262,263,265,266,272,273,279,280,286,287,293,294,300,301,305,306,310,311,315,316,322,323,329,330,336,337,341,342,348,349]
theorem h_said:PySem.W.Fast.tw9446332074065402090 PySem.Challenge.rw_doubthall_k44_lots=true:=by kernel_rfl
theorem h_one (w:World) (os:OsState):end_ PySem.Challenge.pw_doubthall_k44_lots (only PySem.Challenge.pw_doubthall_k44_lots (top 44)) ka w os 2447=some (true,openGood (only PySem.Challenge.pw_doubthall_k44_lots (top 44)) (Qdv PySem.Challenge.pw_doubthall_k44_lots),(kk w.params).map fun x=>some x.2):=by kernel_rfl
end K44
open PySem PySem.W PyProof.Rows
set_option maxRecDepth 100000 in
set_option maxHeartbeats 8000000 in
theorem PySem.Challenge.cw_doubthall_k44_lots_holds : PySem.Challenge.rw_doubthall_k44_lots.Holds := by
  refine HD.opens (K:=K44.kk) (as:=K44.ka) (st:=K44.top 44) (N:=2447) K44.h_said (by kernel_rfl) (fun s=>by kernel_rfl) (by kernel_rfl) K44.h_one (fun P=>by kernel_rfl) (by kernel_rfl) (by kernel_rfl) (by kernel_rfl) (by kernel_rfl) ⟨rfl,rfl,rfl,rfl,rfl,by decide +kernel⟩ ?hw ?hc
  (case hw=>w_witness2)
  k_fill
  refine K44.walk (l:=PySem.Challenge.rw_doubthall_k44_lots) rfl rfl (fun w h Y=>Y) L2.PM.trueOn_ok ?F
  case F =>
    intro w mg fa h KX G hmg
    refine' K44.all_mk K44.law_true KX G hmg ?aC0 ?aC1 ?aC2 ?aC3 ?aC4 ?gC0 ?rC0 ?pC1 ?hC1 ?oC1 ?sC1 ?mC1 ?kC1 ?n1_word ?n1_name ?n1_reason ?n1_pairs ?n1_camp ?n1_other ?pC2 ?hC2 ?oC2 ?sC2 ?mC2 ?kC2 ?n2_word ?n2_name ?n2_reason ?n2_pairs ?n2_camp ?n2_other ?pC3 ?hC3 ?oC3 ?sC3 ?mC3 ?kC3 ?n3_word ?n3_name ?n3_reason ?n3_pairs ?n3_camp ?n3_other ?pC4 ?hC4 ?oC4 ?sC4 ?mC4 ?kC4 ?n4_word ?n4_name ?n4_reason ?n4_pairs ?n4_camp ?n4_other ?isn ?ist ?isa1 ?ism1 ?isa2 ?ism2 ?isa3 ?ism3 ?isa4 ?ism4 ?isk_Lot ?isy_Lot ?is_Lot_1 ?is_Lot_2 ?is_Lot_3 ?is_Lot_4 ?isk_Maybe ?isy_Maybe ?is_Maybe_1 ?ne_Maybe_1 ?is_Maybe_2 ?ne_Maybe_2 ?is_Maybe_3 ?is_Maybe_4 ?ne_Maybe_4 ?isk_Never ?isy_Never ?is_Never_1 ?ne_Never_1 ?is_Never_2 ?ne_Never_2 ?is_Never_3 ?ne_Never_3 ?is_Never_4 ?isk_Settled ?isy_Settled ?is_Settled_1 ?is_Settled_2 ?ne_Settled_2 ?is_Settled_3 ?ne_Settled_3 ?is_Settled_4 ?ne_Settled_4 ?isk_Sure ?isy_Sure ?is_Sure_1 ?ne_Sure_1 ?is_Sure_2 ?is_Sure_3 ?ne_Sure_3 ?is_Sure_4 ?ne_Sure_4 ?a0 ?l0 ?c0 ?k0 ?a1 ?l1 ?c1 ?k1 ?a2 ?l2 ?c2 ?k2 ?a3 ?l3 ?c3 ?k3 ?a4 ?l4 ?c4 ?k4 ?a5 ?l5 ?c5 ?k5 ?a6 ?l6 ?c6 ?k6 ?a7 ?l7 ?c7 ?k7 ?a8 ?l8 ?c8 ?k8 ?a9 ?l9 ?c9 ?k9 ?a10 ?l10 ?c10 ?k10 ?a11 ?l11 ?c11 ?k11 ?a12 ?l12 ?c12 ?k12 ?a13 ?l13 ?c13 ?k13 ?a14 ?l14 ?c14 ?k14 ?a15 ?l15 ?c15 ?k15 ?a16 ?l16 ?c16 ?k16 ?t16 ?a17 ?l17 ?c17 ?k17 ?a18 ?l18 ?c18 ?k18 ?a19 ?l19 ?c19 ?k19 ?a20 ?l20 ?c20 ?k20 ?a21 ?l21 ?c21 ?k21 ?a22 ?l22 ?c22 ?k22 ?a23 ?l23 ?c23 ?k23 ?a24 ?i24 ?l24 ?c24 ?k24 ?a25 ?i25 ?l25 ?c25 ?k25 ?a26 ?i26 ?l26 ?c26 ?k26 ?a27 ?i27 ?l27 ?c27 ?k27 ?a28 ?l28 ?c28 ?k28 ?a29 ?l29 ?c29 ?k29 ?a30 ?l30 ?c30 ?k30 ?a31_1 ?a31_2 ?a31_3 ?a31_4 ?i31 ?l31 ?c31 ?k31 ?a32 ?l32 ?c32 ?k32 ?a33 ?l33 ?c33 ?k33 ?a34 ?l34 ?c34 ?k34 ?a35 ?l35 ?c35 ?k35 ?a36 ?l36 ?c36 ?k36 ?z_any ?z_bool ?z_enumerate ?z_int ?z_isinstance ?z_len ?z_list ?z_max ?z_range ?z_reversed ?z_set ?z_sorted ?z_str ?z_tuple ?z_zip ?dC
    (case aC0=>k_is)
    (case aC1=>k_is)
    (case aC2=>k_is)
    (case aC3=>k_is)
    (case aC4=>k_is)
    (case gC0=>k_is)
    (case rC0=>k_is)
    (case pC1=>k_is)
    (case hC1=>k_is)
    (case oC1=>k_is)
    (case sC1=>k_is)
    (case mC1=>k_is)
    (case kC1=>k_is)
    (case n1_word=>k_is)
    (case n1_name=>k_is)
    (case n1_reason=>k_is)
    (case n1_pairs=>k_is)
    (case n1_camp=>k_is)
    (case n1_other=>k_is)
    (case pC2=>k_is)
    (case hC2=>k_is)
    (case oC2=>k_is)
    (case sC2=>k_is)
    (case mC2=>k_is)
    (case kC2=>k_is)
    (case n2_word=>k_is)
    (case n2_name=>k_is)
    (case n2_reason=>k_is)
    (case n2_pairs=>k_is)
    (case n2_camp=>k_is)
    (case n2_other=>k_is)
    (case pC3=>k_is)
    (case hC3=>k_is)
    (case oC3=>k_is)
    (case sC3=>k_is)
    (case mC3=>k_is)
    (case kC3=>k_is)
    (case n3_word=>k_is)
    (case n3_name=>k_is)
    (case n3_reason=>k_is)
    (case n3_pairs=>k_is)
    (case n3_camp=>k_is)
    (case n3_other=>k_is)
    (case pC4=>k_is)
    (case hC4=>k_is)
    (case oC4=>k_is)
    (case sC4=>k_is)
    (case mC4=>k_is)
    (case kC4=>k_is)
    (case n4_word=>k_is)
    (case n4_name=>k_is)
    (case n4_reason=>k_is)
    (case n4_pairs=>k_is)
    (case n4_camp=>k_is)
    (case n4_other=>k_is)
    (case isn=>k_is)
    (case ist=>k_is)
    (case isa1=>k_is)
    (case ism1=>k_is)
    (case isa2=>k_is)
    (case ism2=>k_is)
    (case isa3=>k_is)
    (case ism3=>k_is)
    (case isa4=>k_is)
    (case ism4=>k_is)
    (case isk_Lot=>k_is)
    (case isy_Lot=>k_is)
    (case is_Lot_1=>k_is)
    (case is_Lot_2=>k_is)
    (case is_Lot_3=>k_is)
    (case is_Lot_4=>k_is)
    (case isk_Maybe=>k_is)
    (case isy_Maybe=>k_is)
    (case is_Maybe_1=>k_is)
    (case ne_Maybe_1=>rfl)
    (case is_Maybe_2=>k_is)
    (case ne_Maybe_2=>rfl)
    (case is_Maybe_3=>k_is)
    (case is_Maybe_4=>k_is)
    (case ne_Maybe_4=>rfl)
    (case isk_Never=>k_is)
    (case isy_Never=>k_is)
    (case is_Never_1=>k_is)
    (case ne_Never_1=>rfl)
    (case is_Never_2=>k_is)
    (case ne_Never_2=>rfl)
    (case is_Never_3=>k_is)
    (case ne_Never_3=>rfl)
    (case is_Never_4=>k_is)
    (case isk_Settled=>k_is)
    (case isy_Settled=>k_is)
    (case is_Settled_1=>k_is)
    (case is_Settled_2=>k_is)
    (case ne_Settled_2=>rfl)
    (case is_Settled_3=>k_is)
    (case ne_Settled_3=>rfl)
    (case is_Settled_4=>k_is)
    (case ne_Settled_4=>rfl)
    (case isk_Sure=>k_is)
    (case isy_Sure=>k_is)
    (case is_Sure_1=>k_is)
    (case ne_Sure_1=>rfl)
    (case is_Sure_2=>k_is)
    (case is_Sure_3=>k_is)
    (case ne_Sure_3=>rfl)
    (case is_Sure_4=>k_is)
    (case ne_Sure_4=>rfl)
    (case a0=>k_is)
    (case l0=>k_is)
    (case c0=>k_is)
    (case k0=>k_is)
    (case a1=>k_is)
    (case l1=>k_is)
    (case c1=>k_is)
    (case k1=>k_is)
    (case a2=>k_is)
    (case l2=>k_is)
    (case c2=>k_is)
    (case k2=>k_is)
    (case a3=>k_is)
    (case l3=>k_is)
    (case c3=>k_is)
    (case k3=>k_is)
    (case a4=>k_is)
    (case l4=>k_is)
    (case c4=>k_is)
    (case k4=>k_is)
    (case a5=>k_is)
    (case l5=>k_is)
    (case c5=>k_is)
    (case k5=>k_is)
    (case a6=>k_is)
    (case l6=>k_is)
    (case c6=>k_is)
    (case k6=>k_is)
    (case a7=>k_is)
    (case l7=>k_is)
    (case c7=>k_is)
    (case k7=>k_is)
    (case a8=>k_is)
    (case l8=>k_is)
    (case c8=>k_is)
    (case k8=>k_is)
    (case a9=>k_is)
    (case l9=>k_is)
    (case c9=>k_is)
    (case k9=>k_is)
    (case a10=>k_is)
    (case l10=>k_is)
    (case c10=>k_is)
    (case k10=>k_is)
    (case a11=>k_is)
    (case l11=>k_is)
    (case c11=>k_is)
    (case k11=>k_is)
    (case a12=>k_is)
    (case l12=>k_is)
    (case c12=>k_is)
    (case k12=>k_is)
    (case a13=>k_is)
    (case l13=>k_is)
    (case c13=>k_is)
    (case k13=>k_is)
    (case a14=>k_is)
    (case l14=>k_is)
    (case c14=>k_is)
    (case k14=>k_is)
    (case a15=>k_is)
    (case l15=>k_is)
    (case c15=>k_is)
    (case k15=>k_is)
    (case a16=>k_is)
    (case l16=>k_is)
    (case c16=>k_is)
    (case k16=>k_is)
    (case t16=>k_is)
    (case a17=>k_is)
    (case l17=>k_is)
    (case c17=>k_is)
    (case k17=>k_is)
    (case a18=>k_is)
    (case l18=>k_is)
    (case c18=>k_is)
    (case k18=>k_is)
    (case a19=>k_is)
    (case l19=>k_is)
    (case c19=>k_is)
    (case k19=>k_is)
    (case a20=>k_is)
    (case l20=>k_is)
    (case c20=>k_is)
    (case k20=>k_is)
    (case a21=>k_is)
    (case l21=>k_is)
    (case c21=>k_is)
    (case k21=>k_is)
    (case a22=>k_is)
    (case l22=>k_is)
    (case c22=>k_is)
    (case k22=>k_is)
    (case a23=>k_is)
    (case l23=>k_is)
    (case c23=>k_is)
    (case k23=>k_is)
    (case a24=>k_is)
    (case i24=>k_is)
    (case l24=>k_is)
    (case c24=>k_is)
    (case k24=>k_is)
    (case a25=>k_is)
    (case i25=>k_is)
    (case l25=>k_is)
    (case c25=>k_is)
    (case k25=>k_is)
    (case a26=>k_is)
    (case i26=>k_is)
    (case l26=>k_is)
    (case c26=>k_is)
    (case k26=>k_is)
    (case a27=>k_is)
    (case i27=>k_is)
    (case l27=>k_is)
    (case c27=>k_is)
    (case k27=>k_is)
    (case a28=>k_is)
    (case l28=>k_is)
    (case c28=>k_is)
    (case k28=>k_is)
    (case a29=>k_is)
    (case l29=>k_is)
    (case c29=>k_is)
    (case k29=>k_is)
    (case a30=>k_is)
    (case l30=>k_is)
    (case c30=>k_is)
    (case k30=>k_is)
    (case a31_1=>k_is)
    (case a31_2=>k_is)
    (case a31_3=>k_is)
    (case a31_4=>k_is)
    (case i31=>k_is)
    (case l31=>k_is)
    (case c31=>k_is)
    (case k31=>k_is)
    (case a32=>k_is)
    (case l32=>k_is)
    (case c32=>k_is)
    (case k32=>k_is)
    (case a33=>k_is)
    (case l33=>k_is)
    (case c33=>k_is)
    (case k33=>k_is)
    (case a34=>k_is)
    (case l34=>k_is)
    (case c34=>k_is)
    (case k34=>k_is)
    (case a35=>k_is)
    (case l35=>k_is)
    (case c35=>k_is)
    (case k35=>k_is)
    (case a36=>k_is)
    (case l36=>k_is)
    (case c36=>k_is)
    (case k36=>k_is)
    (case z_any=>k_is)
    (case z_bool=>k_is)
    (case z_enumerate=>k_is)
    (case z_int=>k_is)
    (case z_isinstance=>k_is)
    (case z_len=>k_is)
    (case z_list=>k_is)
    (case z_max=>k_is)
    (case z_range=>k_is)
    (case z_reversed=>k_is)
    (case z_set=>k_is)
    (case z_sorted=>k_is)
    (case z_str=>k_is)
    (case z_tuple=>k_is)
    (case z_zip=>k_is)
    (case dC=>decide)
