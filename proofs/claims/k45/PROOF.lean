import PyProof.Rows.All
import Wide.All
import OpenK.AllK
import Wide.FinOn
import Lean
import PyProof.EqAt
import PyProof.EqKinds
import PyProof.TupleCall
import KE.BitLaws
import KE.KRevIter
import KE.KUnpack
import PyProof.ZipIter
import PyProof.StrLawsChain
import PyProof.StrBlock
import PyProof.FitsReplace
import PySem.Challenge.RW_doubthall_k45_lots_shown
set_option compiler.extract_closed false

-- CHANGE: your row's module here,as the last of these rows
set_option Elab.async false
set_option linter.all false
set_option maxRecDepth 100000
namespace L2
open PySem PySem.Spec PyProof.Rows

noncomputable abbrev Key:=Sum Int Str
noncomputable def keyIs:Key→Value→Bool
  | .inl k,v=>Value.isInt k v
  | .inr x,v=>Value.isStrOf x v
noncomputable def keyH (w:World):Key→Int
  | .inl k=>hashInt k
  | .inr x=>hashStr w x
theorem Zz:∀ {k:Key} {v:Value},keyIs k v=true→(∃ i t,k=Sum.inl i∧v=Value.int i t)∨(∃ x t,k=Sum.inr x∧v=Value.str x t)
  | .inl i,v,h=>by
    obtain ⟨t,e⟩:=Value.isInt_shape (k:=i) (v:=v) h
    exact .inl ⟨i,t,rfl,e⟩
  | .inr x,v,h=>by
    obtain ⟨t,e⟩:=Value.isStrOf_shape (x:=x) (v:=v) h
    exact .inr ⟨x,t,rfl,e⟩
theorem key_ll (a b:Int):decide ((Sum.inl a:Key)=Sum.inl b)=(a==b):=by
  by_cases e:a=b
  · subst e;simp
  · have h:¬ (Sum.inl a:Key)=Sum.inl b:=fun q=>e (Sum.inl.inj q)
    rw [decide_eq_false h]
    exact (beq_eq_false_iff_ne.mpr e).symm
theorem key_rr (a b:Str):decide ((Sum.inr a:Key)=Sum.inr b)=decide (a=b):=by
  by_cases e:a=b
  · subst e;simp
  · have h:¬ (Sum.inr a:Key)=Sum.inr b:=fun q=>e (Sum.inr.inj q)
    rw [decide_eq_false h,decide_eq_false e]
theorem key_lr (a:Int) (b:Str):decide ((Sum.inl a:Key)=Sum.inr b)=false:=decide_eq_false (fun q=>nomatch q)
theorem key_rl (a:Str) (b:Int):decide ((Sum.inr a:Key)=Sum.inl b)=false:=decide_eq_false (fun q=>nomatch q)

noncomputable def Qgx (prog:Program) (w:World):PySem.KeyKind prog w Key where
  is:=keyIs
  hash:=keyH w
  inj:=fun v a b ha hb=>by
    rcases Zz ha with ⟨i,t,rfl,rfl⟩ | ⟨x,t,rfl,rfl⟩
    · rcases Zz hb with ⟨j,u,rfl,e⟩ | ⟨y,u,rfl,e⟩
      · injection e with e1 _;rw [e1]
      · exact nomatch e
    · rcases Zz hb with ⟨j,u,rfl,e⟩ | ⟨y,u,rfl,e⟩
      · exact nomatch e
      · injection e with e1 _;rw [e1]
  byValue:=fun k v h=>by
    rcases Zz h with ⟨i,t,rfl,rfl⟩ | ⟨x,t,rfl,rfl⟩ <;> rfl
  pyHash:=fun hv h=>by
    rcases Zz hv with ⟨i,t,rfl,rfl⟩ | ⟨x,t,rfl,rfl⟩
    · exact wpAny_pyHash_int h
    · exact wpAny_pyHash_str h
  eqBool:=fun hu hv h=>by
    rcases Zz hu with ⟨i,t,rfl,rfl⟩ | ⟨x,t,rfl,rfl⟩
    · rcases Zz hv with ⟨j,u,rfl,rfl⟩ | ⟨y,u,rfl,rfl⟩
      · rw [key_ll] at h;exact wpAny_eqBool_int h
      · rw [key_lr] at h;exact SeqAt.EqAt.int_str i t y u _ _ _ _ h
    · rcases Zz hv with ⟨j,u,rfl,rfl⟩ | ⟨y,u,rfl,rfl⟩
      · rw [key_rl] at h;exact SeqAt.EqAt.str_int x t j u _ _ _ _ h
      · rw [key_rr] at h;exact wpAny_eqBool_str h
  «strs»:=fun k x t v h=>by
    rcases Zz h with ⟨i,u,rfl,e⟩ | ⟨y,u,rfl,e⟩
    · exact nomatch e
    · injection e with e1 _
      subst e1
      cases v <;> rfl

end L2

namespace L2
open PySem PySem.Spec PyProof.Rows

inductive V where
  | non | bl (b:Bool) | int (i:Int) | str (x:Str) | byt (b:Array UInt8) | flt (b:UInt64) | ref (a:Addr) | ty (n:String)
  deriving DecidableEq

noncomputable def RelV:V→Value→Prop
  | .non,u=>u=Value.none
  | .bl b,u=>u=Value.bool b
  | .int i,u=>∃ t,u=Value.int i t
  | .str x,u=>∃ t,u=Value.str x t
  | .byt b,u=>∃ t,u=Value.bytes b t
  | .flt b,u=>∃ t,u=Value.float b t
  | .ref a,u=>u=Value.ref a
  | .ty n,u=>u=Value.type n

noncomputable abbrev Vals:List V→List Value→Prop:=Paired RelV
theorem Vals.length {xs:List V} {us:List Value} (r:Vals xs us):xs.length=us.length:=Paired.length r
theorem Vals.get:∀ {xs:List V} {us:List Value} {i:Nat} {x:V},Vals xs us→xs[i]?=some x→∃ u,us[i]?=some u∧RelV x u
  | _,_,_,_,.nil,e=>by simp at e
  | _,_,0,_,.cons r _,e=>by simp at e;subst e;exact ⟨_,rfl,r⟩
  | _,_,i + 1,x,.cons _ t,e=>by
    obtain ⟨u,h1,h2⟩:=Vals.get (i:=i) (x:=x) t (by simpa using e)
    exact ⟨u,by simpa using h1,h2⟩
theorem Vals.set {x:V} {u:Value} (r:RelV x u):∀ {xs:List V} {us:List Value} (i:Nat),Vals xs us→Vals (xs.set i x) (us.set i u)
  | _,_,_,.nil => .nil
  | _,_,0,.cons _ t => .cons r t
  | _,_,i + 1,.cons q t => .cons q (Vals.set r i t)
theorem Vals.append:∀ {xs ys:List V} {us ws:List Value},Vals xs us→Vals ys ws→Vals (xs++ys) (us++ws)
  | _,_,_,_,.nil,s=>s
  | _,_,_,_,.cons r t,s => .cons r (Vals.append t s)
theorem Vals.take:∀ {xs:List V} {us:List Value} (n:Nat),Vals xs us→Vals (xs.take n) (us.take n)
  | _,_,0,_ => .nil
  | _,_,_ + 1,.nil => .nil
  | _,_,n + 1,.cons r t => .cons r (Vals.take n t)
theorem Vals.drop:∀ {xs:List V} {us:List Value} (n:Nat),Vals xs us→Vals (xs.drop n) (us.drop n)
  | _,_,0,r=>r
  | _,_,_ + 1,.nil => .nil
  | _,_,n + 1,.cons _ t=>Vals.drop n t
theorem Vals.none_of:∀ {xs:List V} {us:List Value} {i:Nat},Vals xs us→xs[i]?=none→us[i]?=none:=fun {xs us i} r e=>by
  have h1:=r.length
  have h2:xs.length≤i:=List.getElem?_eq_none_iff.mp e
  exact List.getElem?_eq_none_iff.mpr (by omega)

noncomputable def RelO:Option V→Option Value→Prop
  | some v,some u=>RelV v u
  | none,none=>True
  | _,_=>False
noncomputable def KV {κ:Type}:List (κ×V)→List (κ×Value)→Prop:=Paired fun (p : κ×V) (q : κ×Value)=>p.1=q.1∧RelV p.2 q.2

noncomputable def kV:Key→V
  | .inl i => .int i
  | .inr x => .str x

inductive HO where
  /-- a list -/
  | lst (xs:List V)
  /-- a tuple (never changes) -/
  | tup (xs:List V)
  /-- a dict whose keys are ints and texts;one whose keys are tuples of ints and texts (the empty one is both) -/
  | dK (kvs:List (Key×V)) | dT (kvs:List (List Key×V))
  /-- a set of ints: its members,its size -/
  | set (S:Int→Bool) (n:Nat)
  /-- an instance of the class at C,its dict at dx,its attributes -/
  | ins (C dx:Addr) (fs:List (Str×V))
  /-- the dict of the instance at x -/
  | own (x:Addr)
  /-- the dict of an exception -/
  | xd (fs:List (Str×V))
  /-- a bound method,f of x -/
  | met (f x:Addr)
  /-- a range object lo,lo + 1,.. below hi -/
  | rng (lo hi:Int)
  /-- a thing that is known to the object (the script;a dict while a loop walks it): read,never written while it is so -/
  | frz (o:Obj) (u:HO)
  /-- a code object's table -/
  | tbl (ps:Array Value)
  /-- any other thing,by what is true of its one object (a def of one's own: SetO a S n:=HO.ext fun h => ..) -/
  | ext (φ:Heap→Prop)

noncomputable abbrev Hp:=Addr→Option HO
noncomputable def upd (H:Hp) (a:Addr) (o:HO):Hp:=fun b=>if b=a then some o else H b
theorem Qv {H:Hp} {a:Addr} {o:HO}:upd H a o a=some o:=by unfold upd;rw [if_pos rfl]
theorem Qs {H:Hp} {a b:Addr} {o:HO} (h:b≠a):upd H a o b=H b:=by unfold upd;rw [if_neg h]
theorem Qt {H:Hp} {a b:Addr} {o:HO} (h:H a=some o) (h':H b=none):a≠b:=by
  intro e;subst e;rw [h] at h';cases h'

section
variable (P:Program) (w:World)
noncomputable def YU (H:Hp) (h:Heap) (a:Addr):HO→Prop
  | .lst xs=>xs.length≤sizeLine∧∃ (its:List Value) (n:Nat),Vals xs its∧h.get? a=some { cls := .type "list",data := .seq its.toArray n }
  | .tup xs=>xs.length≤sizeLine∧∃ its:List Value,Vals xs its∧IsTup h a its.toArray
  | .dK kvs=>kvs.length≤sizeLine∧(a==sysModules)=false∧∃ vs,KV kvs vs∧h.DictOf (Qgx P w) a vs
  | .dT kvs=>kvs.length≤sizeLine∧(a==sysModules)=false∧∃ xs:List (List Key×Addr×Value),
      Paired (fun (p:List Key×V) (q:List Key×Addr×Value)=>p.1=q.1∧H q.2.1=some (.tup (p.1.map kV))∧RelV p.2 q.2.2) kvs xs ∧
      ∃ o es ep,h.get? a=some o∧o.ExactDict∧o.data = .dict es ep∧es.toList=xs.map (entryOfKey (tupleKind (Qgx P w)))∧(xs.map (·.1)).Nodup
  | .set S n=>h.SetOf (intKind P w) a S n
  | .ins C dx fs=>H dx=some (.own a)∧fs.length≤1000∧dx≠a∧h.get? a=some (PySem.W.instObj C dx) ∧
      ∃ mA,h.Ns1 dx mA∧(∀ f,RelO (fs.lookup f) (mA f))∧PySem.Within mA (fs.map (·.1))
  | .own _=>∃ o,h.get? a=some o
  | .xd fs=>∃ mA,h.Ns1 a mA∧∀ f,RelO (fs.lookup f) (mA f)
  | .rng lo hi=>∃ t u v,h.get? a=some { cls := .type "range",data := .fields #[.int lo t,.int hi u,.int 1 v] }
  | .frz o u=>h.get? a=some o∧YU H h a u
  | .tbl ps=>h.get? a=some { cls := .none,data := .fields ps }
  | .met f x=>h.get? a=some (PySem.W.methodObj (.ref f) (.ref x))
  | .ext φ=>φ h∧(∃ o,h.get? a=some o)∧∀ h1 h2:Heap,φ h1→(∀ o,h1.get? a=some o→h2.get? a=some o)→φ h2
noncomputable def HOk (H:Hp) (h:Heap):Prop:=∀ a o,H a=some o→YU P w H h a o
end

section
variable {P:Program} {w:World} {H H':Hp} {h h':Heap} {a:Addr} {o:HO}
theorem YU.lt (x:YU P w H h a o):a < h.objs.size:=by
  cases o with
  | lst xs=>obtain ⟨_,_,_,_,e⟩:=x;exact Heap.lt_size e
  | tup xs=>obtain ⟨_,_,_,p⟩:=x;exact p.lt
  | dK kvs=>obtain ⟨_,_,_,_,o,_,_,e,_⟩:=x;exact Heap.lt_size e
  | dT kvs=>obtain ⟨_,_,_,_,o,_,_,e,_⟩:=x;exact Heap.lt_size e
  | set S n=>obtain ⟨o,_,_,_,e,_⟩:=x;exact Heap.lt_size e
  | ins C dx fs=>obtain ⟨_,_,_,e,_⟩:=x;exact Heap.lt_size e
  | own y=>obtain ⟨_,e⟩:=x;exact Heap.lt_size e
  | xd fs=>obtain ⟨_,⟨_,_,_,e,_⟩,_⟩:=x;exact Heap.lt_size e
  | rng lo hi=>obtain ⟨_,_,_,e⟩:=x;exact Heap.lt_size e
  | frz ob u=>obtain ⟨e,_⟩:=x;exact Heap.lt_size e
  | tbl ps=>exact Heap.lt_size (show h.get? a=some _ from x)
  | met f y=>exact Heap.lt_size (show h.get? a=some _ from x)
  | ext φ=>obtain ⟨_,⟨_,e⟩,_⟩:=x;exact Heap.lt_size e
theorem Paired.mapP {α β:Type} {F G:α→β→Prop}:∀ {l₁:List α} {l₂:List β},Paired F l₁ l₂→(∀ a b,F a b→G a b)→Paired G l₁ l₂
  | _,_,.nil,_ => .nil
  | _,_,.cons r t,f => .cons (f _ _ r) (Paired.mapP t f)
theorem YU.stay (x:YU P w H h a o) (k:∀ b u,(b=a∨H b=some (.own a))→h.get? b=some u→h'.get? b=some u)
    (ho:∀ b,H b=some (.own a)→H' b=some (.own a)) (ht:∀ b xs,H b=some (.tup xs)→H' b=some (.tup xs)):YU P w H' h' a o:=by
  induction o with
  | lst xs=>obtain ⟨z,its,n,r,e⟩:=x;exact ⟨z,its,n,r,k _ _ (.inl rfl) e⟩
  | tup xs=>obtain ⟨z,its,r,ob,e,c⟩:=x;exact ⟨z,its,r,ob,k _ _ (.inl rfl) e,c⟩
  | dK kvs=>obtain ⟨z,y,vs,r,ob,es,ep,e,c⟩:=x;exact ⟨z,y,vs,r,ob,es,ep,k _ _ (.inl rfl) e,c⟩
  | dT kvs =>
    obtain ⟨z,y,xs,r,ob,es,ep,e,c⟩:=x
    exact ⟨z,y,xs,Paired.mapP r fun p q z=>⟨z.1,ht _ _ z.2.1,z.2.2⟩,ob,es,ep,k _ _ (.inl rfl) e,c⟩
  | set S n=>obtain ⟨ob,es,ep,t,e,c⟩:=x;exact ⟨ob,es,ep,t,k _ _ (.inl rfl) e,c⟩
  | ins C dx fs =>
    obtain ⟨d,z,ne,e,mA,⟨od,es,ep,e2,c⟩,r⟩:=x
    exact ⟨ho _ d,z,ne,k _ _ (.inl rfl) e,mA,⟨od,es,ep,k _ _ (.inr d) e2,c⟩,r⟩
  | own y=>obtain ⟨ob,e⟩:=x;exact ⟨ob,k _ _ (.inl rfl) e⟩
  | xd fs=>obtain ⟨mA,⟨od,es,ep,e,c⟩,r⟩:=x;exact ⟨mA,⟨od,es,ep,k _ _ (.inl rfl) e,c⟩,r⟩
  | rng lo hi=>obtain ⟨t,u,v,e⟩:=x;exact ⟨t,u,v,k _ _ (.inl rfl) e⟩
  | frz ob u ih=>obtain ⟨e,q⟩:=x;exact ⟨k _ _ (.inl rfl) e,ih q⟩
  | tbl ps =>
    have e:h.get? a=some { cls := .none,data := .fields ps }:=x
    show h'.get? a=some { cls := .none,data := .fields ps }
    exact k a _ (.inl rfl) e
  | met f y =>
    have e:h.get? a=some (PySem.W.methodObj (.ref f) (.ref y)):=x
    show h'.get? a=some (PySem.W.methodObj (.ref f) (.ref y))
    exact k a _ (.inl rfl) e
  | ext φ=>obtain ⟨p,⟨o,e⟩,st⟩:=x;exact ⟨st _ _ p fun o q=>k _ _ (.inl rfl) q,⟨o,k _ _ (.inl rfl) e⟩,st⟩
theorem HOk.lt (x:HOk P w H h) (e:H a=some o):a < h.objs.size:=(x a o e).lt
theorem HOk.fresh (x:HOk P w H h) (e:h.objs.size≤a):H a=none:=by
  cases q:H a with
  | none=>rfl
  | some u=>exact absurd (Nat.lt_of_lt_of_le (x.lt q) e) (Nat.lt_irrefl _)
theorem HOk.kept (x:HOk P w H h) (k:∀ b u,h.get? b=some u→h'.get? b=some u):HOk P w H h':=fun a o e =>
  (x a o e).stay (fun b u _ q=>k b u q) (fun _ q=>q) fun _ _ q=>q
theorem HOk.laid (x:HOk P w H h) (k:∀ b u,h.get? b=some u→h'.get? b=some u) (hp:h.objs.size≤a) (new:YU P w (upd H a o) h' a o):HOk P w (upd H a o) h':=fun b u e=>by
  have hn:=x.fresh hp
  by_cases hb:b=a
  · subst hb;rw [Qv] at e;cases e;exact new
  · rw [Qs hb] at e
    exact (x b u e).stay (fun c v _ q=>k c v q) (fun c q=>by rw [Qs (Qt q hn)];exact q) fun c xs q=>by rw [Qs (Qt q hn)];exact q
end

noncomputable def Rd (H:Hp) (a:Addr) (u:HO):Prop:=H a=some u∨∃ o,H a=some (.frz o u)
theorem Rd.of {H:Hp} {a:Addr} {u:HO} (h:H a=some u):Rd H a u := .inl h
theorem Rd.ok {P:Program} {w:World} {H:Hp} {h:Heap} {a:Addr} {u:HO} (r:Rd H a u) (x:HOk P w H h):YU P w H h a u:=by
  rcases r with r | ⟨o,r⟩
  · exact x a u r
  · obtain ⟨_,q⟩:=x a _ r
    exact q
noncomputable def Mut:Option HO→Prop
  | some (.lst _)=>True
  | some (.dK _)=>True
  | some (.dT _)=>True
  | some (.set _ _)=>True
  | some (.ins _ _ _)=>True
  | some (.ext _)=>True
  | _=>False
section
variable {P:Program} {w:World} {H:Hp} {h h':Heap} {x e:Addr} {o':HO}
theorem HOk.write (ok:HOk P w H h) (mu:Mut (H x)) (he:e=x∨H e=some (.own x)) (k:∀ b u,b≠e→h.get? b=some u→h'.get? b=some u) (heo:∃ u,h'.get? e=some u)
    (new:YU P w (upd H x o') h' x o'):HOk P w (upd H x o') h':=fun b u q=>by
  have nown:∀ c y,H c=some (.own y)→c≠x:=fun c y r z=>by subst z;rw [r] at mu;exact mu
  have ntup:∀ c xs,H c=some (.tup xs)→c≠x:=fun c xs r z=>by subst z;rw [r] at mu;exact mu
  by_cases hb:b=x
  · subst hb;rw [Qv] at q;cases q;exact new
  · rw [Qs hb] at q
    by_cases hbe:b=e
    · have q':H b=some (.own x):=by
        rcases he with z | z
        · exact absurd (hbe.trans z) hb
        · rw [hbe];exact z
      rw [q] at q';cases q'
      obtain ⟨v,hv⟩:=heo
      exact ⟨v,by rw [hbe];exact hv⟩
    · refine (ok b u q).stay (fun c v hc r=>k c v ?_ r) (fun c r=>by rw [Qs (nown c b r)];exact r) fun c xs r=>by rw [Qs (ntup c xs r)];exact r
      rcases hc with rfl | hc
      · exact hbe
      · rintro rfl
        rcases he with z | z
        · exact nown c b hc z
        · rw [hc] at z;cases z;exact hb rfl
end

structure Un (fs ex:List Addr) (H H':Hp) (h h':Heap):Prop where
  keep:∀ b o,h.get? b=some o→H b=none→b∉fs→b∉ex→h'.get? b=some o
  slot:∀ b o,h.get? b=some o→H b=none→b∈fs→b∉ex→∃ sl,h'.get? b=some { o with slots:=sl }
  free:∀ b o,h.get? b=some o→H b=none→b∉ex→H' b=none
  there:∀ b o,h.get? b=some o→b∉ex→∃ o',h'.get? b=some o'
  tups:∀ b xs,H b=some (.tup xs)→H' b=some (.tup xs)
  frzs:∀ b o u,H b=some (.frz o u)→H' b=some (.frz o u)
  tbls:∀ b ps,H b=some (.tbl ps)→∃ more,H' b=some (.tbl (ps++more))
section
variable {fs fs' ex ex':List Addr} {H H1 H2:Hp} {h h1 h2 h':Heap} {a x e:Addr} {o:HO}
theorem Un.any (u:Un fs ex H H1 h h1) {b:Addr} {ob:Obj} (q:h.get? b=some ob) (n:H b=none) (hx:b∉ex):∃ sl,h1.get? b=some { ob with slots:=sl }:=by
  by_cases hb:b∈fs
  · exact u.slot b ob q n hb hx
  · exact ⟨ob.slots,u.keep b ob q n hb hx⟩
theorem Un.trans (a:Un fs ex H H1 h h1) (b:Un fs ex H1 H2 h1 h2):Un fs ex H H2 h h2 where
  keep:=fun c ob q n hc hx=>b.keep c ob (a.keep c ob q n hc hx) (a.free c ob q n hx) hc hx
  slot:=fun c ob q n hc hx=>by
    obtain ⟨sl,e1⟩:=a.slot c ob q n hc hx
    obtain ⟨sl',e2⟩:=b.slot c _ e1 (a.free c ob q n hx) hc hx
    exact ⟨sl',e2⟩
  free:=fun c ob q n hx=>by
    obtain ⟨o',e1⟩:=a.there c ob q hx
    exact b.free c o' e1 (a.free c ob q n hx) hx
  there:=fun c ob q hx=>by
    obtain ⟨o',e1⟩:=a.there c ob q hx
    exact b.there c o' e1 hx
  tups:=fun c xs q=>b.tups c xs (a.tups c xs q)
  frzs:=fun c ob xs q=>b.frzs c ob xs (a.frzs c ob xs q)
  tbls:=fun c ps q=>by
    obtain ⟨m1,e1⟩:=a.tbls c ps q
    obtain ⟨m2,e2⟩:=b.tbls c _ e1
    exact ⟨m1++m2,by rw [e2,Array.append_assoc]⟩
theorem Un.kept (k:∀ b u,h.get? b=some u→h'.get? b=some u):Un fs ex H H h h' :=
  ⟨fun b ob q _ _ _=>k b ob q,fun b ob q _ _ _=>⟨ob.slots,k b ob q⟩,fun _ _ _ n _=>n,fun b ob q _=>⟨ob,k b ob q⟩,fun _ _ q=>q,fun _ _ _ q=>q,fun _ ps q=>⟨#[],by rw [q];simp⟩⟩
theorem Un.refl:Un fs ex H H h h:=Un.kept fun _ _ q=>q
theorem Un.laid (k:∀ b u,h.get? b=some u→h'.get? b=some u) (hp:h.objs.size≤a) (hn:H a=none):Un fs ex H (upd H a o) h h' where
  keep:=fun b u q _ _ _=>k b u q
  slot:=fun b u q _ _ _=>⟨u.slots,k b u q⟩
  free:=fun b u q n _=>by rw [Qs (Nat.ne_of_lt (Nat.lt_of_lt_of_le (Heap.lt_size q) hp))];exact n
  there:=fun b u q _=>⟨u,k b u q⟩
  tups:=fun b xs q=>by rw [Qs (Qt q hn)];exact q
  frzs:=fun b u xs q=>by rw [Qs (Qt q hn)];exact q
  tbls:=fun b ps q=>⟨#[],by rw [Qs (Qt q hn),q];simp⟩
theorem Un.write (mu:Mut (H x)) (he:e=x∨H e=some (.own x)) (k:∀ b u,b≠e→h.get? b=some u→h'.get? b=some u) (heo:∃ u,h'.get? e=some u):Un fs ex H (upd H x o) h h':=by
  have hx:∀ b,H b=none→b≠x:=fun b n z=>by subst z;rw [n] at mu;exact mu
  have hb:∀ b,H b=none→b≠e:=fun b n z=>by
    subst z
    rcases he with r | r
    · exact hx b n r
    · rw [n] at r;cases r
  have hm:∀ b u,H b=some u→¬ Mut (some u)→b≠x:=fun b u q nm z=>by subst z;rw [q] at mu;exact nm mu
  refine ⟨fun b u q n _ _=>k b u (hb b n) q,fun b u q n _ _=>⟨u.slots,k b u (hb b n) q⟩,fun b u q n _=>by rw [Qs (hx b n)];exact n,fun b u q _ => ?_,
    fun b xs q=>by rw [Qs (hm b _ q fun z=>z)];exact q,fun b u xs q=>by rw [Qs (hm b _ q fun z=>z)];exact q,fun b ps q=>⟨#[],by rw [Qs (hm b _ q fun z=>z),q];simp⟩⟩
  by_cases hbe:b=e
  · subst hbe;exact heo
  · exact ⟨u,k b u hbe q⟩
theorem Un.mono (u:Un fs ex H H1 h h1) (hs:∀ b∈fs,b∈fs') (hx:∀ b∈ex,b∈ex'):Un fs' ex' H H1 h h1 :=
  ⟨fun b ob q n hb he=>u.keep b ob q n (fun z=>hb (hs b z)) fun z=>he (hx b z),fun _ _ q n _ he=>u.any q n fun z=>he (hx _ z),fun b ob q n he=>u.free b ob q n fun z=>he (hx b z),fun b ob q he=>u.there b ob q fun z=>he (hx b z),u.tups,u.frzs,u.tbls⟩
end

noncomputable def trk (h:Heap) (H:Hp):List Addr:=(List.range h.objs.size).filter fun a=>(H a).isSome
noncomputable def hidT (h:Heap) (H:Hp):Heap:=PySem.W.hideAll h (trk h H)
theorem QkS (h:Heap) (H:Hp):(hidT h H).objs.size=h.objs.size:=PySem.W.hideAll_size _ _
theorem hidT_get {h:Heap} {H:Hp} {b:Addr} {o:Obj} (e:h.get? b=some o) (n:H b=none):(hidT h H).get? b=some o :=
  PySem.W.hideAll_get _ e fun hm=>by
    have q:(H b).isSome=true:=(List.mem_filter.mp hm).2
    rw [n] at q;simp at q
theorem of_hidT {h:Heap} {H:Hp} {b:Addr} {o:Obj} (e:(hidT h H).get? b=some o):h.get? b=some o∧H b=none:=by
  have e':h.get? b=some o:=PySem.W.of_hideAll (trk h H) e
  refine ⟨e',?_⟩
  cases q:H b with
  | none=>rfl
  | some x =>
    have hm:b∈trk h H:=List.mem_filter.mpr ⟨List.mem_range.mpr (Heap.lt_size e'),by simp [q]⟩
    have z:(hidT h H).get? b=none:=PySem.W.hideAll_none (trk h H) hm
    rw [z] at e;cases e

noncomputable def allNews (g h:Heap) (L:Addr):List (Addr×Obj):=(List.range h.objs.size).filterMap fun a=>if a=L∨(g.get? a).isSome=true then none else (h.get? a).map fun o=>(a,o)
noncomputable def rest (g h:Heap) (L d:Addr):List (Addr×Obj):=(allNews g h L).filter fun p=>decide (p.1≠d)
end L2

namespace L2
open PySem PySem.Spec PyProof.Rows

structure Mod (K:PySem.W.Frag) (mg:Str→Option Value) (base:Heap):Prop where
  kin:K.In base
  glob:base.Ns mainGlobals mg
  blt:∃ mb,base.Ns builtinsNs mb∧∀ x:Str,x ≠ "__name__"→mb x=bootBuiltins x
  nolimit:base.NoLimit

structure Cx where
  prog:Program
  w:World
  K:PySem.W.Frag
  mg:Str→Option Value
  base:Heap
  A:Around
  N:List Str
  s₀:Shared
  H₀:Hp
  env:Env
  outer:List Env
  stack:List Env
  ex:List Addr
  fn:Str→Bool
  calm:Bool
  pn:List (Addr×Obj)
  xe:Value→Shared→Prop
noncomputable def frs (l:List Env):List Addr:=l.filterMap (·.frame)
noncomputable abbrev Cx.fs (X:Cx):List Addr:=frs X.outer

noncomputable def Vis (sc:Scope) (x:Str):Prop:=sc.names.lookup x=some .local∨sc.names.lookup x=some .cell∨sc.names.lookup x=some .free
noncomputable def Loc (sc:Scope) (x:Str):Prop:=sc.names.lookup x=some .local∨sc.names.lookup x=some .cell
noncomputable def Look (env:Env) (h:Heap) (m:Str→Option Value) (x:Str) (u:Value):Prop :=
  (env.kindOf x=some .local∧m x=some u)∨((env.kindOf x=some .cell∨env.kindOf x=some .free)∧∃ c,env.cells.lookup x=some c∧h.IsCell c (some u))

structure Cx.Ok (X:Cx):Prop where
  mod:Mod X.K X.mg X.base
  kind:X.env.scope.kind = .function
  glob:X.env.globals=mainGlobals
  blt:X.env.builtins=builtinsNs
  above:X.s₀.heap.objs.size≤X.env.locals
  inj:∀ x y c,X.env.cells.lookup x=some c→X.env.cells.lookup y=some c→x=y
  has:∀ x,(X.env.kindOf x=some .cell∨X.env.kindOf x=some .free)→∃ c,X.env.cells.lookup x=some c
  cab:∀ x c,X.fn x=true→X.env.cells.lookup x=some c→X.s₀.heap.objs.size≤c
  hd:X.calm=true→X.A.handled=none
  frames:X.A.frames=some X.stack
  stk:X.stack=X.outer∨(X.stack=X.env :: X.outer∧X.env.frame=some X.env.locals)
  exf:∀ b∈X.ex,b≠X.env.locals∧∀ x c,X.env.cells.lookup x=some c→c≠b
  bs:∀ b o,X.base.get? b=some o→X.s₀.heap.get? b=some o∧X.H₀ b=none
  bsz:X.base.objs.size≤X.s₀.heap.objs.size
  noex:∀ b o,X.base.get? b=some o→b∉X.ex
  exfs:∀ b∈X.ex,b∉X.fs
  funs:X.s₀.heap.FunFrames X.base X.outer
  frf:∀ b∈X.fs,X.H₀ b=none

structure Inv (X:Cx) (pins:List (Addr×Obj)) (σ:List (Option V)) (H:Hp) (s:Shared):Prop where
  ok:X.Ok
  os:s.os=X.s₀.os
  bare:AllBare s.gens
  base:Un X.fs X.ex X.H₀ H X.s₀.heap s.heap
  loc:∃ m,s.heap.Ns X.env.locals m∧∀ (i:Nat) (x:Str) (v:V),X.N[i]?=some x→σ[i]?=some (some v)→Vis X.env.scope x→∃ u,RelV v u∧Look X.env s.heap m x u
  cell:∀ x c,X.env.cells.lookup x=some c→∃ v,s.heap.IsCell c v
  free:H X.env.locals=none
  freeC:∀ x c,X.env.cells.lookup x=some c→H c=none
  pin:∀ p∈X.pn++pins,s.heap.get? p.1=some p.2∧H p.1=none∧p.1≠X.env.locals∧p.1∉X.fs∧∀ v,p.2.data ≠ .cell v
  hok:HOk X.prog X.w H s.heap
  len:σ.length=X.N.length

section
variable {X:Cx} {pins:List (Addr×Obj)} {σ:List (Option V)} {H H':Hp} {s:Shared} {h':Heap}

theorem Cx.Ok.nofr (ok:X.Ok) {b:Addr} {o:Obj} (e:X.base.get? b=some o):b∉X.fs:=fun hb=>by
  have:=(ok.funs.mem hb).1
  rw [e] at this;cases this
theorem Inv.bs (I:Inv X pins σ H s):∀ b o,X.base.get? b=some o→s.heap.get? b=some o∧H b=none:=fun b o e =>
  ⟨I.base.keep b o (I.ok.bs b o e).1 (I.ok.bs b o e).2 (I.ok.nofr e) (I.ok.noex b o e),I.base.free b o (I.ok.bs b o e).1 (I.ok.bs b o e).2 (I.ok.noex b o e)⟩
theorem Inv.bk (I:Inv X pins σ H s):∀ b o,X.base.get? b=some o→s.heap.get? b=some o:=fun b o e=>(I.bs b o e).1
theorem Inv.mod (I:Inv X pins σ H s):Mod X.K X.mg X.base:=I.ok.mod
theorem Inv.kIn (I:Inv X pins σ H s):X.K.In s.heap:=I.ok.mod.kin.keeps I.bk
theorem Inv.nolimit (I:Inv X pins σ H s):s.heap.NoLimit:=I.ok.mod.nolimit.keeps I.bk
theorem Inv.lt (I:Inv X pins σ H s):X.env.locals < s.heap.objs.size:=let ⟨_,hn,_⟩:=I.loc;hn.lt
theorem Inv.sz (I:Inv X pins σ H s):X.s₀.heap.objs.size≤s.heap.objs.size:=Nat.le_trans I.ok.above (Nat.le_of_lt I.lt)
theorem Inv.nofs (I:Inv X pins σ H s) {a:Addr} (h:s.heap.objs.size≤a):a∉X.fs:=fun hb=>by
  obtain ⟨_,o,ho,_⟩:=I.ok.funs.mem hb
  exact absurd (Nat.lt_of_lt_of_le (Heap.lt_size ho) (Nat.le_trans I.sz h)) (Nat.lt_irrefl _)
theorem Inv.cne (I:Inv X pins σ H s):∀ x c,X.env.cells.lookup x=some c→c≠X.env.locals:=fun x c e z=>by
  obtain ⟨v,o,ho,hd⟩:=I.cell x c e
  obtain ⟨m,⟨o',es,ep,ho',hd',_⟩,_⟩:=I.loc
  rw [z,ho'] at ho;cases ho;rw [hd'] at hd;cases hd
theorem Inv.funs (I:Inv X pins σ H s):s.heap.FunFrames X.base X.outer:=by
  have all:∀ (l:List Env),(∀ b∈frs l,b∈X.fs)→X.s₀.heap.FunFrames X.base l→s.heap.FunFrames X.base l:=by
    intro l
    induction l with
    | nil=>intro _ _;trivial
    | cons env r ih =>
      intro hs hl
      obtain ⟨hk,⟨L,o,hf,hn,ho,hd⟩,hr⟩:=hl
      have hL:L∈X.fs:=hs L (by unfold frs;rw [List.filterMap_cons,hf];exact List.mem_cons_self)
      obtain ⟨sl,e⟩:=I.base.slot L o ho (I.ok.frf L hL) hL fun z=>I.ok.exfs L z hL
      exact ⟨hk,⟨L,_,hf,hn,e,hd⟩,ih (fun b hb=>hs b (by unfold frs;rw [List.filterMap_cons,hf];exact List.mem_cons_of_mem _ hb)) hr⟩
  exact all X.outer (fun _ hb=>hb) I.ok.funs

theorem Inv.stack (I:Inv X pins σ H s):s.heap.FunFrames X.base X.stack:=by
  rcases I.ok.stk with e | ⟨e,hf⟩
  · rw [e];exact I.funs
  · rw [e]
    obtain ⟨m,hn,_⟩:=I.loc
    refine .cons (by rw [I.ok.kind];decide) hf hn ?_ I.funs
    exact Heap.get?_none_of_le (Nat.le_trans I.ok.bsz I.ok.above)
theorem Inv.stkSub (I:Inv X pins σ H s):∀ b∈frs X.stack,b∈X.env.locals :: X.fs:=fun b hb=>by
  rcases I.ok.stk with e | ⟨e,hf⟩
  · rw [e] at hb;exact List.mem_cons_of_mem _ hb
  · rw [e] at hb
    unfold frs at hb
    rw [List.filterMap_cons,hf] at hb
    exact hb
theorem Inv.stkFree (I:Inv X pins σ H s):∀ b∈frs X.stack,H b=none:=fun b hb=>by
  rcases List.mem_cons.mp (I.stkSub b hb) with e | hb
  · rw [e];exact I.free
  · obtain ⟨_,o,ho,_⟩:=I.ok.funs.mem hb
    exact I.base.free b o ho (I.ok.frf b hb) fun z=>I.ok.exfs b z hb

theorem Inv.step {g':Array GenState} {t':Nat} {d':Drawn} {ch:List Addr} (I:Inv X pins σ H s)
    (hch:∀ b∈ch,(b∈X.ex∨X.s₀.heap.objs.size≤b)∧b≠X.env.locals∧(∀ x c,X.env.cells.lookup x=some c→c≠b)∧∀ p∈X.pn++pins,p.1≠b)
    (keep:∀ b o,b≠X.env.locals→b∉X.fs→b∉ch→s.heap.get? b=some o→H b=none→h'.get? b=some o)
    (slot:∀ b o,b≠X.env.locals→b∈X.fs→b∉ch→s.heap.get? b=some o→H b=none→∃ sl,h'.get? b=some { o with slots:=sl }) (free:∀ b o,b∉ch→s.heap.get? b=some o→H b=none→H' b=none)
    (there:∀ b o,b∉ch→s.heap.get? b=some o→∃ o',h'.get? b=some o')
    (tups:∀ b xs,H b=some (.tup xs)→H' b=some (.tup xs)) (frzs:∀ b o u,H b=some (.frz o u)→H' b=some (.frz o u)) (tbls:∀ b ps,H b=some (.tbl ps)→∃ more,H' b=some (.tbl (ps++more)))
    (ns:∀ m,s.heap.Ns X.env.locals m→h'.Ns X.env.locals m) (hok:HOk X.prog X.w H' h') (hg:AllBare g') :
    Inv X pins σ H' { s with heap:=h',gens:=g',drawn:=d',toks:=t' }:=by
  have neL:∀ b o,X.s₀.heap.get? b=some o→b≠X.env.locals:=fun b o e=>Nat.ne_of_lt (Nat.lt_of_lt_of_le (Heap.lt_size e) I.ok.above)
  have neC:∀ b o,X.s₀.heap.get? b=some o→b∉X.ex→b∉ch:=fun b o e hx hb=>by
    rcases (hch b hb).1 with z | z
    · exact hx z
    · exact absurd (Nat.lt_of_lt_of_le (Heap.lt_size e) z) (Nat.lt_irrefl _)
  have cellK:∀ x c,X.env.cells.lookup x=some c→∀ v,s.heap.IsCell c v→h'.IsCell c v:=fun x c e v ⟨o,ho,hd⟩=>by
    have nch:c∉ch:=fun z=>(hch c z).2.2.1 x c e rfl
    by_cases hc:c∈X.fs
    · obtain ⟨sl,q⟩:=slot c o (I.cne x c e) hc nch ho (I.freeC x c e)
      exact ⟨_,q,hd⟩
    · exact ⟨o,keep c o (I.cne x c e) hc nch ho (I.freeC x c e),hd⟩
  refine ⟨I.ok,I.os,hg,⟨fun b o e n hb hx => ?_,fun b o e n hb hx => ?_,fun b o e n hx => ?_,fun b o e hx => ?_,fun b xs e=>tups b xs (I.base.tups b xs e),fun b o xs e=>frzs b o xs (I.base.frzs b o xs e),fun b ps e => ?_⟩,?_,fun x c e => ?_,?_,fun x c e => ?_,fun p hp => ?_,hok,I.len⟩
  · exact keep b o (neL b o e) hb (neC b o e hx) (I.base.keep b o e n hb hx) (I.base.free b o e n hx)
  · obtain ⟨sl,e1⟩:=I.base.slot b o e n hb hx
    obtain ⟨sl',e2⟩:=slot b _ (neL b o e) hb (neC b o e hx) e1 (I.base.free b o e n hx)
    exact ⟨sl',e2⟩
  · obtain ⟨o',e1⟩:=I.base.there b o e hx
    exact free b o' (neC b o e hx) e1 (I.base.free b o e n hx)
  · obtain ⟨o',e1⟩:=I.base.there b o e hx
    exact there b o' (neC b o e hx) e1
  · obtain ⟨m1,e1⟩:=I.base.tbls b ps e
    obtain ⟨m2,e2⟩:=tbls b _ e1
    exact ⟨m1++m2,by rw [e2,Array.append_assoc]⟩
  · obtain ⟨m,hn,hl⟩:=I.loc
    refine ⟨m,ns m hn,fun i x v e1 e2 e3 => ?_⟩
    obtain ⟨u,r,l⟩:=hl i x v e1 e2 e3
    refine ⟨u,r,?_⟩
    rcases l with l | ⟨k,c,e,z⟩
    · exact .inl l
    · exact .inr ⟨k,c,e,cellK x c e _ z⟩
  · obtain ⟨v,z⟩:=I.cell x c e
    exact ⟨v,cellK x c e v z⟩
  · obtain ⟨m,⟨o,_,_,ho,_⟩,_⟩:=I.loc
    exact free _ o (fun z=>(hch _ z).2.1 rfl) ho I.free
  · obtain ⟨v,o,ho,hd⟩:=I.cell x c e
    exact free c o (fun z=>(hch c z).2.2.1 x c e rfl) ho (I.freeC x c e)
  · obtain ⟨e,n,ne,nf,d⟩:=I.pin p hp
    have nch:p.1∉ch:=fun z=>(hch p.1 z).2.2.2 p hp rfl
    exact ⟨keep p.1 p.2 ne nf nch e n,free p.1 p.2 nch e n,ne,nf,d⟩
theorem Inv.un {t':Nat} (I:Inv X pins σ H s) (u:Un X.fs [] H H' s.heap h') (hok:HOk X.prog X.w H' h'):Inv X pins σ H' { s with heap:=h',toks:=t' }:=by
  obtain ⟨m,⟨o,es,ep,ho,r⟩,_⟩:=id I.loc
  obtain ⟨sl,hL⟩:=u.any ho I.free (by simp)
  exact I.step (g':=s.gens) (d':=s.drawn) (ch:=[]) (fun _ z=>nomatch z) (fun b o _ hb _ e n=>u.keep b o e n hb (by simp)) (fun b o _ hb _ e n=>u.slot b o e n hb (by simp)) (fun b o _ e n=>u.free b o e n (by simp)) (fun b o _ e=>u.there b o e (by simp)) u.tups u.frzs u.tbls (fun m' hm=>by
    obtain ⟨o',es',ep',ho',r'⟩:=hm
    rw [ho] at ho';cases ho'
    exact ⟨_,es',ep',hL,r'⟩) hok I.bare
theorem Inv.call {g':Array GenState} {t':Nat} {d':Drawn} {ch:List Addr} (I:Inv X pins σ H s) (u:Un (frs X.stack) ch H H' s.heap h') (hok:HOk X.prog X.w H' h') (hg:AllBare g')
    (hch:∀ b∈ch,(b∈X.ex∨X.s₀.heap.objs.size≤b)∧b≠X.env.locals∧(∀ x c,X.env.cells.lookup x=some c→c≠b)∧∀ p∈X.pn++pins,p.1≠b) :
    Inv X pins σ H' { s with heap:=h',gens:=g',drawn:=d',toks:=t' }:=by
  obtain ⟨m,⟨o,es,ep,ho,r⟩,_⟩:=id I.loc
  obtain ⟨sl,hL⟩:=u.any ho I.free fun z=>(hch _ z).2.1 rfl
  exact I.step (ch:=ch) hch (fun b o hL hb hc e n=>u.keep b o e n (fun z=>(List.mem_cons.mp (I.stkSub b z)).elim hL hb) hc) (fun b o _ _ hc e n=>u.any e n hc) (fun b o hc e n=>u.free b o e n hc) (fun b o hc e=>u.there b o e hc) u.tups u.frzs u.tbls (fun m' hm=>by
    obtain ⟨o',es',ep',ho',r'⟩:=hm
    rw [ho] at ho';cases ho'
    exact ⟨_,es',ep',hL,r'⟩) hok hg
theorem Inv.turned {t':Nat} {it:Addr} (I:Inv X pins σ H s) (k:∀ b o,b≠it→s.heap.get? b=some o→h'.get? b=some o) (hn:H it=none) (hL:it≠X.env.locals)
    (h1:it∈X.ex∨X.s₀.heap.objs.size≤it) (h2:∀ x c,X.env.cells.lookup x=some c→c≠it) (h3:∀ p∈X.pn++pins,p.1≠it):Inv X pins σ H { s with heap:=h',toks:=t' }:=by
  have nit:∀ b u,H b=some u→b≠it:=fun b u e z=>by rw [z,hn] at e;cases e
  refine I.step (g':=s.gens) (d':=s.drawn) (ch:=[it]) (fun b hb => ?_) (fun b o _ _ hc e _=>k b o (fun z=>hc (by simp [z])) e) (fun b o _ _ hc e _=>⟨o.slots,k b o (fun z=>hc (by simp [z])) e⟩) (fun _ _ _ _ n=>n)
    (fun b o hc e=>⟨o,k b o (fun z=>hc (by simp [z])) e⟩) (fun _ _ e=>e) (fun _ _ _ e=>e) (fun b ps e=>⟨#[],by rw [e];simp⟩) (fun m hm => ?_) (fun b u e => ?_) I.bare
  · have e:b=it:=by simpa using hb
    subst e
    exact ⟨h1,hL,h2,h3⟩
  · obtain ⟨o,es,ep,ho,r⟩:=hm
    exact ⟨o,es,ep,k _ o (Ne.symm hL) ho,r⟩
  · refine (I.hok b u e).stay (fun c v hc q=>k c v ?_ q) (fun _ q=>q) fun _ _ q=>q
    rcases hc with z | z
    · rw [z];exact nit b u e
    · exact nit c _ z
theorem Inv.tok (I:Inv X pins σ H s) (t:Nat):Inv X pins σ H { s with toks:=t }:=I.un (h':=s.heap) (t':=t) Un.refl I.hok
theorem Inv.kept {t':Nat} (I:Inv X pins σ H s) (k:∀ b u,s.heap.get? b=some u→h'.get? b=some u):Inv X pins σ H { s with heap:=h',toks:=t' }:=I.un (Un.kept k) (I.hok.kept k)
theorem Inv.laid {a:Addr} {o:HO} {t':Nat} (I:Inv X pins σ H s) (k:∀ b u,s.heap.get? b=some u→h'.get? b=some u) (hp:s.heap.objs.size≤a) (new:YU X.prog X.w (upd H a o) h' a o) :
    Inv X pins σ (upd H a o) { s with heap:=h',toks:=t' }:=I.un (Un.laid k hp (I.hok.fresh hp)) (I.hok.laid k hp new)
theorem Inv.write {x e:Addr} {o:HO} {t':Nat} (I:Inv X pins σ H s) (mu:Mut (H x)) (he:e=x∨H e=some (.own x)) (k:∀ b u,b≠e→s.heap.get? b=some u→h'.get? b=some u) (heo:∃ u,h'.get? e=some u)
    (new:YU X.prog X.w (upd H x o) h' x o):Inv X pins σ (upd H x o) { s with heap:=h',toks:=t' }:=I.un (Un.write mu he k heo) (I.hok.write mu he k heo new)
theorem Inv.weak {σ':List (Option V)} (I:Inv X pins σ H s) (hl:σ'.length=σ.length) (w:∀ (i:Nat) v,σ'[i]?=some (some v)→σ[i]?=some (some v)):Inv X pins σ' H s :=
  ⟨I.ok,I.os,I.bare,I.base,let ⟨m,hn,hl'⟩:=I.loc;⟨m,hn,fun i x v e1 e2 e3=>hl' i x v e1 (w i v e2) e3⟩,I.cell,I.free,I.freeC,I.pin,I.hok,hl.trans I.len⟩
theorem Inv.pins_of {pins':List (Addr×Obj)} (I:Inv X pins σ H s) (h:∀ p∈pins',s.heap.get? p.1=some p.2∧H p.1=none∧p.1≠X.env.locals∧p.1∉X.fs∧∀ v,p.2.data ≠ .cell v):Inv X pins' σ H s :=
  ⟨I.ok,I.os,I.bare,I.base,I.loc,I.cell,I.free,I.freeC,fun p hp=>(List.mem_append.mp hp).elim (fun z=>I.pin p (List.mem_append_left _ z)) (h p),I.hok,I.len⟩

theorem QhO {N:List Str} (hN:N.Nodup) {i j:Nat} {x:Str} (a:N[i]?=some x) (b:N[j]?=some x):i=j:=by
  obtain ⟨h1,e1⟩:=List.getElem?_eq_some_iff.mp a
  obtain ⟨h2,e2⟩:=List.getElem?_eq_some_iff.mp b
  exact (List.getElem_inj hN).mp (e1.trans e2.symm)

theorem Qfu {M:Model} {A:Around} {E:Value→Shared→Prop} {i:Nat} {x:Str} {v:V} {u:Value} {Q:Unit→Shared→Prop} (I:Inv X pins σ H s) (hN:X.N.Nodup) (hi:X.N[i]?=some x) (hx:Loc X.env.scope x) (r:RelV v u)
    (h:∀ s',Inv X pins (σ.set i (some v)) H s'→(∃ a,Heap.SameBut a s.heap s'.heap∧(a=X.env.locals∨X.env.cells.lookup x=some a))→Q () s') (hf:X.fn x=true∨X.env.scope.names.lookup x=some .local:=by first | exact .inl rfl | exact .inr rfl | assumption):wpAny M A (storeName X.env x u) Q E s:=by
  obtain ⟨m,hn,hl⟩:=id I.loc
  have hcls:(X.env.scope.kind == .class||(X.env.scope.kind == .module&&X.env.locals != X.env.globals))=false:=by rw [I.ok.kind];rfl
  have hiσ:i < σ.length:=by rw [I.len];exact (List.getElem?_eq_some_iff.mp hi).1
  have cne:=I.cne
  have tracked:∀ {a:Addr} {h':Heap},(∃ o,s.heap.get? a=some o∧H a=none)→Heap.SameBut a s.heap h'→HOk X.prog X.w H h':=fun {a h'} ha hs b ob e=>by
    obtain ⟨_,_,hfree⟩:=ha
    refine (I.hok b ob e).stay (fun c w' hc q=>(hs.2 c ?_).trans q) (fun _ q=>q) fun _ _ q=>q
    rintro rfl
    rcases hc with rfl | hc
    · rw [hfree] at e;cases e
    · rw [hfree] at hc;cases hc
  rcases hx with hk | hk
  · refine wpAny_storeName_local hk hn (fun h' hn' hs => ?_) hcls
    obtain ⟨oL,_,_,hoL,_⟩:=id hn
    refine h _ ⟨I.ok,I.os,I.bare,⟨fun b o e n hb hx => ?_,fun b o e n hb hx => ?_,I.base.free,fun b o e hx => ?_,I.base.tups,I.base.frzs,I.base.tbls⟩,⟨_,hn',fun j y v' e1 e2 e3 => ?_⟩,fun y c e => ?_,I.free,I.freeC,fun p hp => ?_,tracked ⟨oL,hoL,I.free⟩ hs,by simpa using I.len⟩ ⟨_,hs,.inl rfl⟩
    · exact (hs.2 b (Nat.ne_of_lt (Nat.lt_of_lt_of_le (Heap.lt_size e) I.ok.above))).trans (I.base.keep b o e n hb hx)
    · obtain ⟨sl,e1⟩:=I.base.slot b o e n hb hx
      exact ⟨sl,(hs.2 b (Nat.ne_of_lt (Nat.lt_of_lt_of_le (Heap.lt_size e) I.ok.above))).trans e1⟩
    · obtain ⟨o',e1⟩:=I.base.there b o e hx
      exact ⟨o',(hs.2 b (Nat.ne_of_lt (Nat.lt_of_lt_of_le (Heap.lt_size e) I.ok.above))).trans e1⟩
    · by_cases hj:j=i
      · subst hj
        rw [hi] at e1;cases e1
        rw [List.getElem?_set_self hiσ] at e2
        cases e2
        exact ⟨u,r,.inl ⟨hk,by simp⟩⟩
      · rw [List.getElem?_set_ne (Ne.symm hj)] at e2
        obtain ⟨u',r',q⟩:=hl j y v' e1 e2 e3
        refine ⟨u',r',?_⟩
        rcases q with ⟨k,e⟩ | ⟨k,c,e,z⟩
        · refine .inl ⟨k,?_⟩
          have:y≠x:=fun e=>hj (QhO hN e1 (e ▸ hi))
          simp [this,e]
        · exact .inr ⟨k,c,e,z.sameBut hs (cne y c e)⟩
    · obtain ⟨w',z⟩:=I.cell y c e
      exact ⟨w',z.sameBut hs (cne y c e)⟩
    · obtain ⟨e,n,ne,nf,d⟩:=I.pin p hp
      exact ⟨(hs.2 p.1 ne).trans e,n,ne,nf,d⟩
  · have hfn:X.fn x=true:=by
      rcases hf with z | z
      · exact z
      · rw [z] at hk;cases hk
    obtain ⟨c,hc⟩:=I.ok.has x (.inl hk)
    obtain ⟨w',z⟩:=I.cell x c hc
    refine wpAny_storeName_cell I.ok.kind hk hc z (fun h' hc' hs => ?_)
    obtain ⟨oc,hoc,hocd⟩:=id z
    refine h { s with heap:=h' } ⟨I.ok,I.os,I.bare,⟨fun b o e n hb hx => ?_,fun b o e n hb hx => ?_,I.base.free,fun b o e hx => ?_,I.base.tups,I.base.frzs,I.base.tbls⟩,⟨m,hn.sameBut hs (Ne.symm (cne x c hc)),fun j y v' e1 e2 e3 => ?_⟩,fun y c' e => ?_,I.free,I.freeC,fun p hp => ?_,tracked ⟨oc,hoc,I.freeC x c hc⟩ hs,by simpa using I.len⟩ ⟨c,hs,.inr hc⟩
    · exact (hs.2 b (Nat.ne_of_lt (Nat.lt_of_lt_of_le (Heap.lt_size e) (I.ok.cab x c hfn hc)))).trans (I.base.keep b o e n hb hx)
    · obtain ⟨sl,e1⟩:=I.base.slot b o e n hb hx
      exact ⟨sl,(hs.2 b (Nat.ne_of_lt (Nat.lt_of_lt_of_le (Heap.lt_size e) (I.ok.cab x c hfn hc)))).trans e1⟩
    · obtain ⟨o',e1⟩:=I.base.there b o e hx
      exact ⟨o',(hs.2 b (Nat.ne_of_lt (Nat.lt_of_lt_of_le (Heap.lt_size e) (I.ok.cab x c hfn hc)))).trans e1⟩
    · by_cases hj:j=i
      · subst hj
        rw [hi] at e1;cases e1
        rw [List.getElem?_set_self hiσ] at e2
        cases e2
        exact ⟨u,r,.inr ⟨.inl hk,c,hc,hc'⟩⟩
      · rw [List.getElem?_set_ne (Ne.symm hj)] at e2
        obtain ⟨u',r',q⟩:=hl j y v' e1 e2 e3
        refine ⟨u',r',?_⟩
        rcases q with q | ⟨k,c',e,z'⟩
        · exact .inl q
        · refine .inr ⟨k,c',e,z'.sameBut hs ?_⟩
          rintro rfl
          exact hj (QhO hN e1 (I.ok.inj _ _ _ e hc ▸ hi))
    · by_cases hcc:c'=c
      · subst hcc;exact ⟨_,hc'⟩
      · obtain ⟨w2,z2⟩:=I.cell y c' e
        exact ⟨w2,z2.sameBut hs hcc⟩
    · obtain ⟨e,n,ne,nf,d⟩:=I.pin p hp
      refine ⟨(hs.2 p.1 ?_).trans e,n,ne,nf,d⟩
      intro q
      rw [q,hoc] at e
      have q':oc=p.2:=Option.some.inj e
      exact d w' (by rw [← q'];exact hocd)
theorem Qey {M:Model} {A:Around} {E:Value→Shared→Prop} {i:Nat} {x:Str} {v:V} {u:Value} {Q:Unit→Shared→Prop} (I:Inv X pins σ H s) (hN:X.N.Nodup) (hi:X.N[i]?=some x) (hx:Loc X.env.scope x) (r:RelV v u)
    (h:∀ s',Inv X pins (σ.set i (some v)) H s'→Q () s') (hf:X.fn x=true∨X.env.scope.names.lookup x=some .local:=by first | exact .inl rfl | exact .inr rfl | assumption):wpAny M A (storeName X.env x u) Q E s :=
  Qfu I hN hi hx r (fun s' I' _=>h s' I') hf
theorem Inv.call' {s':Shared} {ch:List Addr} (I:Inv X pins σ H s) (ho:s'.os=s.os) (u:Un (frs X.stack) ch H H' s.heap s'.heap) (hok:HOk X.prog X.w H' s'.heap) (hg:AllBare s'.gens)
    (hch:∀ b∈ch,(b∈X.ex∨X.s₀.heap.objs.size≤b)∧b≠X.env.locals∧(∀ x c,X.env.cells.lookup x=some c→c≠b)∧∀ p∈X.pn++pins,p.1≠b):Inv X pins σ H' s':=by
  obtain ⟨h',g',d',t',o'⟩:=s'
  have e:o'=s.os:=ho
  subst e
  exact I.call (g':=g') (t':=t') (d':=d') u hok hg hch
end

noncomputable abbrev XK:=Value→Option Addr→Hp→Prop
noncomputable abbrev St:=List (Option V)
noncomputable abbrev VK:=V→Hp→Prop
noncomputable abbrev TE:=St→Hp→VK→Prop
noncomputable abbrev TT:=St→Hp→(Bool→Hp→Prop)→Prop
noncomputable abbrev TA:=St→Hp→(List V→Hp→Prop)→Prop
structure Ends where
  nx:St→Hp→Prop
  rt:VK
  bk:St→Hp→Prop:=fun _ _=>False
  ct:St→Hp→Prop:=fun _ _=>False
noncomputable abbrev TS:=Ends→St→Hp→Prop

noncomputable def EP (X:Cx) (pins:List (Addr×Obj)) (σ:St) (Q:VK) (u:Value) (s':Shared):Prop:=∃ v H',Inv X pins σ H' s'∧RelV v u∧Q v H'
noncomputable def TP (X:Cx) (pins:List (Addr×Obj)) (σ:St) (Q:Bool→Hp→Prop) (b:Bool) (s':Shared):Prop:=∃ H',Inv X pins σ H' s'∧Q b H'
noncomputable def AP (X:Cx) (pins:List (Addr×Obj)) (σ:St) (Q:List V→Hp→Prop) (us:List Value) (s':Shared):Prop:=∃ vs H',Inv X pins σ H' s'∧Vals vs us∧Q vs H'
noncomputable def SP (X:Cx) (pins:List (Addr×Obj)) (D:Ends) (f:Flow) (s':Shared):Prop :=
  match f with
  | .next=>∃ σ' H',Inv X pins σ' H' s'∧D.nx σ' H'
  | .brk=>∃ σ' H',Inv X pins σ' H' s'∧D.bk σ' H'
  | .cont=>∃ σ' H',Inv X pins σ' H' s'∧D.ct σ' H'
  | .ret u=>∃ v σ' H',Inv X pins σ' H' s'∧RelV v u∧D.rt v H'

noncomputable def PE (X:Cx) (e:Expr) (t:TE):Prop :=
  ∀ (pins:List (Addr×Obj)) (s:Shared) (σ:St) (H:Hp) (Q:VK),Inv X pins σ H s→t σ H Q→wpAny (model X.prog X.w) X.A (eval e X.env) (EP X pins σ Q) X.xe s
noncomputable def PT (X:Cx) (e:Expr) (t:TT):Prop :=
  ∀ (pins:List (Addr×Obj)) (s:Shared) (σ:St) (H:Hp) (Q:Bool→Hp→Prop),Inv X pins σ H s→t σ H Q→wpAny (model X.prog X.w) X.A (isTrue e X.env (eval e X.env)) (TP X pins σ Q) X.xe s
noncomputable def PW (X:Cx) (e:Expr) (t:TT):Prop :=
  ∀ (whole:Sem Value) (pins:List (Addr×Obj)) (s:Shared) (σ:St) (H:Hp) (Q:Bool→Hp→Prop),Inv X pins σ H s→t σ H Q→wpAny (model X.prog X.w) X.A (isTrue e X.env whole) (TP X pins σ Q) X.xe s
theorem PW.pt {X:Cx} {e:Expr} {t:TT} (h:PW X e t):PT X e t:=h _
noncomputable def PA (X:Cx) (es:List Expr) (t:TA):Prop :=
  ∀ (pos:Pos) (pins:List (Addr×Obj)) (s:Shared) (σ:St) (H:Hp) (Q:List V→Hp→Prop),Inv X pins σ H s→t σ H Q→wpAny (model X.prog X.w) X.A (spliced (backTo pos (starEach es X.env))) (AP X pins σ Q) X.xe s
noncomputable def PS (X:Cx) (st:Stmt) (t:TS):Prop :=
  ∀ (pins:List (Addr×Obj)) (s:Shared) (σ:St) (H:Hp) (D:Ends),Inv X pins σ H s→t D σ H→wpAny (model X.prog X.w) X.A (exec st X.env) (SP X pins D) X.xe s
noncomputable def PSs (X:Cx) (st:List Stmt) (t:TS):Prop :=
  ∀ (pins:List (Addr×Obj)) (s:Shared) (σ:St) (H:Hp) (D:Ends),Inv X pins σ H s→t D σ H→wpAny (model X.prog X.w) X.A (execs st X.env) (SP X pins D) X.xe s
theorem thn {α:Type} {t:Sem α} {Q Q':α→Shared→Prop} {M:Model} {A:Around} {E:Value→Shared→Prop} {s:Shared} (h:wpAny M A t Q E s) (hQ:∀ a s,Q a s→Q' a s):wpAny M A t Q' E s:=wpAny_mono h hQ fun _ _ x=>x
end L2

namespace L2
open PySem PySem.Spec PyProof.Rows
section
variable {X:Cx}

noncomputable def tVar (i:Nat):TE:=fun σ H Q=>∃ v,σ[i]?=some (some v)∧Q v H
noncomputable def tC (v:V):TE:=fun _ H Q=>Q v H
theorem pe_var {i:Nat} {x:Str} {pos:Pos} (hN:X.N[i]?=some x) (hv:Vis X.env.scope x) (hd:(x==("__debug__":Str))=false:=by decide) (hcd:(x==("__classdict__":Str))=false:=by decide):PE X (.Name x pos) (tVar i):=by
  intro pins s σ H Q I h
  obtain ⟨v,e,h⟩:=h
  obtain ⟨m,hn,hl⟩:=I.loc
  obtain ⟨u,r,l⟩:=hl i x v hN e hv
  have fin:EP X pins σ Q u s:=⟨v,H,I,r,h⟩
  rcases l with ⟨hk,hm⟩ | ⟨hk,c,hc,hcell⟩
  · exact wpAny_Name (wpAny_loadName_local I.ok.kind hk hn hm fin) hd
  · rcases hk with hk | hk
    · exact wpAny_Name (wpAny_loadName_cell I.ok.kind hk hc hcell fin) hd
    · exact wpAny_Name (wpAny_loadName_free I.ok.kind hk hc hcell fin hcd) hd
theorem pe_int {i j pos}:PE X (.Constant (.int i) j pos) (tC (.int i)):=fun _ _ _ H _ I h=>wpAny_Constant_int ⟨.int i,H,I.tok _,⟨_,rfl⟩,h⟩
theorem pe_bl {b j pos}:PE X (.Constant (.bool b) j pos) (tC (.bl b)):=fun _ _ _ H _ I h=>Constant_bool ⟨.bl b,H,I,rfl,h⟩
theorem pe_non {j pos}:PE X (.Constant .none j pos) (tC .non):=fun _ _ _ H _ I h=>Constant_none ⟨.non,H,I,rfl,h⟩
theorem pe_str {x j pos}:PE X (.Constant (.str x) j pos) (tC (.str x)):=fun _ _ _ H _ I h=>Calls.Constant_str ⟨.str x,H,I.tok _,⟨_,rfl⟩,h⟩

noncomputable def Gl (X:Cx) (x:Str):Prop:=X.env.kindOf x=some .globalImplicit
theorem Qgy {E:Value→Shared→Prop} {pins:List (Addr×Obj)} {s:Shared} {σ:St} {H:Hp} {x:Str} {u:Value} {pos:Pos} {Q:Value→Shared→Prop} (I:Inv X pins σ H s) (hg:Gl X x) (hm:X.mg x=some u) (h:Q u s)
    (hd:(x==("__debug__":Str))=false:=by decide):wpAny (model X.prog X.w) X.A (eval (.Name x pos) X.env) Q E s :=
  Calls.Name_function_global I.ok.kind hg (Calls.loadGlobal_global (by rw [I.ok.glob];exact I.mod.glob.keeps I.bk) hm h) hd
theorem QbW {E:Value→Shared→Prop} {pins:List (Addr×Obj)} {s:Shared} {σ:St} {H:Hp} {x:Str} {u:Value} {pos:Pos} {Q:Value→Shared→Prop} (I:Inv X pins σ H s) (hg:Gl X x) (hm:X.mg x=none) (hv:bootBuiltins x=some u) (h:Q u s)
    (hn:x ≠ "__name__":=by decide) (hd:(x==("__debug__":Str))=false:=by decide):wpAny (model X.prog X.w) X.A (eval (.Name x pos) X.env) Q E s:=by
  obtain ⟨mb,h1,h2⟩:=I.mod.blt
  exact Calls.Name_function_global I.ok.kind hg (Calls.loadGlobal_builtin (by rw [I.ok.glob];exact I.mod.glob.keeps I.bk) hm (by rw [I.ok.blt];exact h1.keeps I.bk) ((h2 x hn).trans hv) h) hd
theorem QjT {x:Str} {v:V} {u:Value} {pos:Pos} (hg:Gl X x) (hm:X.mg x=some u) (r:RelV v u) (hd:(x==("__debug__":Str))=false:=by decide):PE X (.Name x pos) (tC v) :=
  fun _ _ _ H _ I h=>Qgy I hg hm ⟨v,H,I,r,h⟩ hd
theorem pe_bltn {x:Str} {v:V} {u:Value} {pos:Pos} (hg:Gl X x) (hm:X.mg x=none) (hv:bootBuiltins x=some u) (r:RelV v u) (hn:x ≠ "__name__":=by decide) (hd:(x==("__debug__":Str))=false:=by decide):PE X (.Name x pos) (tC v) :=
  fun _ _ _ H _ I h=>QbW I hg hm hv ⟨v,H,I,r,h⟩ hn hd

variable {a b:Expr} {ta tb:TE} {pos:Pos}
noncomputable def tB (t:TE):TT:=fun σ H Q=>t σ H fun x H1=>∃ c,x = .bl c∧Q c H1
variable {tA tB':TT} {rest:List Expr}
noncomputable def tAnd (t u:TT):TT:=fun σ H Q=>t σ H fun c H1=>if c=true then u σ H1 Q else Q false H1
noncomputable def tOr (t u:TT):TT:=fun σ H Q=>t σ H fun c H1=>if c=true then Q true H1 else u σ H1 Q
noncomputable def tNot (t:TT):TT:=fun σ H Q=>t σ H fun c H1=>Q (!c) H1
theorem pw_and1 (ha:PT X a tA):PW X (.BoolOp .And [a] pos) tA:=by
  intro wh pins s σ H Q I h
  refine isTrue_and (thn (ha pins s σ H Q I h) fun c s1 e => ?_)
  cases c with
  | true=>exact isTrue_and_nil e
  | false=>exact e
theorem pw_or1 (ha:PT X a tA):PW X (.BoolOp .Or [a] pos) tA:=by
  intro wh pins s σ H Q I h
  refine isTrue_or (thn (ha pins s σ H Q I h) fun c s1 e => ?_)
  cases c with
  | false=>exact isTrue_or_nil e
  | true=>exact e
theorem pw_and (ha:PT X a tA) (hb:PW X (.BoolOp .And (b :: rest) pos) tB'):PW X (.BoolOp .And (a :: b :: rest) pos) (tAnd tA tB'):=by
  intro wh pins s σ H Q I h
  refine isTrue_and (thn (ha pins s σ H _ I h) fun c s1 ⟨H1,I1,q1⟩ => ?_)
  cases c with
  | true=>exact hb wh pins s1 σ H1 Q I1 q1
  | false=>exact ⟨H1,I1,q1⟩
theorem pw_or (ha:PT X a tA) (hb:PW X (.BoolOp .Or (b :: rest) pos) tB'):PW X (.BoolOp .Or (a :: b :: rest) pos) (tOr tA tB'):=by
  intro wh pins s σ H Q I h
  refine isTrue_or (thn (ha pins s σ H _ I h) fun c s1 ⟨H1,I1,q1⟩ => ?_)
  cases c with
  | true=>exact ⟨H1,I1,q1⟩
  | false=>exact hb wh pins s1 σ H1 Q I1 q1
theorem pt_not (ha:PT X a tA):PT X (.UnaryOp .Not a pos) (tNot tA):=by
  intro pins s σ H Q I h
  exact isTrue_not (ha pins s σ H (fun c H1=>Q (!c) H1) I h)
noncomputable def tAndV (ta tb:TE):TE:=fun σ H Q=>ta σ H fun x H1=>∃ c,x = .bl c∧if c=true then tb σ H1 Q else Q (.bl false) H1
theorem pe_one {op} {t:TE} (h:PE X a t):PE X (.BoolOp op [a] pos) t:=fun pins s σ H Q I hw=>BoolOp_one (h pins s σ H Q I hw)
theorem pe_and (ha:PE X a ta) (hb:PE X (.BoolOp .And (b :: rest) pos) tb):PE X (.BoolOp .And (a :: b :: rest) pos) (tAndV ta tb):=by
  intro pins s σ H Q I h
  refine BoolOp_and (thn (ha pins s σ H _ I h) fun v s1 ⟨x,H1,I1,r1,q1⟩ => ?_)
  obtain ⟨c,rfl,q1⟩:=q1
  cases r1
  refine wpAny_truthy_bool ?_
  cases c with
  | true=>exact hb pins s1 σ H1 Q I1 q1
  | false=>exact ⟨.bl false,H1,I1,rfl,q1⟩
end
end L2

namespace L2
open PySem PySem.Spec PyProof.Rows

noncomputable def SqL (K:PySem.W.Frag) (H:Hp) (a:Addr) (xs:List V):Prop :=
  Rd H a (.lst xs) ∨
    ∃ (o:Obj) (its:Array Value) (n:Nat),K.lookup a=some o∧o.cls = .type "list"∧o.dict=none∧o.data = .seq its n∧its.size≤sizeLine∧Vals xs its.toList
noncomputable def SqT (K:PySem.W.Frag) (H:Hp) (a:Addr) (xs:List V):Prop :=
  Rd H a (.tup xs) ∨
    ∃ (o:Obj) (its:Array Value) (n:Nat),K.lookup a=some o∧o.cls = .type "tuple"∧o.data = .seq its n∧its.size≤sizeLine∧Vals xs its.toList
noncomputable def absV:Value→Option V
  | .none=>some .non
  | .bool b=>some (.bl b)
  | .int i _=>some (.int i)
  | .str x _=>some (.str x)
  | .bytes b _=>some (.byt b)
  | .float b _=>some (.flt b)
  | .ref a=>some (.ref a)
  | .type n=>some (.ty n)
  | _=>none
theorem RelV.abs {x:V} {u:Value} (r:RelV x u):absV u=some x:=by
  cases x with
  | non=>cases r;rfl
  | bl _=>cases r;rfl
  | int _=>obtain ⟨t,rfl⟩:=r;rfl
  | str _=>obtain ⟨t,rfl⟩:=r;rfl
  | byt _=>obtain ⟨t,rfl⟩:=r;rfl
  | flt _=>obtain ⟨t,rfl⟩:=r;rfl
  | ref _=>cases r;rfl
  | ty _=>cases r;rfl
theorem RelV.inj {x y:V} {u:Value} (r:RelV x u) (q:RelV y u):x=y:=Option.some.inj (r.abs.symm.trans q.abs)
theorem Vals.inj:∀ {xs ys:List V} {us:List Value},Vals xs us→Vals ys us→xs=ys
  | _,_,_,.nil,.nil=>rfl
  | _,_,_,.cons r t,.cons r' t'=>by rw [r.inj r',Vals.inj t t']
section
variable {X:Cx} {pins:List (Addr×Obj)} {σ:St} {H:Hp} {s:Shared} {a:Addr} {xs ys:List V}
theorem SqL.of {K:PySem.W.Frag} (h:H a=some (.lst xs)):SqL K H a xs := .inl (.inl h)
theorem SqT.of {K:PySem.W.Frag} (h:H a=some (.tup xs)):SqT K H a xs := .inl (.inl h)
theorem Inv.list (I:Inv X pins σ H s) (h:SqL X.K H a xs):∃ its:List Value,Vals xs its∧PlainL s.heap a its.toArray∧xs.length≤sizeLine:=by
  rcases h with h | ⟨o,its,n,hk,hc,hd,hs,hz,r⟩
  · obtain ⟨z,its,n,r,e⟩:=h.ok I.hok
    exact ⟨its,r,⟨_,n,e,rfl,rfl,rfl⟩,z⟩
  · refine ⟨its.toList,r,⟨o,n,I.kIn a o hk,hc,hd,by simpa using hs⟩,?_⟩
    have e:=r.length
    simp only [Array.length_toList] at e
    omega
theorem Inv.tuple (I:Inv X pins σ H s) (h:SqT X.K H a xs):∃ its:List Value,Vals xs its∧IsTup s.heap a its.toArray∧xs.length≤sizeLine:=by
  rcases h with h | ⟨o,its,n,hk,hc,hs,hz,r⟩
  · obtain ⟨z,its,r,p⟩:=h.ok I.hok
    exact ⟨its,r,p,z⟩
  · refine ⟨its.toList,r,⟨o,I.kIn a o hk,hc,n,by simpa using hs⟩,?_⟩
    have e:=r.length
    simp only [Array.length_toList] at e
    omega
theorem Inv.list_inj (I:Inv X pins σ H s) (h:SqL X.K H a xs) (h':SqL X.K H a ys):xs=ys:=by
  obtain ⟨its,r,⟨o,n,e,_,_,d⟩,_⟩:=I.list h
  obtain ⟨its',r',⟨o',n',e',_,_,d'⟩,_⟩:=I.list h'
  rw [e] at e';cases e'
  rw [d] at d'
  injection d' with d1 _
  have:its=its':=by simpa using congrArg Array.toList d1
  subst this
  exact r.inj r'
theorem Inv.tuple_inj (I:Inv X pins σ H s) (h:SqT X.K H a xs) (h':SqT X.K H a ys):xs=ys:=by
  obtain ⟨its,r,⟨o,e,_,n,d⟩,_⟩:=I.tuple h
  obtain ⟨its',r',⟨o',e',_,n',d'⟩,_⟩:=I.tuple h'
  rw [e] at e';cases e'
  rw [d] at d'
  injection d' with d1 _
  have:its=its':=by simpa using congrArg Array.toList d1
  subst this
  exact r.inj r'
end

noncomputable abbrev Cx.wish (X:Cx) (E:Value→Shared→Prop):Cx:={ X with xe:=E }
noncomputable abbrev Cx.nox (X:Cx):Cx:=X.wish fun _ _=>False
theorem Cx.Ok.wish {X:Cx} (ok:X.Ok) (E:Value→Shared→Prop):(X.wish E).Ok :=
  ⟨ok.mod,ok.kind,ok.glob,ok.blt,ok.above,ok.inj,ok.has,ok.cab,ok.hd,ok.frames,ok.stk,ok.exf,ok.bs,ok.bsz,ok.noex,ok.exfs,ok.funs,ok.frf⟩
theorem Cx.Ok.unwish {X:Cx} {E:Value→Shared→Prop} (ok:(X.wish E).Ok):X.Ok :=
  ⟨ok.mod,ok.kind,ok.glob,ok.blt,ok.above,ok.inj,ok.has,ok.cab,ok.hd,ok.frames,ok.stk,ok.exf,ok.bs,ok.bsz,ok.noex,ok.exfs,ok.funs,ok.frf⟩
section
variable {X:Cx} {pins:List (Addr×Obj)} {σ:St} {H:Hp} {s:Shared} {E:Value→Shared→Prop}
theorem Inv.wish (I:Inv X pins σ H s) (E:Value→Shared→Prop):Inv (X.wish E) pins σ H s:=⟨I.ok.wish E,I.os,I.bare,I.base,I.loc,I.cell,I.free,I.freeC,I.pin,I.hok,I.len⟩
theorem Inv.unwish (I:Inv (X.wish E) pins σ H s):Inv X pins σ H s:=⟨I.ok.unwish,I.os,I.bare,I.base,I.loc,I.cell,I.free,I.freeC,I.pin,I.hok,I.len⟩
theorem SP.unwish {D:Ends} {f:Flow} {s':Shared} (h:SP (X.wish E) pins D f s'):SP X pins D f s':=by
  cases f with
  | next=>obtain ⟨σ',H',I,q⟩:=h;exact ⟨σ',H',I.unwish,q⟩
  | brk=>obtain ⟨σ',H',I,q⟩:=h;exact ⟨σ',H',I.unwish,q⟩
  | cont=>obtain ⟨σ',H',I,q⟩:=h;exact ⟨σ',H',I.unwish,q⟩
  | ret u=>obtain ⟨v,σ',H',I,r,q⟩:=h;exact ⟨v,σ',H',I.unwish,r,q⟩
theorem PE.nox {e:Expr} {t:TE} (h:PE X.nox e t):PE X e t:=fun pins s σ H Q I hw =>
  wpAny_mono (h pins s σ H Q (I.wish _) hw) (fun _ _ ⟨v,H',I',r,q⟩=>⟨v,H',I'.unwish,r,q⟩) fun _ _ z=>False.elim z
theorem PT.nox {e:Expr} {t:TT} (h:PT X.nox e t):PT X e t:=fun pins s σ H Q I hw =>
  wpAny_mono (h pins s σ H Q (I.wish _) hw) (fun _ _ ⟨H',I',q⟩=>⟨H',I'.unwish,q⟩) fun _ _ z=>False.elim z
theorem PSs.nox {st:List Stmt} {t:TS} (h:PSs X.nox st t):PSs X st t:=fun pins s σ H D I hw =>
  wpAny_mono (h pins s σ H D (I.wish _) hw) (fun _ _ q=>q.unwish) fun _ _ z=>False.elim z
end

section
variable {X:Cx} {st:Stmt} {rest:List Stmt} {t u:TS} {e:Expr} {te:TE} {pos:Pos}
noncomputable def tNext:TS:=fun D σ H=>D.nx σ H
noncomputable def tSeq (t u:TS):TS:=fun D σ H=>t { D with nx:=u D } σ H
theorem pss_nil:PSs X [] tNext:=fun _ _ σ H _ I h=>wpAny_execs_nil ⟨σ,H,I,h⟩
theorem QhE (h1:PS X st t) (h2:PSs X rest u):PSs X (st :: rest) (tSeq t u):=by
  intro pins s σ H D I h
  refine wpAny_execs_cons (thn (h1 pins s σ H { D with nx:=u D } I h) fun f s1 q => ?_)
  cases f with
  | next =>
    obtain ⟨σ',H',I',q⟩:=q
    exact h2 pins s1 σ' H' D I' q
  | ret v=>exact q
  | brk=>exact q
  | cont=>exact q
theorem QjQ (h1:PS X st t):PSs X [st] t:=by
  intro pins s σ H D I h
  refine wpAny_execs_cons (thn (h1 pins s σ H D I h) fun f s1 q => ?_)
  cases f with
  | next=>exact wpAny_execs_nil q
  | ret v=>exact q
  | brk=>exact q
  | cont=>exact q
theorem Inv.quiet {pins:List (Addr×Obj)} {σ:St} {H:Hp} {s:Shared} (I:Inv X pins σ H s):interactive X.env=false:=by simp [interactive,I.ok.kind]
noncomputable def Qln (te:TE):TS:=fun D σ H=>te σ H fun _ H1=>D.nx σ H1
theorem YD (he:PE X e te) (hs:swapsWith e none pos.line X.env=pure false:=by rfl):PS X (.Expr e pos) (Qln te):=by
  intro pins s σ H D I h
  exact wpAny_Expr_any (thn (he pins s σ H _ I h) fun v s1 ⟨x,H1,I1,r1,q1⟩=>⟨σ,H1,I1,q1⟩) I.quiet hs
noncomputable def tRet (te:TE):TS:=fun D σ H=>te σ H D.rt
theorem Qjx (he:PE X e te):PS X (.Return (some e) pos) (tRet te):=by
  intro pins s σ H D I h
  exact wpAny_Return_some (thn (he pins s σ H _ I h) fun v s1 ⟨x,H1,I1,r1,q1⟩=>⟨x,σ,H1,I1,r1,q1⟩)
noncomputable def tIfS (c:TT) (t u:TS):TS:=fun D σ H=>c σ H fun b H1=>if b=true then t D σ H1 else u D σ H1
theorem ps_if {c:Expr} {a b:List Stmt} {tc:TT} (hc:PT X c tc) (ha:PSs X a t) (hb:PSs X b u):PS X (.If c a b pos) (tIfS tc t u):=by
  intro pins s σ H D I h
  refine wpAny_If (thn (hc pins s σ H _ I h) fun d s1 ⟨H1,I1,q1⟩ => ?_)
  cases d with
  | true=>exact ha pins s1 σ H1 D I1 q1
  | false=>exact hb pins s1 σ H1 D I1 q1
end

noncomputable abbrev TG:=V→St→Hp→(St→Hp→Prop)→Prop
noncomputable abbrev TGs:=List V→St→Hp→(St→Hp→Prop)→Prop
noncomputable def PG (X:Cx) (target:Expr) (t:TG):Prop :=
  ∀ (pins:List (Addr×Obj)) (s:Shared) (σ:St) (H:Hp) (v:V) (u:Value) (Q:St→Hp→Prop),Inv X pins σ H s→RelV v u→t v σ H Q →
    wpAny (model X.prog X.w) X.A (assign target X.env u) (fun _ s'=>∃ σ' H',Inv X pins σ' H' s'∧Q σ' H') X.xe s
noncomputable def PGs (X:Cx) (ts:List Expr) (t:TGs):Prop :=
  ∀ (pins:List (Addr×Obj)) (s:Shared) (σ:St) (H:Hp) (vs:List V) (us:List Value) (Q:St→Hp→Prop),Inv X pins σ H s→Vals vs us→t vs σ H Q →
    wpAny (model X.prog X.w) X.A (assignInOrder ((assignEach ts X.env).map (·.2)) us) (fun _ s'=>∃ σ' H',Inv X pins σ' H' s'∧Q σ' H') X.xe s
noncomputable abbrev TSet:=V→V→V→Hp→(Hp→Prop)→Prop
noncomputable def PSet (X:Cx) (t:TSet):Prop :=
  ∀ (pins:List (Addr×Obj)) (s:Shared) (σ:St) (H:Hp) (o i v:V) (ov iv u:Value) (Q:Hp→Prop),Inv X pins σ H s→RelV o ov→RelV i iv→RelV v u→t o i v H Q →
    wpAny (model X.prog X.w) X.A (setItem ov iv u) (fun _ s'=>∃ H',Inv X pins σ H' s'∧Q H') X.xe s
noncomputable abbrev TIp:=V→V→Hp→VK→Prop
noncomputable def PIp (X:Cx) (op:Operator) (t:TIp):Prop :=
  ∀ (pins:List (Addr×Obj)) (s:Shared) (σ:St) (H:Hp) (x y:V) (v u:Value) (Q:VK),Inv X pins σ H s→RelV x v→RelV y u→t x y H Q →
    wpAny (model X.prog X.w) X.A (inplaceOp op v u) (EP X pins σ Q) X.xe s
section
variable {X:Cx} {pos:Pos}
noncomputable def Qjq (i:Nat):TG:=fun v σ H Q=>Q (σ.set i (some v)) H
theorem Qx {i:Nat} {x:Str} (hN:X.N.Nodup) (hi:X.N[i]?=some x) (hx:Loc X.env.scope x) (hf:X.fn x=true∨X.env.scope.names.lookup x=some .local:=by first | exact .inl rfl | exact .inr rfl | assumption):PG X (.Name x pos) (Qjq i):=by
  intro pins s σ H v u Q I r h
  exact wpAny_assign_Name (Qey I hN hi hx r (fun s' I'=>⟨_,H,I',h⟩) hf)
noncomputable def gNil:TGs:=fun vs σ H Q=>vs=[]∧Q σ H
noncomputable def gCons (t:TG) (u:TGs):TGs:=fun vs σ H Q=>∃ v r,vs=v :: r∧t v σ H fun σ' H'=>u r σ' H' Q
theorem QcR:PGs X [] gNil:=by
  intro pins s σ H vs us Q I r h
  obtain ⟨e,h⟩:=h
  subst e
  cases r
  exact assignInOrder_nil ⟨σ,H,I,h⟩
theorem Yk {e:Expr} {es:List Expr} {t:TG} {u:TGs} (h1:PG X e t) (h2:PGs X es u)
    (hs:(assignEach (e :: es) X.env).map (·.2)=assign e X.env :: (assignEach es X.env).map (·.2):=by rfl):PGs X (e :: es) (gCons t u):=by
  intro pins s σ H vs us Q I r h
  obtain ⟨v,vr,e1,h⟩:=h
  subst e1
  cases r with
  | cons r rr =>
    rw [hs]
    refine assignInOrder_cons (thn (h1 pins s σ H _ _ _ I r h) fun _ s1 ⟨σ1,H1,I1,q1⟩ => ?_)
    exact h2 pins s1 σ1 H1 _ _ Q I1 rr q1
noncomputable def gTup (K:PySem.W.Frag) (n:Nat) (t:TGs):TG:=fun v σ H Q=>∃ a xs,v = .ref a∧SqT K H a xs∧xs.length=n∧t xs σ H Q
theorem Qfi {es:List Expr} {k:Nat} {t:TGs} {n:Nat} (hc:X.calm=true) (h:PGs X es t)
    (hn:(assignEach es X.env).length=n:=by rfl) (hst:(assignEach es X.env).findIdx? (·.1)=none:=by rfl):PG X (.Tuple es k pos) (gTup X.K n t):=by
  intro pins s σ H v u Q I r hw
  obtain ⟨a,xs,e1,hq,hl,hw⟩:=hw
  subst e1
  cases r
  obtain ⟨its,rv,ht,hz⟩:=I.tuple hq
  refine assign_Tuple_tuple (I.ok.hd hc) ht (by simp [hn,← hl,rv.length]) hst fun h' hx => ?_
  have I1:Inv X pins σ H { s with heap:=h' }:=I.kept (t':=s.toks) fun b o e=>hx b o (Nat.ne_of_lt (Heap.lt_size e)) e
  exact h pins _ σ H xs _ Q I1 (by simpa using rv) hw
noncomputable def gSub (to ti:TE) (t:TSet):TG:=fun v σ H Q=>to σ H fun o H1=>ti σ H1 fun i H2=>t o i v H2 fun H3=>Q σ H3
theorem pg_sub {o i:Expr} {to ti:TE} {t:TSet} (ho:PE X o to) (hi:PE X i ti) (hs:PSet X t)
    (ha:∀ v,assign (.Subscript o i pos) X.env v=(do
      let ov ← holding [v] (eval o X.env)
      let iv ← holding [v,ov] (eval i X.env)
      standAt pos
      holding [v,ov,iv] (setItem ov iv v)
      release [v,ov,iv] []):=by intro _;rfl):PG X (.Subscript o i pos) (gSub to ti t):=by
  intro pins s σ H v u Q I r h
  rw [ha]
  refine wpAny_bind (wpAny_holding (thn (ho pins s σ H _ I h) fun ov s1 ⟨x,H1,I1,r1,q1⟩ => ?_))
  refine wpAny_bind (wpAny_holding (thn (hi pins s1 σ H1 _ I1 q1) fun iv s2 ⟨y,H2,I2,r2,q2⟩ => ?_))
  refine wpAny_bind (wpAny_standAt (wpAny_bind (wpAny_holding (thn (hs pins s2 σ H2 x y v ov iv u _ I2 r1 r2 r q2) fun _ s3 ⟨H3,I3,q3⟩ => ?_))))
  exact wpAny_release ⟨σ,H3,I3,q3⟩
noncomputable def tAsg (te:TE) (g:TG):TS:=fun D σ H=>te σ H fun x H1=>g x σ H1 D.nx
theorem ps_asg {tg e:Expr} {te:TE} {g:TG} (he:PE X e te) (hg:PG X tg g) (hs:swapsWithSole [tg] e pos.line X.env=pure false:=by rfl) (hw:swappedStores [tg] e X.env=pure none:=by rfl)
    (h1:(assignEach [tg] X.env).map (·.2)=[assign tg X.env]:=by rfl):PS X (.Assign [tg] e pos) (tAsg te g):=by
  intro pins s σ H D I h
  refine wpAny_Assign_stores (thn (he pins s σ H _ I h) fun v s1 ⟨x,H1,I1,r1,q1⟩ => ?_) hs hw
  rw [h1]
  exact thn (hg pins s1 σ H1 x v _ I1 r1 q1) fun _ s2 q=>q
theorem ps_set {i:Nat} {x:Str} {e:Expr} {te:TE} {pos':Pos} (hN:X.N.Nodup) (hi:X.N[i]?=some x) (hx:Loc X.env.scope x) (he:PE X e te) (hs:swapsWith e (some (.Name x pos')) pos.line X.env=pure false:=by rfl) (hf:X.fn x=true∨X.env.scope.names.lookup x=some .local:=by first | exact .inl rfl | exact .inr rfl | assumption) :
    PS X (.Assign [.Name x pos'] e pos) (tAsg te (Qjq i)):=by
  intro pins s σ H D I h
  refine wpAny_Assign_Name (thn (he pins s σ H _ I h) fun v s1 ⟨y,H1,I1,r1,q1⟩ => ?_) hs
  exact Qey I1 hN hi hx r1 (fun s2 I2=>⟨_,H1,I2,q1⟩) hf
noncomputable def tAug (i:Nat) (te:TE) (ti:TIp):TS:=fun D σ H=>∃ x,σ[i]?=some (some x)∧te σ H fun y H1=>ti x y H1 fun z H2=>D.nx (σ.set i (some z)) H2
theorem ps_aug {i:Nat} {x:Str} {e:Expr} {te:TE} {op:Operator} {ti:TIp} {pos':Pos} (hN:X.N.Nodup) (hi:X.N[i]?=some x) (hx:Loc X.env.scope x) (he:PE X e te) (ho:PIp X op ti) (hf:X.fn x=true∨X.env.scope.names.lookup x=some .local:=by first | exact .inl rfl | exact .inr rfl | assumption) :
    PS X (.AugAssign (.Name x pos') op e pos) (tAug i te ti):=by
  intro pins s σ H D I h
  obtain ⟨v,e1,h⟩:=h
  obtain ⟨m,hn,hl⟩:=I.loc
  have vis:Vis X.env.scope x:=by rcases hx with k | k;exact .inl k;exact .inr (.inl k)
  obtain ⟨u,r,l⟩:=hl i x v hi e1 vis
  refine wpAny_AugAssign_Name ?_
  have go:wpAny (model X.prog X.w) X.A (eval e X.env) (fun w s₂=>wpAny (model X.prog X.w) X.A (inplaceOp op u w) (fun r s₃=>wpAny (model X.prog X.w) X.A (storeName X.env x r) (fun _=>SP X pins D .next) X.xe s₃) X.xe s₂) X.xe s:=by
    refine thn (he pins s σ H _ I h) fun w s1 ⟨y,H1,I1,r1,q1⟩ => ?_
    refine thn (ho pins s1 σ H1 v y u w _ I1 r r1 q1) fun z s2 ⟨zv,H2,I2,r2,q2⟩ => ?_
    exact Qey I2 hN hi hx r2 (fun s3 I3=>⟨_,H2,I3,q2⟩) hf
  rcases l with ⟨hk,hm⟩ | ⟨hk,c,hc,hcell⟩
  · exact wpAny_loadName_local I.ok.kind hk hn hm go
  · rcases hk with hk | hk
    · exact wpAny_loadName_cell I.ok.kind hk hc hcell go
    · rcases hx with k | k
      · have:X.env.scope.names.lookup x=some .free:=hk
        rw [k] at this;cases this
      · have:X.env.scope.names.lookup x=some .free:=hk
        rw [k] at this;cases this
end

section
variable {X:Cx} {pos:Pos}
noncomputable def tWhile (c:TT) (tb:TS):TS:=fun D σ H=>∃ W:Nat→St→Hp→Prop,(∃ m,W m σ H)∧∀ m σ H,W m σ H →
  c σ H fun b H1=>if b=true then ∃ N:St→Hp→Prop,(∀ σ' H',N σ' H'→∃ m',m' < m∧W m' σ' H')∧tb { D with nx:=N,ct:=N,bk:=D.nx } σ H1 else D.nx σ H1
theorem ps_while {c:Expr} {body:List Stmt} {tc:TT} {tb:TS} (hp:PassesOwn (model X.prog X.w) X.A X.env X.xe) (hc:PT X c tc) (hb:PSs X body tb):PS X (.While c body [] pos) (tWhile tc tb):=by
  intro pins s σ H D I h
  obtain ⟨W,⟨m0,w0⟩,turn⟩:=h
  refine wpAny_While (codeAny_whileLoop (fun n s'=>∃ σ' H',Inv X pins σ' H' s'∧W n σ' H') ?_ m0 ⟨σ,H,I,w0⟩)
  rintro n s1 ⟨σ1,H1,I1,w1⟩
  refine wpAny_passesOwn hp (thn (hc pins s1 σ1 H1 _ I1 (turn n σ1 H1 w1)) fun b s2 ⟨H2,I2,q2⟩ => ?_)
  cases b with
  | true =>
    obtain ⟨N,hN,q2⟩:=q2
    rw [if_pos rfl]
    refine wpAny_passesOwn hp (thn (hb pins s2 σ1 H2 _ I2 q2) fun f s3 q3 => ?_)
    cases f with
    | next =>
      obtain ⟨σ3,H3,I3,n3⟩:=q3
      obtain ⟨m',hm,w3⟩:=hN σ3 H3 n3
      exact ⟨m',hm,σ3,H3,I3,w3⟩
    | cont =>
      obtain ⟨σ3,H3,I3,n3⟩:=q3
      obtain ⟨m',hm,w3⟩:=hN σ3 H3 n3
      exact ⟨m',hm,σ3,H3,I3,w3⟩
    | brk=>exact q3
    | ret v=>exact q3
  | false =>
    rw [if_neg Bool.false_ne_true]
    exact wpAny_execs_nil ⟨σ1,H2,I2,q2⟩
end

structure It where
  go:Nat→Hp→Prop
  yld:Nat→Hp→V→Hp→Prop
  stop:Nat→Hp→Prop
noncomputable def FpOk (X:Cx) (pins:List (Addr×Obj)) (H:Hp) (b:Addr):Prop :=
  H b=none∧b≠X.env.locals∧b∉X.fs∧(b∈X.ex∨X.s₀.heap.objs.size≤b)∧(∀ x c,X.env.cells.lookup x=some c→c≠b)∧∀ p∈X.pn++pins,p.1≠b
theorem Inv.fpOk {X:Cx} {pins:List (Addr×Obj)} {σ:St} {H H':Hp} {s:Shared} {b:Addr} (I:Inv X pins σ H s) (hb:s.heap.objs.size≤b) (hn:H' b=none):FpOk X pins H' b:=by
  refine ⟨hn,Nat.ne_of_gt (Nat.lt_of_lt_of_le I.lt hb),I.nofs hb,.inr (Nat.le_trans I.sz hb),fun x c e z => ?_,fun p hp z => ?_⟩
  · obtain ⟨v,q⟩:=I.cell x c e
    exact absurd (Nat.lt_of_lt_of_le q.lt (by rw [z];exact hb)) (Nat.lt_irrefl _)
  · exact absurd (Nat.lt_of_lt_of_le (Heap.lt_size (I.pin p hp).1) (by rw [z];exact hb)) (Nat.lt_irrefl _)
structure Turn (P:Program) (w:World) (K:PySem.W.Frag) (tg:Expr) (J:It) (fp:List Addr) (it:Addr) (tn:Nat→Heap→Prop):Prop where
  mem:it∈fp
  obj:∀ i h,tn i h→∀ b∈fp,∃ o,h.get? b=some o∧∀ v,o.data ≠ .cell v
  keep:∀ i h h',tn i h→(∀ b∈fp,∀ o,h.get? b=some o→h'.get? b=some o)→tn i h'
  item:∀ (X:Cx),X.prog=P→X.w=w→X.K=K→X.calm=true→∀ (i:Nat) (pins:List (Addr×Obj)) (s:Shared) (σ:St) (H:Hp) (E:Value→Shared→Prop),Inv X pins σ H s→(∀ b∈fp,FpOk X pins H b)→tn i s.heap→J.go i H →
    wpAny (model P w) X.A (pyNext (.ref it)) (fun r s1=>∃ u,r=some u ∧
      wpAny (model P w) X.A (letOwnedTupleGo tg (.ref it) u) (fun _ s2=>∃ x H',Inv X pins σ H' s2∧RelV x u∧J.yld i H x H'∧tn (i + 1) s2.heap∧∀ b∈fp,H' b=none) E s1) E s
  done:∀ (X:Cx),X.prog=P→X.w=w→X.K=K→X.calm=true→∀ (i:Nat) (pins:List (Addr×Obj)) (s:Shared) (σ:St) (H:Hp) (E:Value→Shared→Prop),Inv X pins σ H s→(∀ b∈fp,FpOk X pins H b)→tn i s.heap→J.stop i H →
    wpAny (model P w) X.A (pyNext (.ref it)) (fun r s1=>r=none∧Inv X pins σ H s1) E s
  self:∀ (A:Around) (i:Nat) (s:Shared) (Q:Value→Shared→Prop) (E:Value→Shared→Prop),tn i s.heap→Q (.ref it) s→wpAny (model P w) A (pyIter (.ref it)) Q E s
noncomputable abbrev TI:=St→Hp→(It→Hp→Prop)→Prop
noncomputable def PIE (X:Cx) (pins:List (Addr×Obj)) (σ:St) (tg:Expr) (R:It→Hp→Prop) (itv:Value) (s2:Shared):Prop :=
  ∃ (it:Addr) (fp:List Addr) (tn:Nat→Heap→Prop) (J:It) (H':Hp),itv = .ref it∧Inv X pins σ H' s2∧Turn X.prog X.w X.K tg J fp it tn∧tn 0 s2.heap∧(∀ b∈fp,FpOk X pins H' b)∧R J H'
noncomputable def PI (X:Cx) (tg iter:Expr) (wi:TI):Prop :=
  ∀ (pins:List (Addr×Obj)) (s:Shared) (σ:St) (H:Hp) (R:It→Hp→Prop),Inv X pins σ H s→wi σ H R →
    wpAny (model X.prog X.w) X.A (eval iter X.env) (fun v s1=>wpAny (model X.prog X.w) X.A (pyIter v) (PIE X pins σ tg R) X.xe s1) X.xe s

theorem Qjp {M:Model} {A:Around} {E:Value→Shared→Prop} {s:Shared} {tg:Expr} {it:Addr} {u:Value} {o:Obj} {n:String} {vs:Array Value} {Q:Unit→Shared→Prop} (ho:s.heap.get? it=some o) (hc:o.cls = .type n) (hd:o.data = .fields vs)
    (hn:["enumerate","zip","dict_itemiterator","dict_reverseitemiterator","odict_iterator","itertools.zip_longest","itertools.pairwise"].contains n=false) (hQ:Q () s):wpAny M A (letOwnedTupleGo tg (.ref it) u) Q E s:=by
  unfold letOwnedTupleGo
  cases tg <;> first
    | exact wpAny_pure hQ
    | (cases u <;> first
        | exact wpAny_pure hQ
        | (refine wpAny_bind (wpAny_load ho ?_)
           rw [hc,hd]
           show wpAny M A (if (["enumerate","zip","dict_itemiterator","dict_reverseitemiterator","odict_iterator","itertools.zip_longest","itertools.pairwise"].contains n&&vs[0]?==some (rawInt _))=true then _ else _) Q E s
           rw [if_neg (by intro h;rw [hn,Bool.false_and] at h;cases h)]
           exact wpAny_pure hQ))

noncomputable def Itl (K:PySem.W.Frag) (a:Addr):It :=
  ⟨fun i H=>∃ xs x,SqL K H a xs∧xs[i]?=some x,fun i H x H'=>H'=H∧∀ xs,SqL K H a xs→xs[i]?=some x,fun i H=>∃ xs,SqL K H a xs∧xs.length≤i⟩
noncomputable def Itt (K:PySem.W.Frag) (a:Addr):It :=
  ⟨fun i H=>∃ xs x,SqT K H a xs∧xs[i]?=some x,fun i H x H'=>H'=H∧∀ xs,SqT K H a xs→xs[i]?=some x,fun i H=>∃ xs,SqT K H a xs∧xs.length≤i⟩
noncomputable def Itr (lo:Int) (n:Nat):It:=⟨fun i _=>i < n,fun i H x H'=>H'=H∧x = .int (lo + i),fun i _=>n≤i⟩
theorem Qko {P:Program} {w:World} {K:PySem.W.Frag} {tg:Expr} (a it:Addr):Turn P w K tg (Itl K a) [it] it (fun i h=>h.IsListIter it a i) where
  mem:=by simp
  obj:=fun i h st b hb=>by
    have e:b=it:=by simpa using hb
    subst e
    obtain ⟨o,e,c,d⟩:=st
    exact ⟨o,e,fun v z=>by rw [d] at z;cases z⟩
  keep:=fun i h h' st k=>st.at fun o e=>k it (by simp) o e
  item:=by
    intro X hP hw hK hc i pins s σ H E I hf st hg
    subst hP hw hK
    obtain ⟨xs,x,hq,hx⟩:=hg
    obtain ⟨its,rv,p,hz⟩:=I.list hq
    obtain ⟨u,hu,ru⟩:=rv.get hx
    obtain ⟨f0,f1,f2,f3,f4,f5⟩:=hf it (by simp)
    refine wpAny_pyNext_list_item st p.isList (x:=u) (by simpa using hu) fun h' st' sb => ?_
    have I1:Inv X pins σ H { s with heap:=h' }:=I.turned (t':=s.toks) (fun b o hb e=>(sb.2 b hb).trans e) f0 f1 f3 f4 f5
    obtain ⟨o,e,c,d⟩:=id st'
    exact ⟨u,rfl,Qjp (s:={ s with heap:=h' }) e c d (by decide) ⟨x,H,I1,ru,⟨rfl,fun ys hy=>by rw [I.list_inj hy hq];exact hx⟩,st',fun b hb=>(hf b hb).1⟩⟩
  done:=by
    intro X hP hw hK hc i pins s σ H E I hf st hg
    subst hP hw hK
    obtain ⟨xs,hq,hx⟩:=hg
    obtain ⟨its,rv,p,hz⟩:=I.list hq
    obtain ⟨f0,f1,f2,f3,f4,f5⟩:=hf it (by simp)
    have hl:=rv.length
    exact wpAny_pyNext_list_end (I.ok.hd hc) st p.isList (by simp;omega) fun h' eb=>⟨rfl,I.turned (t':=s.toks) (fun b o hb e=>eb b o hb e) f0 f1 f3 f4 f5⟩
  self:=fun _ _ _ _ _ st h=>wpAny_pyIter_listiter st h
theorem Qiw {P:Program} {w:World} {K:PySem.W.Frag} {tg:Expr} (a it:Addr):Turn P w K tg (Itt K a) [it] it (fun i h=>h.IsTupleIter it a i) where
  mem:=by simp
  obj:=fun i h st b hb=>by
    have e:b=it:=by simpa using hb
    subst e
    obtain ⟨o,e,c,d⟩:=st
    exact ⟨o,e,fun v z=>by rw [d] at z;cases z⟩
  keep:=fun i h h' st k=>st.at fun o e=>k it (by simp) o e
  item:=by
    intro X hP hw hK hc i pins s σ H E I hf st hg
    subst hP hw hK
    obtain ⟨xs,x,hq,hx⟩:=hg
    obtain ⟨its,rv,p,hz⟩:=I.tuple hq
    obtain ⟨u,hu,ru⟩:=rv.get hx
    obtain ⟨f0,f1,f2,f3,f4,f5⟩:=hf it (by simp)
    refine wpAny_pyNext_tuple_item st (show s.heap.IsTuple a its.toArray from p) (x:=u) (by simpa using hu) fun h' st' sb => ?_
    have I1:Inv X pins σ H { s with heap:=h' }:=I.turned (t':=s.toks) (fun b o hb e=>(sb.2 b hb).trans e) f0 f1 f3 f4 f5
    obtain ⟨o,e,c,d⟩:=id st'
    exact ⟨u,rfl,Qjp (s:={ s with heap:=h' }) e c d (by decide) ⟨x,H,I1,ru,⟨rfl,fun ys hy=>by rw [I.tuple_inj hy hq];exact hx⟩,st',fun b hb=>(hf b hb).1⟩⟩
  done:=by
    intro X hP hw hK hc i pins s σ H E I hf st hg
    subst hP hw hK
    obtain ⟨xs,hq,hx⟩:=hg
    obtain ⟨its,rv,p,hz⟩:=I.tuple hq
    obtain ⟨f0,f1,f2,f3,f4,f5⟩:=hf it (by simp)
    have hl:=rv.length
    exact wpAny_pyNext_tuple_end (I.ok.hd hc) st (show s.heap.IsTuple a its.toArray from p) (by simp;omega) fun h' eb=>⟨rfl,I.turned (t':=s.toks) (fun b o hb e=>eb b o hb e) f0 f1 f3 f4 f5⟩
  self:=fun _ _ _ _ _ st h=>wpAny_pyIter_tupleiter st h
theorem Qix {P:Program} {w:World} {K:PySem.W.Frag} {tg:Expr} (it:Addr) (lo:Int) (n:Nat):Turn P w K tg (Itr lo n) [it] it (fun i h=>IsRangeIter h it (lo + (i:Nat) * 1) ((n:Int) - (i:Nat)) 1) where
  mem:=by simp
  obj:=fun i h st b hb=>by
    have e:b=it:=by simpa using hb
    subst e
    exact ⟨_,st,fun v z=>by
      have z':Data.fields _=Data.cell v:=z
      cases z'⟩
  keep:=fun i h h' st k=>k it (by simp) _ st
  item:=by
    intro X hP hw hK hc i pins s σ H E I hf st hg
    subst hP hw hK
    obtain ⟨f0,f1,f2,f3,f4,f5⟩:=hf it (by simp)
    have W:=Walks.range (prog:=X.prog) (w:=X.w) (I.ok.hd hc) it lo 1 n
    refine W.item i s _ _ hg st fun v h' tk hv st' kk => ?_
    obtain ⟨t,rfl⟩:=hv
    have I1:Inv X pins σ H { s with heap:=h',toks:=tk }:=I.turned (fun b o hb e=>kk b o (by simpa using hb) e) f0 f1 f3 f4 f5
    refine ⟨_,rfl,Qjp (s:={ s with heap:=h',toks:=tk }) (n := "range_iterator") st' rfl rfl (by decide) ⟨.int (lo + i),H,I1,⟨t,?_⟩,⟨rfl,rfl⟩,st',fun b hb=>(hf b hb).1⟩⟩
    rw [Int.mul_one]
  done:=by
    intro X hP hw hK hc i pins s σ H E I hf st hg
    subst hP hw hK
    obtain ⟨f0,f1,f2,f3,f4,f5⟩:=hf it (by simp)
    exact wpAny_pyNext_range_end (I.ok.hd hc) st (by have:n≤i:=hg;omega) fun h' eb=>⟨rfl,I.turned (t':=s.toks) (fun b o hb e=>eb b o hb e) f0 f1 f3 f4 f5⟩
  self:=fun _ _ _ _ _ st h=>wpAny_pyIter_rangeiter st h
end L2

namespace L2
open PySem PySem.Spec PyProof.Rows
section
variable {X:Cx} {tg:Expr}
noncomputable def iList (K:PySem.W.Frag) (tl:TE):TI:=fun σ H R=>tl σ H fun x H1=>∃ a,x = .ref a∧(∃ xs,SqL K H1 a xs)∧R (Itl K a) H1
noncomputable def iTup (K:PySem.W.Frag) (tl:TE):TI:=fun σ H R=>tl σ H fun x H1=>∃ a,x = .ref a∧(∃ xs,SqT K H1 a xs)∧R (Itt K a) H1
theorem QjS {l:Expr} {tl:TE} (hl:PE X l tl):PI X tg l (iList X.K tl):=by
  intro pins s σ H R I h
  refine thn (hl pins s σ H _ I h) fun v s1 ⟨x,H1,I1,r1,q1⟩ => ?_
  obtain ⟨a,e,⟨xs,hq⟩,q⟩:=q1
  subst e
  cases r1
  obtain ⟨its,rv,p,hz⟩:=I1.list hq
  refine wpAny_pyIter_list p.isList ?_
  refine ⟨s1.heap.objs.size,[s1.heap.objs.size],_,_,H1,rfl,I1.kept (t':=s1.toks) fun b o e=>Heap.get?_push_of_some _ e,Qko a _,⟨_,Heap.get?_push_size _ rfl,rfl,rfl⟩,fun b hb => ?_,q⟩
  have e:b=s1.heap.objs.size:=by simpa using hb
  subst e
  exact I1.fpOk (Nat.le_refl _) (I1.hok.fresh (Nat.le_refl _))
theorem pi_tup {l:Expr} {tl:TE} (hl:PE X l tl):PI X tg l (iTup X.K tl):=by
  intro pins s σ H R I h
  refine thn (hl pins s σ H _ I h) fun v s1 ⟨x,H1,I1,r1,q1⟩ => ?_
  obtain ⟨a,e,⟨xs,hq⟩,q⟩:=q1
  subst e
  cases r1
  obtain ⟨its,rv,p,hz⟩:=I1.tuple hq
  refine wpAny_pyIter_tuple (show s1.heap.IsTuple a its.toArray from p) ?_
  refine ⟨s1.heap.objs.size,[s1.heap.objs.size],_,_,H1,rfl,I1.kept (t':=s1.toks) fun b o e=>Heap.get?_push_of_some _ e,Qiw a _,⟨_,Heap.get?_push_size _ rfl,rfl,rfl⟩,fun b hb => ?_,q⟩
  have e:b=s1.heap.objs.size:=by simpa using hb
  subst e
  exact I1.fpOk (Nat.le_refl _) (I1.hok.fresh (Nat.le_refl _))
theorem range_it {pins:List (Addr×Obj)} {σ:St} {H:Hp} {s:Shared} {R:It→Hp→Prop} {E:Value→Shared→Prop} {lo hi:Int} {t u v:Tok} {tk:Nat} (I:Inv X pins σ H s) (h1 : -(2 ^ 62)≤lo) (h2:lo < 2 ^ 62) (h3 : -(2 ^ 62)≤hi) (h4:hi < 2 ^ 62)
    (q:R (Itr lo (hi - lo).toNat) H):wpAny (model X.prog X.w) X.A (pyIter (.ref s.heap.objs.size)) (PIE X pins σ tg R) E { s with heap:=s.heap.push { cls := .type "range",data := .fields #[.int lo t,.int hi u,.int 1 v] },toks:=tk }:=by
  refine wpAny_pyIter_range (IsRange.new ..) (small_one h1 h2 h3 h4) ?_
  have I1:Inv X pins σ H { s with heap:=s.heap.push { cls := .type "range",data := .fields #[.int lo t,.int hi u,.int 1 v] },toks:=tk }:=I.kept fun b o e=>Heap.get?_push_of_some _ e
  refine ⟨(s.heap.push { cls := .type "range",data := .fields #[.int lo t,.int hi u,.int 1 v] }).objs.size,[(s.heap.push { cls := .type "range",data := .fields #[.int lo t,.int hi u,.int 1 v] }).objs.size],_,_,H,rfl,
    I1.kept (t':=tk) fun b o e=>Heap.get?_push_of_some _ e,Qix _ lo (hi - lo).toNat,?_,fun b hb => ?_,q⟩
  · have e1:lo + ((0:Nat):Int) * 1=lo:=by simp
    have e2:(((hi - lo).toNat:Nat):Int) - ((0:Nat):Int)=Builtin.Range.rangeSize lo hi 1:=by rw [rangeSize_one];split <;> omega
    show IsRangeIter _ _ (lo + ((0:Nat):Int) * 1) ((((hi - lo).toNat:Nat):Int) - ((0:Nat):Int)) 1
    rw [e1,e2]
    exact Heap.get?_push_size _ rfl
  · have e:b=(s.heap.push { cls := .type "range",data := .fields #[.int lo t,.int hi u,.int 1 v] }).objs.size:=by simpa using hb
    subst e
    exact I1.fpOk (Nat.le_refl _) (I1.hok.fresh (Nat.le_refl _))
noncomputable def iRng1 (ta:TA):TI:=fun σ H R=>ta σ H fun vs H1=>∃ j:Int,vs=[.int j] ∧ -(2 ^ 62)≤j∧j < 2 ^ 62∧R (Itr 0 j.toNat) H1
theorem Qfy {a:Expr} {ta:TA} {p pos:Pos} (hg:Gl X "range") (hm:X.mg "range"=none) (ha:PA X [a] ta) (hs:starEach [a] X.env=[(false,eval a X.env)]:=by rfl):PI X tg (.Call (.Name "range" p) [a] [] pos) (iRng1 ta):=by
  intro pins s σ H R I h
  refine Call_ (QbW I hg hm boot_range (PyProof.Rows.callWith_type1 (thn (ha pos pins s σ H _ I h) fun us s1 ⟨vs,H1,I1,r1,q1⟩ => ?_) hs rfl))
  obtain ⟨j,e,q1,q2,q⟩:=q1
  subst e
  cases r1 with
  | cons r rr =>
    cases rr
    obtain ⟨t,rfl⟩:=r
    exact call_range_1 (range_it I1 (by omega) (by omega) q1 q2 (by simpa using q))
noncomputable def tFor (wi:TI) (g:TG) (tb:TS):TS:=fun D σ H=>wi σ H fun J H1=>∃ W:Nat→Nat→St→Hp→Prop,(∃ m,W 0 m σ H1)∧∀ i m σ H,W i m σ H →
  (J.stop i H∧D.nx σ H)∨(J.go i H∧∃ N:St→Hp→Prop,(∀ σ' H',N σ' H'→∃ m',m' < m∧W (i + 1) m' σ' H')∧∀ x H',J.yld i H x H'→g x σ H' fun σ2 H2=>tb { D with nx:=N,ct:=N,bk:=D.nx } σ2 H2)
noncomputable def Qfh (fp:List Addr) (h:Heap):List (Addr×Obj):=fp.filterMap fun b=>(h.get? b).map fun o=>(b,o)
theorem Qaw {fp:List Addr} {h:Heap} {b:Addr} {o:Obj} (hb:b∈fp) (e:h.get? b=some o):(b,o)∈Qfh fp h:=List.mem_filterMap.mpr ⟨b,hb,by rw [e];rfl⟩
theorem QkH {fp:List Addr} {h:Heap} {p:Addr×Obj} (hp:p∈Qfh fp h):p.1∈fp∧h.get? p.1=some p.2:=by
  obtain ⟨b,hb,e⟩:=List.mem_filterMap.mp hp
  cases q:h.get? b with
  | none=>rw [q] at e;cases e
  | some o =>
    rw [q] at e
    have e':(b,o)=p:=Option.some.inj e
    subst e'
    exact ⟨hb,q⟩
theorem Inv.pinned {pins:List (Addr×Obj)} {σ:St} {H:Hp} {s:Shared} {fp:List Addr} (I:Inv X pins σ H s) (hf:∀ b∈fp,FpOk X pins H b) (ho:∀ b∈fp,∃ o,s.heap.get? b=some o∧∀ v,o.data ≠ .cell v):Inv X (pins++Qfh fp s.heap) σ H s :=
  I.pins_of fun p hp=>(List.mem_append.mp hp).elim (fun z=>I.pin p (List.mem_append_right _ z)) fun z=>by
    obtain ⟨hb,e⟩:=QkH z
    obtain ⟨f0,f1,f2,_⟩:=hf p.1 hb
    obtain ⟨o,e',d⟩:=ho p.1 hb
    rw [e] at e';cases e'
    exact ⟨e,f0,f1,f2,d⟩
theorem Inv.unpinned {pins pl:List (Addr×Obj)} {σ:St} {H:Hp} {s:Shared} (I:Inv X (pins++pl) σ H s):Inv X pins σ H s:=I.pins_of fun p hp=>I.pin p (List.mem_append_right _ (List.mem_append_left _ hp))
theorem Qjy {iter:Expr} {body:List Stmt} {wi:TI} {g:TG} {tb:TS} {pos:Pos} (hp:PassesOwn (model X.prog X.w) X.A X.env X.xe) (hc:X.calm=true) (hi:PI X tg iter wi) (hg:PG X tg g) (hb:PSs X body tb)
    (hs:∀ x,foldedSetIterable iter X.env x=pure x:=by intro _;rfl):PS X (.For tg iter body [] pos) (tFor wi g tb):=by
  intro pins s σ H D I h
  refine wpAny_For (thn (hi pins s σ H _ I h) fun v s1 h1=>thn h1 fun itv s2 h2 => ?_) hs
  obtain ⟨it,fp,tn,J,H2,e,I2,T,st2,f2,W,⟨m0,w0⟩,turn⟩:=h2
  subst e
  -- what stays true of the iterator's objects through the loop
  have stat:∀ {H':Hp},(∀ b∈fp,H' b=none)→∀ b∈fp,FpOk X pins H' b:=fun hn b hb=>⟨hn b hb,(f2 b hb).2⟩
  refine codeAny_forLoop_any (fun n s'=>∃ i σ' H',Inv X pins σ' H' s'∧tn i s'.heap∧(∀ b∈fp,H' b=none)∧W i n σ' H') ?_ m0 ⟨0,σ,H2,I2,st2,fun b hb=>(f2 b hb).1,w0⟩
  rintro n s3 ⟨i,σ3,H3,I3,st3,fr3,w3⟩
  rcases turn i n σ3 H3 w3 with ⟨stop,qn⟩ | ⟨go,N,hN,step⟩
  · refine wpAny_passesOwn hp (thn (T.done X rfl rfl rfl hc i pins s3 σ3 H3 X.xe I3 (stat fr3) st3 stop) fun r s4 ⟨hr,I4⟩ => ?_)
    subst hr
    exact wpAny_execs_nil ⟨σ3,H3,I4,qn⟩
  · refine wpAny_passesOwn hp (thn (T.item X rfl rfl rfl hc i pins s3 σ3 H3 X.xe I3 (stat fr3) st3 go) fun r s4 ⟨u,hr,h4⟩ => ?_)
    subst hr
    refine wpAny_passesOwn hp (thn h4 fun _ s5 ⟨x,H5,I5,r5,y5,st5,fr5⟩ => ?_)
    have I5':=I5.pinned (stat fr5) (T.obj _ _ st5)
    refine wpAny_passesOwn hp (thn (hg _ s5 σ3 H5 x u _ I5' r5 (step x H5 y5)) fun _ s6 ⟨σ6,H6,I6,q6⟩ => ?_)
    refine wpAny_passesOwn hp (thn (hb _ s6 σ6 H6 _ I6 q6) fun f s7 q7 => ?_)
    have again:∀ {σ7:St} {H7:Hp},Inv X (pins++Qfh fp s5.heap) σ7 H7 s7→N σ7 H7→∃ m,m < n∧∃ i σ' H',Inv X pins σ' H' s7∧tn i s7.heap∧(∀ b∈fp,H' b=none)∧W i m σ' H':=fun {σ7 H7} I7 n7=>by
      obtain ⟨m',hm,w7⟩:=hN σ7 H7 n7
      refine ⟨m',hm,i + 1,σ7,H7,I7.unpinned,T.keep _ _ _ st5 fun b hb o e=>(I7.pin (b,o) (List.mem_append_right _ (List.mem_append_right _ (Qaw hb e)))).1,fun b hb => ?_,w7⟩
      obtain ⟨o,e,d⟩:=T.obj _ _ st5 b hb
      exact (I7.pin (b,o) (List.mem_append_right _ (List.mem_append_right _ (Qaw hb e)))).2.1
    cases f with
    | next=>obtain ⟨σ7,H7,I7,n7⟩:=q7;exact again I7 n7
    | cont=>obtain ⟨σ7,H7,I7,n7⟩:=q7;exact again I7 n7
    | brk=>obtain ⟨σ7,H7,I7,q7⟩:=q7;exact ⟨σ7,H7,I7.unpinned,q7⟩
    | ret v=>obtain ⟨x7,σ7,H7,I7,r7,q7⟩:=q7;exact ⟨x7,σ7,H7,I7.unpinned,r7,q7⟩
end

end L2

namespace L2
open PySem PySem.Spec PyProof.Rows

noncomputable abbrev R2:=V→V→Hp→VK→Prop
noncomputable def OpR (X:Cx) (f:Value→Value→Sem Value) (r:R2):Prop :=
  ∀ (pins:List (Addr×Obj)) (s:Shared) (σ:St) (H:Hp) (x y:V) (v u:Value) (Q:VK),Inv X pins σ H s→RelV x v→RelV y u→r x y H Q →
    wpAny (model X.prog X.w) X.A (f v u) (EP X pins σ Q) X.xe s
noncomputable def UnR (X:Cx) (f:Value→Sem Value) (r:V→Hp→VK→Prop):Prop :=
  ∀ (pins:List (Addr×Obj)) (s:Shared) (σ:St) (H:Hp) (x:V) (v:Value) (Q:VK),Inv X pins σ H s→RelV x v→r x H Q →
    wpAny (model X.prog X.w) X.A (f v) (EP X pins σ Q) X.xe s
noncomputable def Qac (X:Cx) (f:Value) (r:List V→Hp→VK→Prop):Prop :=
  ∀ (pins:List (Addr×Obj)) (s:Shared) (σ:St) (H:Hp) (xs:List V) (us:List Value) (Q:VK),Inv X pins σ H s→Vals xs us→r xs H Q →
    wpAny (model X.prog X.w) X.A (call f us) (EP X pins σ Q) X.xe s
noncomputable def TruR (X:Cx) (r:V→Hp→(Bool→Hp→Prop)→Prop):Prop :=
  ∀ (pins:List (Addr×Obj)) (s:Shared) (σ:St) (H:Hp) (x:V) (v:Value) (Q:Bool→Hp→Prop),Inv X pins σ H s→RelV x v→r x H Q →
    wpAny (model X.prog X.w) X.A (truthy v) (TP X pins σ Q) X.xe s

noncomputable def tOp (r:R2) (ta tb:TE):TE:=fun σ H Q=>ta σ H fun x H1=>tb σ H1 fun y H2=>r x y H2 Q
noncomputable def tUn (r:V→Hp→VK→Prop) (ta:TE):TE:=fun σ H Q=>ta σ H fun x H1=>r x H1 Q
noncomputable def rI (C:Int→Int→Prop) (g:Int→Int→V):R2:=fun x y H Q=>∃ i j,x = .int i∧y = .int j∧C i j∧Q (g i j) H
noncomputable def rI0 (g:Int→Int→V):R2:=fun x y H Q=>∃ i j,x = .int i∧y = .int j∧Q (g i j) H
noncomputable def rU (g:Int→V):V→Hp→VK→Prop:=fun x H Q=>∃ i,x = .int i∧Q (g i) H

section
variable {X:Cx} {a b c:Expr} {ta tb tc:TE} {pos:Pos}

theorem binT (ha:PE X a ta) (hb:PE X b tb) {pins:List (Addr×Obj)} {s:Shared} {σ:St} {H:Hp} {R:V→V→Hp→Prop} (I:Inv X pins σ H s)
    (h:ta σ H fun x H1=>tb σ H1 fun y H2=>R x y H2) {Q:Value→Shared→Prop} {f:Value→Value→Sem Value}
    (hf:∀ v u s2 x y H2,Inv X pins σ H2 s2→RelV x v→RelV y u→R x y H2→wpAny (model X.prog X.w) X.A (f v u) Q X.xe s2) :
    wpAny (model X.prog X.w) X.A (eval a X.env) (fun v s₁=>wpAny (model X.prog X.w) X.A (eval b X.env) (fun u s₂=>wpAny (model X.prog X.w) X.A (f v u) Q X.xe s₂) X.xe s₁) X.xe s:=by
  refine thn (ha pins s σ H _ I h) fun v s1 ⟨x,H1,I1,r1,q1⟩ => ?_
  refine thn (hb pins s1 σ H1 _ I1 q1) fun u s2 ⟨y,H2,I2,r2,q2⟩ => ?_
  exact hf v u s2 x y H2 I2 r1 r2 q2

theorem pe_op {op:Operator} {r:R2} (ho:OpR X (binaryOp op) r) (ha:PE X a ta) (hb:PE X b tb):PE X (.BinOp a op b pos) (tOp r ta tb):=by
  intro pins s σ H Q I h
  exact wpAny_BinOp (binT ha hb I h fun v u s2 x y H2 I2 rx ry q=>ho pins s2 σ H2 x y v u Q I2 rx ry q)
theorem pe_un {op:UnaryOp} {r:V→Hp→VK→Prop} (ho:UnR X (unaryOp op) r) (ha:PE X a ta):PE X (.UnaryOp op a pos) (tUn r ta):=by
  intro pins s σ H Q I h
  exact UnaryOp_ (thn (ha pins s σ H _ I h) fun v s1 ⟨x,H1,I1,r1,q1⟩=>ho pins s1 σ H1 x v Q I1 r1 q1)
theorem opI {f:Value→Value→Sem Value} {C:Int→Int→Prop} {g:Int→Int→Int}
    (rule:∀ (i j:Int) (t u:Tok) (s:Shared) (Q:Value→Shared→Prop) (E:Value→Shared→Prop),C i j→Q (.int (g i j) s.toks) { s with toks:=s.toks + 1 }→wpAny (model X.prog X.w) X.A (f (.int i t) (.int j u)) Q E s) :
    OpR X f (rI C fun i j => .int (g i j)):=by
  intro pins s σ H x y v u Q I rx ry h
  obtain ⟨i,j,rfl,rfl,hc,q⟩:=h
  obtain ⟨t,rfl⟩:=rx
  obtain ⟨t',rfl⟩:=ry
  exact rule i j t t' s _ _ hc ⟨.int (g i j),H,I.tok _,⟨_,rfl⟩,q⟩
theorem opI0 {f:Value→Value→Sem Value} {g:Int→Int→Int}
    (rule:∀ (i j:Int) (t u:Tok) (s:Shared) (Q:Value→Shared→Prop) (E:Value→Shared→Prop),Q (.int (g i j) s.toks) { s with toks:=s.toks + 1 }→wpAny (model X.prog X.w) X.A (f (.int i t) (.int j u)) Q E s) :
    OpR X f (rI0 fun i j => .int (g i j)):=by
  intro pins s σ H x y v u Q I rx ry h
  obtain ⟨i,j,rfl,rfl,q⟩:=h
  obtain ⟨t,rfl⟩:=rx
  obtain ⟨t',rfl⟩:=ry
  exact rule i j t t' s _ _ ⟨.int (g i j),H,I.tok _,⟨_,rfl⟩,q⟩
theorem opB0 {f:Value→Value→Sem Value} {g:Int→Int→Bool}
    (rule:∀ (i j:Int) (t u:Tok) (s:Shared) (Q:Value→Shared→Prop) (E:Value→Shared→Prop),Q (.bool (g i j)) s→wpAny (model X.prog X.w) X.A (f (.int i t) (.int j u)) Q E s) :
    OpR X f (rI0 fun i j => .bl (g i j)):=by
  intro pins s σ H x y v u Q I rx ry h
  obtain ⟨i,j,rfl,rfl,q⟩:=h
  obtain ⟨t,rfl⟩:=rx
  obtain ⟨t',rfl⟩:=ry
  exact rule i j t t' s _ _ ⟨.bl (g i j),H,I,rfl,q⟩

noncomputable def CPow (i j:Int):Prop:=0≤j∧j≤1000000∧i.natAbs < 2 ^ 64
noncomputable def CMul (i j:Int):Prop:=(-(2 ^ 64) < i∧i < 2 ^ 64)∨(-(2 ^ 64) < j∧j < 2 ^ 64)
theorem CMul.ok {i j:Int} (h:CMul i j):IntMulOk i j:=by
  rcases h with ⟨h1,h2⟩ | ⟨h1,h2⟩
  · exact .of_left (intBits_le_64 h1 h2)
  · exact .of_right (intBits_le_64 h1 h2)
theorem Qiv (k:Nat):(0:Int)≤2 ^ k:=by
  rw [two_pow_cast]
  exact Int.natCast_nonneg _

theorem op_add:OpR X (binaryOp .Add) (rI0 fun i j => .int (i + j)):=opI0 fun _ _ _ _ _ _ _ q=>add_int q
theorem op_sub:OpR X (binaryOp .Sub) (rI0 fun i j => .int (i - j)):=opI0 fun _ _ _ _ _ _ _ q=>sub_int q
theorem op_mul:OpR X (binaryOp .Mult) (rI CMul fun i j => .int (i * j)):=opI fun _ _ _ _ _ _ _ hc q=>mul_int q hc.ok
theorem op_mod:OpR X (binaryOp .Mod) (rI (fun _ j=>0 < j) fun i j => .int (i % j)):=opI fun i j _ _ _ _ _ hc q=>by
  have h1:(0:Int) < j:=hc
  exact mod_int' (by omega) (by rw [Int.fmod_eq_emod_of_nonneg i (by omega)];exact q)
theorem op_shl:OpR X (binaryOp .LShift) (rI CPow fun i j => .int (i * 2 ^ j.toNat)):=opI fun _ _ _ _ _ _ _ hc q=>lshift_int_small hc.1 hc.2.1 hc.2.2 q
theorem op_shr:OpR X (binaryOp .RShift) (rI (fun _ j=>0≤j) fun i j => .int (i / 2 ^ j.toNat)):=opI fun i j _ _ _ _ _ hc q =>
  rshift_int hc (by rw [Int.fdiv_eq_ediv_of_nonneg i (Qiv _)];exact q)
theorem op_and:OpR X (binaryOp .BitAnd) (rI0 fun i j => .int (Builtin.bitAnd i j)):=opI0 fun _ _ _ _ _ _ _ q=>and_int q
theorem op_or:OpR X (binaryOp .BitOr) (rI0 fun i j => .int (Builtin.bitOr i j)):=opI0 fun _ _ _ _ _ _ _ q=>or_int q
theorem iop_or:OpR X (inplaceOp .BitOr) (rI0 fun i j => .int (Builtin.bitOr i j)):=opI0 fun _ _ _ _ _ _ _ q=>ior_int q
theorem unI {f:Value→Sem Value} {g:Int→Int}
    (rule:∀ (i:Int) (t:Tok) (s:Shared) (Q:Value→Shared→Prop) (E:Value→Shared→Prop),Q (.int (g i) s.toks) { s with toks:=s.toks + 1 }→wpAny (model X.prog X.w) X.A (f (.int i t)) Q E s) :
    UnR X f (rU fun i => .int (g i)):=by
  intro pins s σ H x v Q I rx h
  obtain ⟨i,rfl,q⟩:=h
  obtain ⟨t,rfl⟩:=rx
  exact rule i t s _ _ ⟨.int (g i),H,I.tok _,⟨_,rfl⟩,q⟩
theorem un_neg:UnR X (unaryOp .USub) (rU fun i => .int (-i)):=unI fun _ _ _ _ _ q=>neg_int q
theorem un_inv:UnR X (unaryOp .Invert) (rU fun i => .int (Builtin.bitNot i)):=unI fun _ _ _ _ _ q=>invert_int q

end

section
variable {X:Cx} {a b c:Expr} {ta tb tc:TE} {pos:Pos}
theorem QgR {pins:List (Addr×Obj)} {σ:St} {H:Hp} {s:Shared} {Q:VK} {k k':Bool} (I:Inv X pins σ H s) (q:Q (.bl k) H) (e:k=k'):EP X pins σ Q (.bool k') s:=by
  subst e
  exact ⟨.bl k,H,I,rfl,q⟩
theorem op_lt:OpR X (compareOp .Lt) (rI0 fun i j => .bl (decide (i < j))):=opB0 fun _ _ _ _ _ _ _ q=>lt_int q
theorem op_gt:OpR X (compareOp .Gt) (rI0 fun i j => .bl (decide (j < i))):=opB0 fun _ _ _ _ _ _ _ q=>gt_int q
theorem op_isN:OpR X (compareOp .Is) (fun x y H Q=>y = .non∧Q (.bl (decide (x = .non))) H):=by
  intro pins s σ H x y v u Q I rx ry h
  obtain ⟨rfl,q⟩:=h
  cases ry
  refine is_none_gen (QgR I q ?_)
  cases x <;> first
    | (cases rx;rfl)
    | (obtain ⟨t,rfl⟩:=rx;rfl)
theorem op_notN:OpR X (compareOp .IsNot) (fun x y H Q=>y = .non∧Q (.bl (!decide (x = .non))) H):=by
  intro pins s σ H x y v u Q I rx ry h
  obtain ⟨rfl,q⟩:=h
  cases ry
  refine isnot_none_gen (QgR I q ?_)
  cases x <;> first
    | (cases rx;rfl)
    | (obtain ⟨t,rfl⟩:=rx;rfl)

theorem OpR.or {f:Value→Value→Sem Value} {r r':R2} (h:OpR X f r) (h':OpR X f r'):OpR X f (fun x y H Q=>r x y H Q∨r' x y H Q):=by
  intro pins s σ H x y v u Q I rx ry q
  rcases q with q | q
  · exact h pins s σ H x y v u Q I rx ry q
  · exact h' pins s σ H x y v u Q I rx ry q

theorem Zl (b:Expr) {op:CmpOp} (h:op ≠ .In:=by decide) (h2:op ≠ .NotIn:=by decide):behindInMarks op b=false:=by
  have e1:(op==CmpOp.In)=false:=by cases op <;> first | rfl | exact absurd rfl h
  have e2:(op==CmpOp.NotIn)=false:=by cases op <;> first | rfl | exact absurd rfl h2
  cases b <;> simp [behindInMarks,e1,e2]
theorem pe_cmpR {op:CmpOp} {r:R2} (ho:OpR X (compareOp op) r) (ha:PE X a ta) (hb:PE X b tb) (hm:behindInMarks op b=false):PE X (.Compare a [op] [b] pos) (tOp r ta tb):=by
  intro pins s σ H Q I h
  exact wpAny_Compare1 (binT ha hb I h fun v u s2 x y H2 I2 rx ry q=>ho pins s2 σ H2 x y v u Q I2 rx ry q) hm
noncomputable def tTest (t:TE):TT:=fun σ H Q=>t σ H fun x H'=>∃ k,x = .bl k∧Q k H'
theorem pt_cmpR {op:CmpOp} {r:R2} (ho:OpR X (compareOp op) r) (ha:PE X a ta) (hb:PE X b tb) (hm:behindInMarks op b=false):PT X (.Compare a [op] [b] pos) (tTest (tOp r ta tb)):=by
  intro pins s σ H Q I h
  refine wpAny_isTrue_Compare1 (thn (ha pins s σ H _ I h) fun v s1 ⟨x,H1,I1,r1,q1⟩=>thn (hb pins s1 σ H1 _ I1 q1) fun u s2 ⟨y,H2,I2,r2,q2⟩ =>
    thn (ho pins s2 σ H2 x y v u _ I2 r1 r2 q2) fun c s3 ⟨z,H3,I3,r3,k,e,q3⟩ => ?_) hm
  subst e
  cases r3
  exact wpAny_truthy_bool ⟨H3,I3,q3⟩
noncomputable def TruV (K:PySem.W.Frag) (x:V) (H:Hp) (k:Bool):Prop :=
  match x with
  | .non=>k=false
  | .bl b=>k=b
  | .int i=>k=(i != 0)
  | .str y=>y.length≤sizeLine∧k=((y.length:Int) != 0)
  | .byt y=>y.size≤sizeLine∧k=((y.size:Int) != 0)
  | .ref p=>(∃ xs,SqL K H p xs∧k = !xs.isEmpty)∨(∃ xs,SqT K H p xs∧k = !xs.isEmpty)∨∃ kvs,H p=some (.dK kvs)∧k = !kvs.isEmpty
  | _=>False
theorem QiW {κ:Type} {kvs:List (κ×V)} {vs:List (κ×Value)} (r:KV kvs vs):(!vs.isEmpty) = !kvs.isEmpty:=by
  cases r <;> rfl
theorem Qef {xs:List V} {its:List Value} (r:Vals xs its):(!its.toArray.isEmpty) = !xs.isEmpty:=by
  cases r <;> simp
theorem QcC:(sizeLine:Nat) < 2 ^ 63:=by rw [sizeLine_eq];decide
theorem tru_ok:TruR X (fun x H Q=>∃ k,TruV X.K x H k∧Q k H):=by
  intro pins s σ H x v Q I rx h
  obtain ⟨k,e,q⟩:=h
  have hl:=QcC
  have hs:sizeLine=16777216:=sizeLine_eq
  cases x with
  | non =>
    cases rx
    have e':k=false:=e
    subst e'
    exact truthy_none ⟨H,I,q⟩
  | bl b =>
    cases rx
    have e':k=b:=e
    subst e'
    exact wpAny_truthy_bool ⟨H,I,q⟩
  | int i =>
    obtain ⟨t,rfl⟩:=rx
    have e':k=(i != 0):=e
    subst e'
    exact PySem.P.truthy_int ⟨H,I,q⟩
  | str y =>
    obtain ⟨t,rfl⟩:=rx
    obtain ⟨hy,e'⟩:y.length≤sizeLine∧k=((y.length:Int) != 0):=e
    subst e'
    exact PySem.P.truthy_str (by omega) ⟨H,I.tok _,q⟩
  | byt y =>
    obtain ⟨t,rfl⟩:=rx
    obtain ⟨hy,e'⟩:y.size≤sizeLine∧k=((y.size:Int) != 0):=e
    subst e'
    exact PySem.W.truthy_bytes (by omega) ⟨H,I.tok _,q⟩
  | ref p =>
    cases rx
    have e':(∃ xs,SqL X.K H p xs∧k = !xs.isEmpty)∨(∃ xs,SqT X.K H p xs∧k = !xs.isEmpty)∨∃ kvs,H p=some (.dK kvs)∧k = !kvs.isEmpty:=e
    rcases e' with ⟨xs,hx,e'⟩ | ⟨xs,hx,e'⟩ | ⟨kvs,hx,e'⟩
    · subst e'
      obtain ⟨its,r,pl,hz⟩:=I.list hx
      have hlen:=r.length
      exact wpAny_truthy_list pl.isList (by simp only [List.size_toArray];omega) ⟨H,I.tok _,by rw [Qef r];exact q⟩
    · subst e'
      obtain ⟨its,r,pl,hz⟩:=I.tuple hx
      have hlen:=r.length
      exact truthy_tuple pl (by simp only [List.size_toArray];omega) ⟨H,I.tok _,by rw [Qef r];exact q⟩
    · subst e'
      obtain ⟨hz,hS,vs,r,m⟩:kvs.length≤sizeLine∧(p==sysModules)=false∧∃ vs,KV kvs vs∧s.heap.DictOf (Qgx X.prog X.w) p vs:=I.hok p _ hx
      have hlen:kvs.length=vs.length:=Paired.length r
      exact wpAny_truthy_dict hS m (by omega) ⟨H,I.tok _,by rw [QiW r];exact q⟩
  | _=>exact (show False from e).elim
theorem pt_truth (ha:PE X a ta) (he:∀ whole,isTrue a X.env whole=(do let v ← whole;standAt a.pos;holding [v] (truthy v))) :
    PT X a (fun σ H Q=>ta σ H fun x H'=>∃ k,TruV X.K x H' k∧Q k H'):=by
  intro pins s σ H Q I h
  exact isTrue_plain (thn (ha pins s σ H _ I h) fun v s1 ⟨x,H1,I1,r1,q1⟩=>tru_ok pins s1 σ H1 x v Q I1 r1 q1) (he _)

theorem QiH:OpR X (binaryOp .Add) (fun x y H Q=>∃ i j,x = .str i∧y = .str j∧i.length + j.length≤sizeLine∧Q (.str (i++j)) H):=by
  intro pins s σ H x y v u Q I rx ry h
  obtain ⟨i,j,rfl,rfl,hz,q⟩:=h
  obtain ⟨t,rfl⟩:=rx
  obtain ⟨t',rfl⟩:=ry
  exact add_str (fun t' tk=>⟨.str (i++j),H,I.tok _,⟨_,rfl⟩,q⟩) hz
theorem QcY {x:V} {us:List Value} (r:Vals [x] us):∃ u,us=[u]∧RelV x u:=by
  cases r with
  | cons r1 r2=>cases r2;exact ⟨_,rfl,r1⟩
theorem vals2 {x y:V} {us:List Value} (r:Vals [x,y] us):∃ u w',us=[u,w']∧RelV x u∧RelV y w':=by
  cases r with
  | cons r1 r2 =>
    cases r2 with
    | cons r3 r4=>cases r4;exact ⟨_,_,rfl,r1,r3⟩
noncomputable def LenV (K:PySem.W.Frag) (x:V) (H:Hp) (n:Nat):Prop :=
  match x with
  | .str y=>y.length≤sizeLine∧n=y.length
  | .byt y=>y.size≤sizeLine∧n=y.size
  | .ref p=>(∃ xs,SqL K H p xs∧n=xs.length)∨∃ xs,SqT K H p xs∧n=xs.length
  | _=>False
theorem call_len:Qac X (.builtin "len") (fun xs H Q=>∃ x n,xs=[x]∧LenV X.K x H n∧Q (.int n) H):=by
  intro pins s σ H xs us Q I r h
  obtain ⟨x,n,rfl,e,q⟩:=h
  obtain ⟨u,rfl,rx⟩:=QcY r
  have hl:=QcC
  have hs:sizeLine=16777216:=sizeLine_eq
  cases x with
  | str y =>
    obtain ⟨t,rfl⟩:=rx
    obtain ⟨hy,e'⟩:y.length≤sizeLine∧n=y.length:=e
    subst e'
    exact len_str (by omega) ⟨.int _,H,I.tok _,⟨_,rfl⟩,q⟩
  | byt y =>
    obtain ⟨t,rfl⟩:=rx
    obtain ⟨hy,e'⟩:y.size≤sizeLine∧n=y.size:=e
    subst e'
    exact PySem.W.len_bytes (by omega) ⟨.int _,H,I.tok _,⟨_,rfl⟩,q⟩
  | ref p =>
    cases rx
    have e':(∃ xs,SqL X.K H p xs∧n=xs.length)∨∃ xs,SqT X.K H p xs∧n=xs.length:=e
    rcases e' with ⟨xs,hx,e'⟩ | ⟨xs,hx,e'⟩
    · subst e'
      obtain ⟨its,r',pl,hz⟩:=I.list hx
      have hlen:=r'.length
      exact Calls.call_len_list pl.isList (by simp only [List.size_toArray];omega) ⟨.int xs.length,H,I.tok _,⟨_,by simp only [List.size_toArray];rw [hlen]⟩,q⟩
    · subst e'
      obtain ⟨its,r',pl,hz⟩:=I.tuple hx
      have hlen:=r'.length
      exact len_tuple pl (by simp only [List.size_toArray];omega) ⟨.int xs.length,H,I.tok _,⟨_,by simp only [List.size_toArray];rw [hlen]⟩,q⟩
  | _=>exact (show False from e).elim
end
end L2

namespace L2
open PySem PySem.Spec PyProof.Rows

structure ObjM (h:Heap) (x dx C:Addr) (mA:Str→Option Value):Prop where
  obj:h.get? x=some (PySem.W.instObj C dx)
  ns:h.Ns1 dx mA
  ne:dx≠x

theorem QkI {h:Heap} {dx:Addr} {mA:Str→Option Value} (n:h.Ns1 dx mA):∃ od,h.get? dx=some od∧∀ name,PySem.W.lookIn name od=some (mA name):=by
  obtain ⟨o,es,ep,ho,hd,hk,_,hm⟩:=n
  refine ⟨o,ho,fun name => ?_⟩
  have e:=hm name
  unfold nsFind findBy at e
  rw [← Array.find?_toList] at e
  unfold PySem.W.lookIn
  rw [hd]
  dsimp only
  split
  · rename_i y q
    rw [q] at e
    exact congrArg some e
  · rename_i q
    rw [q] at e
    have a:es.toList.any (·.refKey)=false:=by
      rw [List.any_eq_false]
      intro y hy
      obtain ⟨z,t,hkey⟩:=hk y (Array.mem_toList_iff.mp hy)
      simp [DictEntry.refKey,hkey]
    have a':¬ es.toList.any (·.refKey)=true:=by rw [a];exact Bool.false_ne_true
    rw [if_neg a']
    exact congrArg some e

theorem ObjM.look {h:Heap} {x dx C:Addr} {mA:Str→Option Value} (I:ObjM h x dx C mA):∃ od,PySem.W.InstAt h x (PySem.W.instObj C dx) C (some od)∧∀ name,PySem.W.lookIn name od=some (mA name) :=
  let ⟨od,ho,hl⟩:=QkI I.ns
  ⟨od,⟨I.obj,rfl,rfl,ho⟩,hl⟩

section
variable {prog:Program} {w:World} {A:Around} {E:Value→Shared→Prop} {s:Shared} {K:PySem.W.Frag} {x dx C f:Addr} {mA:Str→Option Value} {name:Str} {v:Value}

theorem get_map {expr:Bool} {Q:Value→Shared→Prop} (X:K.In s.heap) (I:ObjM s.heap x dx C mA) (hg:PySem.W.plainGet K C name=true) (hh:PySem.W.hasDictIn K C=true)
    (ha:PySem.W.findIn K (.ref C) name=some none) (hv:mA name=some v) (hv':PySem.W.handedIn v=true) (h:Q v { s with toks:=s.toks + 1 }) :
    wpAny (model prog w) A (getAttr (.ref x) name expr) Q E s:=by
  obtain ⟨od,J,hl⟩:=I.look
  exact PySem.W.get_value X J (PySem.W.plainGet_of hg).1 (PySem.W.findObj_own hh ha rfl (by rw [hl,hv])) hv' h

theorem get_meth {pl:Sem Bool} {Q:Value×List Value→Shared→Prop} (X:K.In s.heap) (I:ObjM s.heap x dx C mA) (hg:PySem.W.plainGet K C name=true)
    (hf:PySem.W.findIn K (.ref C) name=some (some (.ref f))) (ht:PySem.W.isFn K (.ref f)=true) (hv:mA name=none) (h:Q (.ref f,[.ref x]) s) :
    wpAny (model prog w) A (getMethod (.ref x) name pl) Q E s:=by
  obtain ⟨od,J,hl⟩:=I.look
  exact PySem.W.method_fn X J (PySem.W.plainGet_of hg).1 (PySem.W.plainGet_of hg).2 hf (beq_iff_eq.mp ht) (by show (PySem.W.lookIn name od).map (·.isSome)=some false;rw [hl,hv];rfl) h

theorem set_map {ns:List Str} {Q:Unit→Shared→Prop} (X:K.In s.heap) (I:ObjM s.heap x dx C mA)
    (hs:PySem.W.findIn K (.ref C) "__setattr__"=some (some (.builtin "object.__setattr__"))) (hp:PySem.W.plainOver K C=true) (ht:PySem.W.takerIn K C name=some none) (hh:PySem.W.hasDictIn K C=true)
    (hw:PySem.Within mA ns) (hsz:ns.length≤sizeLine)
    (h:∀ h',ObjM h' x dx C (fun y=>if y=name then some v else mA y)→Heap.SameBut dx s.heap h'→Q () { s with heap:=h',toks:=s.toks + 2 }) :
    wpAny (model prog w) A (setAttr (.ref x) name v) Q E s:=by
  obtain ⟨od,J,hl⟩:=I.look
  refine PySem.W.set_plain X J hs (PySem.W.osa_open (s:={ s with toks:=s.toks + 1 }) (r:=none) X J hp ht fun b => ?_)
  obtain ⟨cd,hc,hd'⟩:=PySem.W.any_some hh
  have hx:s.heap.get? x=some ⟨.ref C,some dx,.plain,#[]⟩:=I.obj
  refine wpAny_bind (wpAny_pure (wpAny_bind (wpAny_bind (wpAny_loadPart hx (wpAny_bind (PySem.W.Looks.here (s:={ s with toks:=s.toks + 1 }) (PySem.W.looks_clsIn X hc) ?_))))))
  rw [hd']
  refine wpAny_pure (a:=some dx) (wpAny_bind (wpAny_pure (wpAny_bind ?_)))
  refine wpAny_nsSet1 (s:={ s with toks:=s.toks + 1 }) I.ns fun h' hn2 hs2 => ?_
  obtain ⟨oD,esD,epD,hoD,hdD,hcD⟩:=hn2.count (PySem.Within.cons name v hw)
  refine wpAny_bind (wpAny_lookBehind hoD (by rw [hdD];exact pastItsLine_dict (Nat.le_trans hcD (by rw [List.length_cons];omega))) ?_)
  exact wpAny_pure (h _ ⟨(hs2.2 _ (Ne.symm I.ne)).trans I.obj,hn2,I.ne⟩ hs2)

theorem make_map {R:Result→Shared→Prop} {vs:List Value} {kw:List (Str×Value)} (X:K.In s.heap) (hm:PySem.W.makesIn K C=true)
    (hi:PySem.W.findIn K (.ref C) "__init__"=some (some (.ref f))) (hf:PySem.W.typeIn K (.ref f)=some (.type "function"))
    (h:codeAny (model prog w) (A.under (.builtin "type.__call__" ⟨.ref C :: vs,kw⟩)) (.call (.ref f) ⟨.ref (s.heap.objs.size + 1) :: vs,kw⟩) (PySem.W.InitBack (s.heap.objs.size + 1) R)
      { s with heap:=(s.heap.push PySem.W.emptyDict).push (PySem.W.instObj C s.heap.objs.size) }) :
    codeAny (model prog w) A (.call (.ref C) ⟨vs,kw⟩) R s:=by
  obtain ⟨hh,g,d,t,os⟩:=s
  exact PySem.W.make_core (PySem.W.makes_of X hm) (PySem.W.looks_findIn X hi) (fun self=>PySem.W.bind_fn X self hf) (.inl rfl) h
end

noncomputable def putF (f:Str) (v:V):List (Str×V)→List (Str×V)
  | []=>[(f,v)]
  | (g,x) :: r=>if g=f then (g,v) :: r else (g,x) :: putF f v r
theorem Qdu (f g:Str) (v:V):∀ fs:List (Str×V),(putF f v fs).lookup g=if g=f then some v else fs.lookup g
  | []=>by
    show List.lookup g [(f,v)]=_
    by_cases h:g=f
    · have hb:(g==f)=true:=beq_iff_eq.mpr h
      simp only [List.lookup,hb,if_pos h]
    · have hb:(g==f)=false:=beq_eq_false_iff_ne.mpr h
      simp only [List.lookup,hb,if_neg h]
  | (k,x) :: r=>by
    have ih:=Qdu f g v r
    rw [show putF f v ((k,x) :: r)=(if k=f then (k,v) :: r else (k,x) :: putF f v r) from rfl]
    by_cases hk:k=f
    · rw [if_pos hk]
      by_cases h:g=k
      · have hb:(g==k)=true:=beq_iff_eq.mpr h
        simp only [List.lookup,hb,if_pos (h.trans hk)]
      · have hb:(g==k)=false:=beq_eq_false_iff_ne.mpr h
        simp only [List.lookup,hb,if_neg (fun e:g=f=>h (e.trans hk.symm))]
    · rw [if_neg hk]
      by_cases h:g=k
      · have hb:(g==k)=true:=beq_iff_eq.mpr h
        simp only [List.lookup,hb,if_neg (fun e:g=f=>hk (h.symm.trans e))]
      · have hb:(g==k)=false:=beq_eq_false_iff_ne.mpr h
        simp only [List.lookup,hb]
        exact ih
theorem Qdk (f:Str) (v:V):∀ fs:List (Str×V),f∈(putF f v fs).map (·.1)∧∀ g,g∈fs.map (·.1)→g∈(putF f v fs).map (·.1)
  | []=>⟨by simp [putF],fun g h=>by simp at h⟩
  | (k,x) :: r=>by
    obtain ⟨i1,i2⟩:=Qdk f v r
    rw [show putF f v ((k,x) :: r)=(if k=f then (k,v) :: r else (k,x) :: putF f v r) from rfl]
    by_cases hk:k=f
    · rw [if_pos hk]
      subst hk
      exact ⟨by simp,fun g h=>by simpa using h⟩
    · rw [if_neg hk]
      refine ⟨?_,fun g h => ?_⟩
      · rw [List.map_cons]
        exact List.mem_cons_of_mem _ i1
      · rw [List.map_cons] at h ⊢
        rcases List.mem_cons.mp h with e | e
        · exact List.mem_cons.mpr (.inl e)
        · exact List.mem_cons_of_mem _ (i2 g e)
theorem Qdw (f:Str) (v:V):∀ fs:List (Str×V),(putF f v fs).length≤fs.length + 1
  | []=>by simp [putF]
  | (k,x) :: r=>by
    have ih:=Qdw f v r
    rw [show putF f v ((k,x) :: r)=(if k=f then (k,v) :: r else (k,x) :: putF f v r) from rfl]
    by_cases hk:k=f
    · rw [if_pos hk,List.length_cons,List.length_cons];omega
    · rw [if_neg hk,List.length_cons,List.length_cons];omega

theorem RelO.some_of {v:V} {o:Option Value} (r:RelO (some v) o):∃ u,o=some u∧RelV v u:=by
  cases o with
  | none=>exact (show False from r).elim
  | some u=>exact ⟨u,rfl,r⟩
theorem RelO.none_of {o:Option Value} (r:RelO none o):o=none:=by
  cases o with
  | none=>rfl
  | some u=>exact (show False from r).elim
theorem QkT {v:V} {u:Value} (r:RelV v u):PySem.W.handedIn u=true:=by
  cases v with
  | non=>cases (show u=Value.none from r);rfl
  | bl b=>cases (show u=Value.bool b from r);rfl
  | int i=>obtain ⟨t,e⟩:=(show ∃ t,u=Value.int i t from r);cases e;rfl
  | str x=>obtain ⟨t,e⟩:=(show ∃ t,u=Value.str x t from r);cases e;rfl
  | byt b=>obtain ⟨t,e⟩:=(show ∃ t,u=Value.bytes b t from r);cases e;rfl
  | flt b=>obtain ⟨t,e⟩:=(show ∃ t,u=Value.float b t from r);cases e;rfl
  | ref a=>cases (show u=Value.ref a from r);rfl
  | ty n=>cases (show u=Value.type n from r);rfl

section
variable {P:Program} {w:World} {H H':Hp} {h h':Heap} {a C dx:Addr} {fs fs':List (Str×V)}
theorem Qev (hok:HOk P w H h) (e:H a=some (.ins C dx fs)):∃ mA,ObjM h a dx C mA∧(∀ f,RelO (fs.lookup f) (mA f))∧PySem.Within mA (fs.map (·.1))∧fs.length≤1000∧H dx=some (.own a):=by
  obtain ⟨d,z,ne,ob,mA,n,r,q⟩:=(show YU P w H h a (.ins C dx fs) from hok a _ e)
  exact ⟨mA,⟨ob,n,ne⟩,r,q,z,d⟩
end

structure Cls (K:PySem.W.Frag) (C:Addr):Prop where
  pg:PySem.W.plainGet K C Str.empty=true
  hd:PySem.W.hasDictIn K C=true
  po:PySem.W.plainOver K C=true
  sa:PySem.W.findIn K (.ref C) "__setattr__"=some (some (.builtin "object.__setattr__"))
theorem Cls.get {K:PySem.W.Frag} {C:Addr} (c:Cls K C) (f:Str):PySem.W.plainGet K C f=true:=c.pg
noncomputable def QbX (K:PySem.W.Frag) (C:Addr) (f:Str):Prop:=PySem.W.findIn K (.ref C) f=some none
theorem QbX.taker {K:PySem.W.Frag} {C:Addr} {f:Str} (n:QbX K C f):PySem.W.takerIn K C f=some none:=by
  unfold PySem.W.takerIn
  rw [show PySem.W.findIn K (.ref C) f=some none from n]
  rfl
structure Meth (K:PySem.W.Frag) (C:Addr) (m:Str) (f:Addr):Prop where
  at_:PySem.W.findIn K (.ref C) m=some (some (.ref f))
  fn:PySem.W.isFn K (.ref f)=true
  kp:PySem.W.keepIn K (.ref f)=true

section
variable {X:Cx} {pins:List (Addr×Obj)} {σ:St} {H:Hp} {s:Shared} {a C dx:Addr} {fs:List (Str×V)} {f:Str} {v:V} {A:Around} {E:Value→Shared→Prop}

theorem QiZ {b:Bool} {Q:Value→Shared→Prop} (I:Inv X pins σ H s) (e:H a=some (.ins C dx fs)) (c:Cls X.K C) (n:QbX X.K C f) (l:fs.lookup f=some v)
    (h:∀ u s',Inv X pins σ H s'→RelV v u→Q u s'):wpAny (model X.prog X.w) A (getAttr (.ref a) f b) Q E s:=by
  obtain ⟨mA,O,r,_,_,_⟩:=Qev I.hok e
  obtain ⟨u,hu,ru⟩:=RelO.some_of (v:=v) (o:=mA f) (by rw [← l];exact r f)
  exact get_map I.kIn O (c.get f) c.hd n hu (QkT ru) (h u _ (I.tok _) ru)

theorem QiY {m:Str} {g:Addr} {pl:Sem Bool} {Q:Value×List Value→Shared→Prop} (I:Inv X pins σ H s) (e:H a=some (.ins C dx fs)) (c:Cls X.K C) (k:Meth X.K C m g) (l:fs.lookup m=none)
    (h:Q (.ref g,[.ref a]) s):wpAny (model X.prog X.w) A (getMethod (.ref a) m pl) Q E s:=by
  obtain ⟨mA,O,r,_,_,_⟩:=Qev I.hok e
  have hn:mA m=none:=RelO.none_of (by rw [← l];exact r m)
  exact get_meth I.kIn O (c.get m) k.at_ k.fn hn h

theorem QiF {y:V} {u:Value} {Q:Unit→Shared→Prop} (I:Inv X pins σ H s) (e:H a=some (.ins C dx fs)) (c:Cls X.K C) (n:QbX X.K C f) (hl:fs.length < 1000) (ry:RelV y u)
    (h:∀ s',Inv X pins σ (upd H a (.ins C dx (putF f y fs))) s'→Q () s'):wpAny (model X.prog X.w) A (setAttr (.ref a) f u) Q E s:=by
  obtain ⟨mA,O,r,wi,_,ho⟩:=Qev I.hok e
  have hz:(fs.map (·.1)).length≤sizeLine:=by rw [List.length_map,sizeLine_eq];omega
  refine set_map I.kIn O c.sa c.po n.taker c.hd wi hz fun h' O' sb=>h _ ?_
  have hd:∃ o,h'.get? dx=some o:=let ⟨o,_,_,e',_⟩:=O'.ns;⟨o,e'⟩
  refine I.write (x:=a) (e:=dx) (by rw [e];exact True.intro) (.inr ho) (fun b q hb z=>(sb.2 b hb).trans z) hd ?_
  refine ⟨by rw [Qs O.ne];exact ho,?_,O.ne,O'.obj,_,O'.ns,fun g => ?_,fun g hg => ?_⟩
  · have:=Qdw f y fs;omega
  · show RelO ((putF f y fs).lookup g) (if g=f then some u else mA g)
    rw [Qdu]
    by_cases q:g=f
    · rw [if_pos q,if_pos q];exact ry
    · rw [if_neg q,if_neg q];exact r g
  · by_cases q:g=f
    · rw [q];exact (Qdk f y fs).1
    · refine (Qdk f y fs).2 g (wi g fun z=>hg ?_)
      show (if g=f then some u else mA g)=none
      rw [if_neg q];exact z

theorem Inv.made (I:Inv X pins σ H s):Inv X pins σ (upd (upd H s.heap.objs.size (.own (s.heap.objs.size + 1))) (s.heap.objs.size + 1) (.ins C s.heap.objs.size []))
    { s with heap:=(s.heap.push PySem.W.emptyDict).push (PySem.W.instObj C s.heap.objs.size) }:=by
  have e1:(s.heap.push PySem.W.emptyDict).get? s.heap.objs.size=some PySem.W.emptyDict:=Heap.get?_push_size s.heap rfl
  have e2:((s.heap.push PySem.W.emptyDict).push (PySem.W.instObj C s.heap.objs.size)).get? (s.heap.objs.size + 1)=some (PySem.W.instObj C s.heap.objs.size):=by
    have:=Heap.get?_push_size (s.heap.push PySem.W.emptyDict) (o:=PySem.W.instObj C s.heap.objs.size) rfl
    rwa [Heap.size_push] at this
  have e3:(s.heap.push PySem.W.emptyDict).Ns s.heap.objs.size (fun _=>none):=⟨PySem.W.emptyDict,#[],_,e1,rfl,(fun e he=>absurd he (by simp)),fun _=>rfl⟩
  have I1:=I.laid (a:=s.heap.objs.size) (o := .own (s.heap.objs.size + 1)) (h':=s.heap.push PySem.W.emptyDict) (t':=s.toks) (fun b u q=>Heap.get?_push_of_some _ q) (Nat.le_refl _) ⟨_,e1⟩
  refine I1.laid (a:=s.heap.objs.size + 1) (o := .ins C s.heap.objs.size []) (t':=s.toks) (fun b u q=>Heap.get?_push_of_some _ q) (Nat.le_of_eq (Heap.size_push _ _)) ?_
  have ne:s.heap.objs.size≠s.heap.objs.size + 1:=Nat.ne_of_lt (Nat.lt_succ_self _)
  refine ⟨by rw [Qs ne,Qv],Nat.zero_le _,ne,e2,fun _=>none,(Heap.Ns1.of_empty e3).at fun o q=>Heap.get?_push_of_some _ q,fun _=>True.intro,fun y hy=>absurd rfl hy⟩

theorem attr_of {prog:Program} {w:World} {env:Env} {e:Expr} {f:Str} {pos:Pos} {s:Shared} {Q:Value→Shared→Prop} (hb:attributeBase e f env (eval e env)=eval e env)
    (h:wpAny (model prog w) A (eval e env) (fun o s₁=>wpAny (model prog w) A (getAttr o f true) Q E s₁) E s):wpAny (model prog w) A (eval (.Attribute e f pos) env) Q E s :=
  Attribute_any_ h (by rw [arm_eval_Attribute,hb])
end

noncomputable def tFld (K:PySem.W.Frag) (ta:TE) (f:Str):TE:=fun σ H Q=>ta σ H fun x H1=>∃ a C dx fs v,x = .ref a∧H1 a=some (.ins C dx fs)∧Cls K C∧QbX K C f∧fs.lookup f=some v∧Q v H1
noncomputable def sFld (K:PySem.W.Frag) (ta tv:TE) (f:Str):TS:=fun D σ H=>tv σ H fun y H1=>ta σ H1 fun x H2=>∃ a C dx fs,x = .ref a∧H2 a=some (.ins C dx fs)∧Cls K C∧QbX K C f∧fs.length < 1000 ∧
  D.nx σ (upd H2 a (.ins C dx (putF f y fs)))
section
variable {X:Cx} {o e value:Expr} {f:Str} {pos pos' tpos:Pos} {ta tv:TE}
theorem pe_fld (he:PE X e ta) (hb:attributeBase e f X.env (eval e X.env)=eval e X.env):PE X (.Attribute e f pos) (tFld X.K ta f):=by
  intro pins s σ H Q I h
  refine attr_of hb (thn (he pins s σ H _ I h) fun u s1 ⟨x,H1,I1,rx,a,C,dx,fs,v,ex,ea,c,n,l,q⟩ => ?_)
  subst ex
  obtain rfl:u=Value.ref a:=rx
  exact QiZ I1 ea c n l fun u' s2 I2 ru=>⟨v,H1,I2,ru,q⟩
theorem ps_fld (ha:PE X o ta) (hv:PE X value tv) (hs:swapsWith value (some (.Attribute o f pos')) pos.line X.env=pure false):PS X (.Assign [.Attribute o f pos'] value pos) (sFld X.K ta tv f):=by
  intro pins s σ H D I h
  refine plainObj_wpAny_Assign_Attribute (thn (hv pins s σ H _ I h) fun u s1 ⟨y,H1,I1,ry,q⟩=>thn (ha pins s1 σ H1 _ I1 q) fun ov s2 ⟨x,H2,I2,rx,a,C,dx,fs,ex,ea,c,n,l,q2⟩ => ?_) hs
  subst ex
  obtain rfl:ov=Value.ref a:=rx
  exact QiF I2 ea c n l ry fun s3 I3=>⟨σ,_,I3,q2⟩
end

section
variable {X:Cx} {pins:List (Addr×Obj)} {σ:St} {H:Hp} {s:Shared} {A:Around} {E:Value→Shared→Prop} {Q:Value→Shared→Prop} {c:Value} {b:Bool}
inductive TyOf (K:PySem.W.Frag) (H:Hp):V→Value→Prop where
  | non:TyOf K H .non (.type "NoneType")
  | bl (x:Bool):TyOf K H (.bl x) (.type "bool")
  | int (i:Int):TyOf K H (.int i) (.type "int")
  | str (x:Str):TyOf K H (.str x) (.type "str")
  | flt (x:UInt64):TyOf K H (.flt x) (.type "float")
  | lst {a:Addr} {xs:List V} (e:H a=some (.lst xs)):TyOf K H (.ref a) (.type "list")
  | frz {a:Addr} {o:Obj} {xs:List V} (e:H a=some (.frz o (.lst xs))):TyOf K H (.ref a) (.type "list")
  | tup {a:Addr} {xs:List V} (e:H a=some (.tup xs)):TyOf K H (.ref a) (.type "tuple")
  | dK {a:Addr} {kvs:List (Key×V)} (e:H a=some (.dK kvs)):TyOf K H (.ref a) (.type "dict")
  | dT {a:Addr} {kvs:List (List Key×V)} (e:H a=some (.dT kvs)):TyOf K H (.ref a) (.type "dict")
  | ins {a C dx:Addr} {fs:List (Str×V)} (e:H a=some (.ins C dx fs)) (cl:Cls K C) (ha:PySem.W.findIn K (.ref C) "__class__"=some (some (.builtin "object.__class__")))
      (hn:PySem.W.specialIn K (.builtin "object.__class__") "__get__"=some (some (.builtin "getset_descriptor.__get__"))) (htk:PySem.W.takesIn K (.builtin "object.__class__")=some true)
      (hm:PySem.W.mroIn K C (.type "object")=some true):TyOf K H (.ref a) (.ref C)
theorem QkM {x:V} {u t:Value} (I:Inv X pins σ H s) (rx:RelV x u) (ty:TyOf X.K H x t) (e:PySem.W.kitOne X.K t c=some b) (h:∀ tk,Q (.bool b) { s with toks:=tk }) :
    wpAny (model X.prog X.w) A (call (.builtin "isinstance") [u,c]) Q E s:=by
  cases ty with
  | non=>cases (show u=Value.none from rx);exact PySem.W.kia_one PySem.W.kitx_none I.kIn True.intro e (fun z=>nomatch z) h
  | bl y=>cases (show u=Value.bool y from rx);exact PySem.W.kia_one PySem.W.kitx_bool I.kIn True.intro e (fun z=>nomatch z) h
  | int i=>obtain ⟨t,q⟩:=(show ∃ t,u=Value.int i t from rx);cases q;exact PySem.W.kia_one PySem.W.kitx_int I.kIn True.intro e (fun z=>nomatch z) h
  | str y=>obtain ⟨t,q⟩:=(show ∃ t,u=Value.str y t from rx);cases q;exact PySem.W.kia_one PySem.W.kitx_str I.kIn True.intro e (fun z=>nomatch z) h
  | flt y=>obtain ⟨t,q⟩:=(show ∃ t,u=Value.float y t from rx);cases q;exact PySem.W.kia_one PySem.W.kitx_float I.kIn True.intro e (fun z=>nomatch z) h
  | @lst a xs ea =>
    cases (show u=Value.ref a from rx)
    obtain ⟨_,_,n,_,h1⟩:=(show YU X.prog X.w H s.heap a (.lst xs) from I.hok a _ ea)
    exact PySem.W.kia_one PySem.W.kitx_list I.kIn ⟨_,h1,rfl⟩ e (fun z=>nomatch z) h
  | @frz a ob xs ea =>
    cases (show u=Value.ref a from rx)
    obtain ⟨_,_,_,n,_,h1⟩:=(show YU X.prog X.w H s.heap a (.frz ob (.lst xs)) from I.hok a _ ea)
    exact PySem.W.kia_one PySem.W.kitx_list I.kIn ⟨_,h1,rfl⟩ e (fun z=>nomatch z) h
  | @tup a xs ea =>
    cases (show u=Value.ref a from rx)
    obtain ⟨_,_,_,p⟩:=(show YU X.prog X.w H s.heap a (.tup xs) from I.hok a _ ea)
    obtain ⟨o,h1,h2,_⟩:=p
    exact PySem.W.kia_one PySem.W.kitx_tuple I.kIn ⟨o,h1,h2⟩ e (fun z=>nomatch z) h
  | @dK a kvs ea =>
    cases (show u=Value.ref a from rx)
    obtain ⟨_,_,vs,_,p⟩:=(show YU X.prog X.w H s.heap a (.dK kvs) from I.hok a _ ea)
    obtain ⟨o,es,ep,h1,h2,_⟩:=p
    exact PySem.W.kia_one PySem.W.kitx_dict I.kIn ⟨o,h1,h2.1⟩ e (fun z=>nomatch z) h
  | @dT a kvs ea =>
    cases (show u=Value.ref a from rx)
    obtain ⟨_,_,xs,_,o,es,ep,h1,h2,_⟩:=(show YU X.prog X.w H s.heap a (.dT kvs) from I.hok a _ ea)
    exact PySem.W.kia_one PySem.W.kitx_dict I.kIn ⟨o,h1,h2.1⟩ e (fun z=>nomatch z) h
  | @ins a C dx fs ea cl ha hn htk hm =>
    cases (show u=Value.ref a from rx)
    obtain ⟨mA,O,_⟩:=Qev I.hok ea
    obtain ⟨od,J,_⟩:=O.look
    exact PySem.W.kia_one (PySem.W.kitx_own (cl.get _) cl.hd ha hn htk hm) I.kIn J e (fun z=>nomatch z) h
end
end L2

namespace L2
open PySem PySem.Spec PyProof.Rows

structure Room (k:Nat) (A:Around):Prop where
  hd:A.handled=none
  dp:A.depth + 3 * k + 5 < recursionLimit
  un:A.units + 16 * k + 200 < cLine
theorem Room.mono {j k:Nat} {A:Around} (r:Room k A) (h:j≤k):Room j A:=⟨r.hd,by have:=r.dp;omega,by have:=r.un;omega⟩
theorem Room.deeper {k:Nat} {A:Around} (r:Room (k + 1) A) (env:Env):Room k (A.deeper env) :=
  ⟨r.hd,by have:=r.dp;show A.depth + 1 + 3 * k + 5 < _;omega,by have:=r.un;show A.units + 3 + 16 * k + 200 < _;omega⟩
theorem Room.in1 {k:Nat} {A:Around} (r:Room (k + 1) A):Room k A.in1 :=
  ⟨r.hd,by have:=r.dp;show A.depth + 3 * k + 5 < _;omega,by have:=r.un;show A.units + 1 + 16 * k + 200 < _;omega⟩
theorem QiR {A:Around} {C:Addr} {us:List Value} {kw:List (Str×Value)}:(A.under (.builtin "type.__call__" ⟨.ref C :: us,kw⟩)).depth=A.depth + 1:=by
  first | rfl | simp [Around.under,Code.weight,Code.isCreation,Code.isGuard,Code.isCaller,Code.frames,Code.isFrame,guardIds]
theorem QiQ {A:Around} {C:Addr} {us:List Value} {kw:List (Str×Value)}:(A.under (.builtin "type.__call__" ⟨.ref C :: us,kw⟩)).units=A.units + 1:=by
  first | rfl | simp [Around.under,Code.cUnits,Code.frames,Code.isFrame]
theorem Room.make {k:Nat} {A:Around} (r:Room (k + 1) A) (C:Addr) (us:List Value) (kw:List (Str×Value)):Room k (A.under (.builtin "type.__call__" ⟨.ref C :: us,kw⟩)) :=
  ⟨r.hd,by have:=r.dp;rw [QiR];omega,by have:=r.un;rw [QiQ];omega⟩
theorem Room.depth {k:Nat} {A:Around} (r:Room k A):A.depth < recursionLimit:=by have:=r.dp;omega
theorem Room.units {k:Nat} {A:Around} (r:Room k A):A.units + 64 < cLine:=by have:=r.un;omega
noncomputable def tNil:TA:=fun _ H Q=>Q [] H
noncomputable def tCons (ta:TE) (tr:TA):TA:=fun σ H Q=>ta σ H fun x H1=>tr σ H1 fun xs H2=>Q (x :: xs) H2
section
variable {X:Cx} {e:Expr} {es:List Expr} {te:TE} {t:TA} {pos:Pos}
theorem QgK:PA X [] tNil:=fun _ _ _ _ H Q I h=>Calls.spliced_nil ⟨[],H,I,.nil,h⟩
theorem QbM (ha:PE X e te) (hr:PA X es t) (hs:starEach (e :: es) X.env=(false,eval e X.env) :: starEach es X.env:=by rfl):PA X (e :: es) (tCons te t):=by
  intro pos pins s σ H Q I h
  rw [hs]
  show wpAny _ _ (spliced ((false,eval e X.env) :: backTo pos (starEach es X.env))) _ _ s
  refine Calls.spliced_cons (thn (ha pins s σ H _ I h) fun u s1 ⟨x,H1,I1,r1,q1⟩ => ?_)
  exact thn (hr pos pins s1 σ H1 _ I1 q1) fun us s2 ⟨xs,H2,I2,r2,q2⟩=>⟨x :: xs,H2,I2,.cons r1 r2,q2⟩

noncomputable def tTup (t:TA):TE:=fun σ H Q=>t σ H fun xs H1=>xs.length≤sizeLine∧∀ p,H1 p=none→Q (.ref p) (upd H1 p (.tup xs))
noncomputable def tLst (t:TA):TE:=fun σ H Q=>t σ H fun xs H1=>xs.length≤sizeLine∧∀ p,H1 p=none→Q (.ref p) (upd H1 p (.lst xs))
theorem pe_tup {x1} (h:PA X es t):PE X (.Tuple es x1 pos) (tTup t):=by
  intro pins s σ H Q I hq
  refine wpAny_Tuple_spliced (thn (h pos pins s σ H _ I hq) fun us s1 ⟨xs,H1,I1,r,z,q⟩=>⟨by rw [← r.length];exact z,?_⟩)
  have hf:H1 s1.heap.objs.size=none:=I1.hok.fresh (Nat.le_refl _)
  refine ⟨.ref s1.heap.objs.size,upd H1 s1.heap.objs.size (.tup xs),I1.laid (t':=s1.toks) (fun b u e=>Heap.get?_push_of_some _ e) (Nat.le_refl _) ?_,rfl,q _ hf⟩
  exact ⟨z,us,r,⟨_,Heap.get?_push_size _ rfl,rfl,_,rfl⟩⟩
theorem pe_lst (h:PA X es t):PE X (.List es pos) (tLst t):=by
  intro pins s σ H Q I hq
  refine wpAny_List_spliced (thn (h pos pins s σ H _ I hq) fun us s1 ⟨xs,H1,I1,r,z,q⟩=>⟨by rw [← r.length];exact z,?_⟩)
  have hf:H1 s1.heap.objs.size=none:=I1.hok.fresh (Nat.le_refl _)
  refine ⟨.ref s1.heap.objs.size,upd H1 s1.heap.objs.size (.lst xs),I1.laid (t':=s1.toks) (fun b u e=>Heap.get?_push_of_some _ e) (Nat.le_refl _) ?_,rfl,q _ hf⟩
  exact ⟨z,us,0,r,Heap.get?_push_size _ rfl⟩
end

noncomputable abbrev Sp:=List V→Hp→VK→XK→Prop
noncomputable abbrev CXT:=List Env→Hp→Shared→XK→Value→Shared→Prop

structure Env0 (P:Program) (w:World) (K:PySem.W.Frag) (mg:Str→Option Value) (base:Heap) (A:Around) (outer:List Env) (s:Shared) (H:Hp):Prop where
  frames:A.frames=some outer
  mod:Mod K mg base
  bs:∀ b o,base.get? b=some o→s.heap.get? b=some o∧H b=none
  bsz:base.objs.size≤s.heap.objs.size
  funs:s.heap.FunFrames base outer
  frf:∀ b∈frs outer,H b=none
  hok:HOk P w H s.heap
  bare:AllBare s.gens
noncomputable def CE (outer:List Env) (P:Program) (w:World) (H:Hp) (s:Shared) (Q:VK) (u:Value) (s':Shared):Prop :=
  ∃ v H',s'.os=s.os∧AllBare s'.gens∧Un (frs outer) [] H H' s.heap s'.heap∧HOk P w H' s'.heap∧RelV v u∧Q v H'
noncomputable def CR (CX:CXT) (outer:List Env) (P:Program) (w:World) (H:Hp) (s:Shared) (Q:VK) (E:XK) (r:Result) (s':Shared):Prop :=
  match r with
  | .ok (.ret u)=>CE outer P w H s Q u s'
  | .ok _=>False
  | .error e=>CX outer H s E e s'
structure FnOk (P:Program) (w:World) (K:PySem.W.Frag) (mg:Str→Option Value) (base:Heap) (CX:CXT) (k:Nat) (f:Addr) (fd:FuncData) (ps:List Str) (sp:Sp):Prop where
  len:∀ vs H Q E,sp vs H Q E→vs.length=ps.length
  run:∀ (A:Around) (outer:List Env) (s:Shared) (H:Hp) (args:Args) (us:List Value) (vs:List V) (Q:VK) (E:XK),Room k A→Env0 P w K mg base A outer s H→BindsTo s fd args (ps.zip us)→Vals vs us→sp vs H Q E →
    codeAny (model P w) A (.call (.ref f) args) (CR CX outer P w H s Q E) s
theorem FnOk.mono {P:Program} {w:World} {K:PySem.W.Frag} {mg:Str→Option Value} {base:Heap} {CX:CXT} {j k:Nat} {f:Addr} {fd:FuncData} {ps:List Str} {sp:Sp} (F:FnOk P w K mg base CX j f fd ps sp) (h:j≤k) :
    FnOk P w K mg base CX k f fd ps sp:=⟨F.len,fun A outer s H args us vs Q E hr=>F.run A outer s H args us vs Q E (hr.mono h)⟩
theorem FnOk.imp {P:Program} {w:World} {K:PySem.W.Frag} {mg:Str→Option Value} {base:Heap} {CX:CXT} {k:Nat} {f:Addr} {fd:FuncData} {ps:List Str} {sp sp':Sp} (F:FnOk P w K mg base CX k f fd ps sp)
    (h:∀ vs H Q E,sp' vs H Q E→sp vs H Q E):FnOk P w K mg base CX k f fd ps sp' :=
  ⟨fun vs H Q E q=>F.len vs H Q E (h _ _ _ _ q),fun A outer s H args us vs Q E hr he hb hv hs=>F.run A outer s H args us vs Q E hr he hb hv (h _ _ _ _ hs)⟩

theorem Env0.make {P:Program} {w:World} {K:PySem.W.Frag} {mg:Str→Option Value} {base:Heap} {A:Around} {outer:List Env} {s:Shared} {H:Hp} (e:Env0 P w K mg base A outer s H) (C:Addr) (us:List Value) (kw:List (Str×Value)) :
    Env0 P w K mg base (A.under (.builtin "type.__call__" ⟨.ref C :: us,kw⟩)) outer s H:=⟨by first | exact e.frames | (simpa [Around.under,Code.envs,Code.isFrame,pushEnvs] using e.frames),e.mod,e.bs,e.bsz,e.funs,e.frf,e.hok,e.bare⟩
theorem Env0.in1 {P:Program} {w:World} {K:PySem.W.Frag} {mg:Str→Option Value} {base:Heap} {A:Around} {outer:List Env} {s:Shared} {H:Hp} (e:Env0 P w K mg base A outer s H) :
    Env0 P w K mg base A.in1 outer s H:=⟨e.frames,e.mod,e.bs,e.bsz,e.funs,e.frf,e.hok,e.bare⟩

section
variable {X:Cx} {pins:List (Addr×Obj)} {σ:St} {H:Hp} {s s':Shared}
theorem Inv.env0 (I:Inv X pins σ H s):Env0 X.prog X.w X.K X.mg X.base X.A X.stack s H :=
  ⟨I.ok.frames,I.ok.mod,I.bs,Nat.le_trans I.ok.bsz I.sz,I.stack,I.stkFree,I.hok,I.bare⟩
theorem Inv.after {Q:VK} {u:Value} (I:Inv X pins σ H s) (h:CE X.stack X.prog X.w H s Q u s'):EP X pins σ Q u s':=by
  obtain ⟨v,H',os,bare,un,hok,r,q⟩:=h
  obtain ⟨hh,g,d,t,os'⟩:=s'
  obtain rfl:os'=s.os:=os
  exact ⟨v,H',I.call (h':=hh) (g':=g) (d':=d) (t':=t) (ch:=[]) un hok bare (fun b z=>absurd z (by simp)),r,q⟩
end

noncomputable def QgV (sp:Sp) (dvs:List V) (E:XK) (t:TA):TE:=fun σ H Q=>t σ H fun vs H1=>sp (vs++dvs) H1 Q E
noncomputable def tMake (C:Addr) (sp:Sp) (dvs:List V) (E:XK) (t:TA):TE:=fun σ H Q=>t σ H fun vs H1=>∀ x dx,H1 x=none→H1 dx=none→dx≠x →
  sp (.ref x :: (vs++dvs)) (upd (upd H1 dx (.own x)) x (.ins C dx [])) (fun v H2=>v = .non∧Q (.ref x) H2) E

noncomputable def YV (K:PySem.W.Frag) (fd:FuncData) (ps:List Str) (ds:List Value):Prop :=
  ∀ (s:Shared) (us:List Value),K.In s.heap→(us++ds).length=ps.length→BindsTo s fd ⟨us,[]⟩ (ps.zip (us++ds))
theorem YV.all {K:PySem.W.Frag} {fd:FuncData} {ps:List Str} (h:∀ us:List Value,us.length=ps.length→bindArgs fd ⟨us,[]⟩=pure (ps.zip us)):YV K fd ps []:=fun s us _ hl=>by
  rw [List.append_nil] at hl ⊢
  exact .of_eq (h us hl)

noncomputable def Qfr (CX:CXT) (X:Cx) (E:XK):Prop:=∀ (pins:List (Addr×Obj)) (σ:St) (H:Hp) (s:Shared) (e:Value) (s':Shared),Inv X pins σ H s→CX X.stack H s E e s'→X.xe e s'

section
variable {X:Cx} {CX:CXT} {k:Nat} {f C:Addr} {fd:FuncData} {ps:List Str} {sp:Sp} {dvs:List V} {ds:List Value} {E:XK} {x m:Str} {p pos apos:Pos} {e o:Expr} {es:List Expr} {ta:TE} {t:TA}

theorem Qju {pins:List (Addr×Obj)} {σ:St} {H:Hp} {s:Shared} {Q:VK} {us:List Value} {vs:List V} (F:FnOk X.prog X.w X.K X.mg X.base CX k f fd ps sp) (hr:Room k X.A) (hb:YV X.K fd ps ds) (hd:Vals dvs ds) (hx:Qfr CX X E)
    (I:Inv X pins σ H s) (r:Vals vs us) (h:sp (vs++dvs) H Q E):wpAny (model X.prog X.w) X.A (call (.ref f) us) (EP X pins σ Q) X.xe s:=by
  have r2:Vals (vs++dvs) (us++ds):=r.append hd
  have hl:(us++ds).length=ps.length:=by rw [← r2.length];exact F.len _ _ _ _ h
  refine wpAny_call (codeAny_mono (F.run X.A X.stack s H ⟨us,[]⟩ (us++ds) (vs++dvs) Q E hr I.env0 (hb s us I.kIn hl) r2 h) fun r s' hq => ?_)
  cases r with
  | error e=>exact hx pins σ H s e s' I hq
  | ok fl =>
    cases fl with
    | ret u=>exact I.after hq
    | next=>exact False.elim hq
    | brk=>exact False.elim hq
    | cont=>exact False.elim hq

theorem Qgv (F:FnOk X.prog X.w X.K X.mg X.base CX k f fd ps sp) (hr:Room k X.A) (hg:Gl X x) (hm:X.mg x=some (.ref f)) (hk:PySem.W.keepIn X.K (.ref f)=true) (hb:YV X.K fd ps ds) (hd:Vals dvs ds) (hx:Qfr CX X E)
    (ha:PA X (e :: es) t) (hdb:(x==("__debug__":Str))=false:=by decide) (he:starEach (e :: es) X.env=(false,eval e X.env) :: starEach es X.env:=by rfl) (hpl:(backTo pos (starEach es X.env)).any (·.1)=false:=by rfl) :
    PE X (.Call (.Name x p) (e :: es) [] pos) (QgV sp dvs E t):=by
  intro pins s σ H Q I h
  refine wpAny_Call_Name_kw (Qgy I hg hm ?_ hdb)
  refine PySem.W.callWith_K (h₀:=X.base) I.ok.mod.kin hk (thn (ha pos pins s σ H _ I h) fun us s1 ⟨vs,H1,I1,r,q⟩=>⟨I1.kIn,?_⟩) he hpl
  exact Qju F hr hb hd hx I1 r q
structure Mk (K:PySem.W.Frag) (C f:Addr):Prop where
  makes:PySem.W.makesIn K C=true
  init:PySem.W.findIn K (.ref C) "__init__"=some (some (.ref f))
  fn:PySem.W.isFn K (.ref f)=true
  kp:PySem.W.keepIn K (.ref C)=true

theorem run_make {pins:List (Addr×Obj)} {σ:St} {H:Hp} {s:Shared} {Q:VK} {us:List Value} {vs:List V} (M:Mk X.K C f) (F:FnOk X.prog X.w X.K X.mg X.base CX k f fd ps sp) (hr:Room (k + 1) X.A) (hb:YV X.K fd ps ds) (hd:Vals dvs ds)
    (hx:Qfr CX X E) (I:Inv X pins σ H s) (r:Vals vs us)
    (h:∀ x dx,H x=none→H dx=none→dx≠x→sp (.ref x :: (vs++dvs)) (upd (upd H dx (.own x)) x (.ins C dx [])) (fun v H2=>v = .non∧Q (.ref x) H2) E) :
    wpAny (model X.prog X.w) X.A (call (.ref C) us) (EP X pins σ Q) X.xe s:=by
  have hq:=h (s.heap.objs.size + 1) s.heap.objs.size (I.hok.fresh (Nat.le_succ _)) (I.hok.fresh (Nat.le_refl _)) (Nat.ne_of_lt (Nat.lt_succ_self _))
  have I2:=Inv.made (C:=C) I
  have r2:Vals (V.ref (s.heap.objs.size + 1) :: (vs++dvs)) (Value.ref (s.heap.objs.size + 1) :: (us++ds)) := .cons rfl (r.append hd)
  have hl:(Value.ref (s.heap.objs.size + 1) :: us++ds).length=ps.length:=by
    have e:=r2.length
    rw [F.len _ _ _ _ hq] at e
    exact e.symm
  refine wpAny_call (make_map (f:=f) I.kIn M.makes M.init (beq_iff_eq.mp M.fn) (codeAny_mono (F.run _ X.stack _ _ ⟨Value.ref (s.heap.objs.size + 1) :: us,[]⟩ (Value.ref (s.heap.objs.size + 1) :: (us++ds)) _ _ E (hr.make C us [])
    (I2.env0.make C us []) (hb _ (Value.ref (s.heap.objs.size + 1) :: us) I2.kIn hl) r2 hq) fun r s' hq' => ?_))
  cases r with
  | error e=>exact hx pins σ _ _ e s' I2 hq'
  | ok fl =>
    cases fl with
    | ret u =>
      obtain ⟨v,H',I3,rv,ev,q3⟩:=I2.after hq'
      subst ev
      exact ⟨rv,⟨V.ref (s.heap.objs.size + 1),H',I3,rfl,q3⟩⟩
    | next=>exact False.elim hq'
    | brk=>exact False.elim hq'
    | cont=>exact False.elim hq'
theorem pe_make (M:Mk X.K C f) (F:FnOk X.prog X.w X.K X.mg X.base CX k f fd ps sp) (hr:Room (k + 1) X.A) (hg:Gl X x) (hm:X.mg x=some (.ref C)) (hb:YV X.K fd ps ds) (hd:Vals dvs ds) (hx:Qfr CX X E)
    (ha:PA X (e :: es) t) (hdb:(x==("__debug__":Str))=false:=by decide) (he:starEach (e :: es) X.env=(false,eval e X.env) :: starEach es X.env:=by rfl) (hpl:(backTo pos (starEach es X.env)).any (·.1)=false:=by rfl) :
    PE X (.Call (.Name x p) (e :: es) [] pos) (tMake C sp dvs E t):=by
  intro pins s σ H Q I h
  refine wpAny_Call_Name_kw (Qgy I hg hm ?_ hdb)
  refine PySem.W.callWith_K (h₀:=X.base) I.ok.mod.kin M.kp (thn (ha pos pins s σ H _ I h) fun us s1 ⟨vs,H1,I1,r,q⟩=>⟨I1.kIn,?_⟩) he hpl
  exact run_make M F hr hb hd hx I1 r q
end

section
variable {X:Cx} {CX:CXT} {k:Nat} {f C:Addr} {fd:FuncData} {ps ks:List Str} {sp:Sp} {E:XK} {x m:Str} {p pos apos kpos:Pos} {e o:Expr} {es:List Expr} {kws:List Keyword} {te ta:TE} {t tk:TA} {nm:Option Str}
variable {g:List Value→List Value→List Value} {gV:List V→List V→List V}
end

structure FnScope (N P:List Str) (sc:Scope):Prop where
  kind:sc.kind = .function
  co:sc.isCoroutine=false
  gen:sc.isGenerator=false
  nd:N.Nodup
  pre:N.take P.length=P
  par:∀ x∈P,sc.names.lookup x=some .local∨sc.names.lookup x=some .cell
  nofree:∀ y∈sc.names,y.2 ≠ .free

theorem QfX {kindOf:Str→Option NameKind} {x:Str}:∀ {binds:List (Str×Value)} {m:Str→Option Value},(∀ v,(x,v)∉binds)→bindL kindOf binds m x=m x
  | [],_,_=>rfl
  | (n,v) :: r,m,h=>by
    unfold bindL
    rw [QfX fun w hw=>h w (List.mem_cons_of_mem _ hw)]
    split
    · have:x≠n:=by rintro rfl;exact h v List.mem_cons_self
      simp [this]
    · rfl
theorem QfZ {kindOf:Str→Option NameKind} {x:Str}:∀ {binds:List (Str×Value)} {m:Str→Option Value},(∀ v,(x,v)∉binds)→bindC kindOf binds m x=m x
  | [],_,_=>rfl
  | (n,v) :: r,m,h=>by
    unfold bindC
    rw [QfZ fun w hw=>h w (List.mem_cons_of_mem _ hw)]
    split
    · rfl
    · have:x≠n:=by rintro rfl;exact h v List.mem_cons_self
      simp [this]
theorem QfY {kindOf:Str→Option NameKind} {x:Str} {v:Value}:∀ {P:List Str} {vs:List Value} {i:Nat} {m:Str→Option Value},P.Nodup→P[i]?=some x→vs[i]?=some v→kindOf x=some .local →
    bindL kindOf (P.zip vs) m x=some v
  | [],_,_,_,_,h,_,_=>by simp at h
  | _ :: _,[],_,_,_,_,h,_=>by simp at h
  | p :: P,w :: vs,0,m,nd,h1,h2,hk=>by
    simp at h1 h2;subst h1;subst h2
    show bindL kindOf ((p,w) :: P.zip vs) m p=_
    unfold bindL
    rw [QfX fun v hv=>(List.nodup_cons.mp nd).1 (List.of_mem_zip hv).1,if_pos hk]
    simp
  | p :: P,w :: vs,i + 1,m,nd,h1,h2,hk=>by
    show bindL kindOf ((p,w) :: P.zip vs) m x=_
    unfold bindL
    exact QfY (i:=i) (List.nodup_cons.mp nd).2 (by simpa using h1) (by simpa using h2) hk
theorem Qga {kindOf:Str→Option NameKind} {x:Str} {v:Value}:∀ {P:List Str} {vs:List Value} {i:Nat} {m:Str→Option Value},P.Nodup→P[i]?=some x→vs[i]?=some v→kindOf x≠some .local →
    bindC kindOf (P.zip vs) m x=some v
  | [],_,_,_,_,h,_,_=>by simp at h
  | _ :: _,[],_,_,_,_,h,_=>by simp at h
  | p :: P,w :: vs,0,m,nd,h1,h2,hk=>by
    simp at h1 h2;subst h1;subst h2
    show bindC kindOf ((p,w) :: P.zip vs) m p=_
    unfold bindC
    rw [QfZ fun v hv=>(List.nodup_cons.mp nd).1 (List.of_mem_zip hv).1,if_neg hk]
    simp
  | p :: P,w :: vs,i + 1,m,nd,h1,h2,hk=>by
    show bindC kindOf ((p,w) :: P.zip vs) m x=_
    unfold bindC
    exact Qga (i:=i) (List.nodup_cons.mp nd).2 (by simpa using h1) (by simpa using h2) hk

noncomputable def Qab (N:List Str) (vs:List V):St:=vs.map some++List.replicate (N.length - vs.length) none

noncomputable def cxOf (CX:CXT) (P:Program) (w:World) (K:PySem.W.Frag) (mg:Str→Option Value) (base:Heap) (N:List Str) (qual:Str) (scope:Scope) (f:Addr) (cd:Value) (A:Around) (outer:List Env) (s:Shared) (H:Hp) (E:XK):Cx where
  prog:=P
  w:=w
  K:=K
  mg:=mg
  base:=base
  A:=A.deeper (envOfC qual scope s.heap.objs.size f cd)
  N:=N
  s₀:=s
  H₀:=H
  env:=envOfC qual scope s.heap.objs.size f cd
  outer:=outer
  stack:=envOfC qual scope s.heap.objs.size f cd :: outer
  ex:=[]
  calm:=true
  fn:=fun _=>true
  pn:=[]
  xe:=fun e s'=>wpAny (model P w) (A.deeper (envOfC qual scope s.heap.objs.size f cd)) (leaving (envOfC qual scope s.heap.objs.size f cd) e) (fun _ s''=>CX outer H s E e s'') (fun e' s''=>CX outer H s E e' s'') s'

theorem Qik {sc:Scope} {n:Nat} {x:Str} (h:sc.names.lookup x=some .cell):∃ c,(cellsFrom n sc.names []).lookup x=some c:=by
  have q:=PySem.W.cellsFrom_some sc.names n [] (.inl h)
  exact Option.isSome_iff_exists.mp q

theorem QkN {CX:CXT} {P:Program} {w:World} {K:PySem.W.Frag} {mg:Str→Option Value} {base:Heap} {N ps:List Str} {qual:Str} {scope:Scope} {f:Addr} {cd:Value} {A:Around} {outer:List Env} {s s1:Shared} {H:Hp} {E:XK} {us:List Value} {vs:List V}
    (S:FnScope N ps scope) (hd:A.handled=none) (e0:Env0 P w K mg base A outer s H) (hl:vs.length=ps.length) (r:Vals vs us)
    (x:InCallC s s.heap.objs.size (bindL (envOfC qual scope s.heap.objs.size f cd).kindOf (ps.zip us) fun _=>none) (cellsFrom (s.heap.objs.size + 1) scope.names []) (bindC (envOfC qual scope s.heap.objs.size f cd).kindOf (ps.zip us) fun _=>none) s1) :
    Inv (cxOf CX P w K mg base N qual scope f cd A outer s H E) [] (Qab N vs) H s1:=by
  have hpl:ps.length≤N.length:=by have:=congrArg List.length S.pre;rw [List.length_take] at this;omega
  obtain ⟨h1,tk,rfl,hk⟩:=x.done
  have noA:∀ b:Addr,b∉(cxOf CX P w K mg base N qual scope f cd A outer s H E).ex:=fun b z=>absurd (show b∈([]:List Addr) from z) (by simp)
  refine ⟨⟨e0.mod,S.kind,rfl,rfl,Nat.le_refl _,fun y z c h1 h2 => ?_,fun y hy => ?_,fun y c _ h => ?_,fun _=>hd,Around.frames_deeper e0.frames,.inr ⟨rfl,rfl⟩,fun b z=>absurd z (noA b),e0.bs,e0.bsz,fun b _ _=>noA b,fun b z=>absurd z (noA b),e0.funs,e0.frf⟩,
    rfl,e0.bare,Un.kept hk,⟨_,x.toInCall.ns,fun i y v h1 h2 h3 => ?_⟩,fun y c h=>⟨_,x.cell y c h⟩,e0.hok.fresh (Nat.le_refl _),fun y c h => ?_,fun p hp=>absurd (show p∈([]:List (Addr×Obj)) from hp) (by simp),e0.hok.kept hk,?_⟩
  · exact name_of_addr x.apart (PySem.mem_of_lookup h1) (PySem.mem_of_lookup h2)
  · have hy:scope.names.lookup y=some .cell∨scope.names.lookup y=some .free:=hy
    rcases hy with hy | hy
    · exact Qik hy
    · exact absurd rfl (S.nofree _ (PySem.mem_of_lookup hy))
  · exact Nat.le_of_lt (x.above y c (PySem.mem_of_lookup h))
  · have hi:i < vs.length:=by
      unfold Qab at h2
      by_cases hi:i < vs.length
      · exact hi
      · rw [List.getElem?_append_right (by simpa using hi)] at h2
        rw [List.getElem?_replicate] at h2
        split at h2 <;> cases h2
    have ha:vs[i]?=some v:=by
      unfold Qab at h2
      rw [List.getElem?_append_left (by simpa using hi),List.getElem?_map] at h2
      cases e:vs[i]? with
      | none=>rw [e] at h2;cases h2
      | some a=>rw [e] at h2;cases h2;rfl
    obtain ⟨u,hu,rv⟩:=r.get ha
    have hp:ps[i]?=some y:=by
      rw [← S.pre,List.getElem?_take_of_lt (by omega)];exact h1
    have ndP:ps.Nodup:=by rw [← S.pre];exact S.nd.sublist (List.take_sublist _ _)
    refine ⟨u,rv,?_⟩
    rcases S.par y (List.mem_of_getElem? hp) with k | k
    · exact .inl ⟨k,QfY ndP hp hu k⟩
    · obtain ⟨c,e⟩:=Qik (n:=s.heap.objs.size + 1) k
      refine .inr ⟨.inl k,c,e,?_⟩
      have q:=x.cell y c e
      rw [Qga ndP hp hu (by show scope.names.lookup y≠_;rw [k];decide)] at q
      exact q
  · exact e0.hok.fresh (Nat.le_of_lt (x.above y c (PySem.mem_of_lookup h)))
  · unfold Qab
    show _=N.length
    rw [List.length_append,List.length_map,List.length_replicate]
    omega

theorem fn_of {CX:CXT} {P:Program} {w:World} {K:PySem.W.Frag} {mg:Str→Option Value} {base:Heap} {k:Nat} {f:Addr} {name qual:Str} {params:Arguments} {body:List Stmt} {scope:Scope} {dV kV doc pm cdv ct oc:Value} {an od:Option Addr}
    {osl:Array (Option Value)} {N ps:List Str} {sp:Sp} (lk:K.lookup f=some ⟨oc,od,.func (PySem.W.fnOf name qual params body scope dV kV doc pm an cdv ct),osl⟩) (hcd:PySem.W.codeIn K cdv qual=true) (S:FnScope N ps scope)
    (len:∀ vs H Q E,sp vs H Q E→vs.length=ps.length)
    (hbody:∀ (A:Around) (outer:List Env) (s:Shared) (H:Hp) (vs:List V) (Q:VK) (E:XK),Room k (A.deeper (envOfC qual scope s.heap.objs.size f cdv))→sp vs H Q E →
      ∃ t,PSs (cxOf CX P w K mg base N qual scope f cdv A outer s H E) body t∧t { nx:=fun _ H'=>Q .non H',rt:=Q } (Qab N vs) H) :
    FnOk P w K mg base CX (k + 1) f (PySem.W.fnOf name qual params body scope dV kV doc pm an cdv ct) ps sp:=by
  refine ⟨len,fun A outer s H args us vs Q E hr e0 hb r hsp => ?_⟩
  have hl:=len _ _ _ _ hsp
  have KX:K.In s.heap:=e0.mod.kin.keeps fun b o e=>(e0.bs b o e).1
  have lim:s.heap.NoLimit:=e0.mod.nolimit.keeps fun b o e=>(e0.bs b o e).1
  have hkind:∀ y∈ps.zip us,scope.names.lookup y.1=some .local∨(scope.names.lookup y.1=some .cell∧((cellsFrom (s.heap.objs.size + 1) scope.names []).lookup y.1).isSome=true):=fun ⟨n,v⟩ hy=>by
    rcases S.par n (List.of_mem_zip hy).1 with q | q
    · exact .inl q
    · exact .inr ⟨q,PySem.W.cellsFrom_some _ _ _ (.inl q)⟩
  refine codeAny_call_function hr.depth (KX _ _ lk) rfl S.co S.gen rfl (PySem.W.codeRec_of KX hcd) (hb _ _ _ _ ?_)
  refine wpAny_newFunctionEnv_cells S.kind hkind fun env he s1 x => ?_
  subst he
  refine ⟨lim.keeps x.toInCall.keep,codeAny_func ?_⟩
  obtain ⟨t,ht,hq⟩:=hbody A outer s H vs Q E (hr.deeper _) hsp
  have I:Inv (cxOf CX P w K mg base N qual scope f cdv A outer s H E) [] (Qab N vs) H s1:=QkN S hr.hd e0 hl r x
  refine wpAny_mono (ht [] s1 (Qab N vs) H _ I hq) (fun fl s' hs => ?_) fun e s' hs=>hs
  have fin:∀ {σ':St} {H':Hp} {v:V} {u:Value},Inv (cxOf CX P w K mg base N qual scope f cdv A outer s H E) [] σ' H' s'→RelV v u→Q v H'→CE outer P w H s Q u s' :=
    fun {σ' H' v u} J rv q=>⟨v,H',J.os,J.bare,J.base,J.hok,rv,q⟩
  cases fl with
  | ret u =>
    obtain ⟨v,σ',H',J,rv,q⟩:=hs
    exact fin J rv q
  | next =>
    obtain ⟨σ',H',J,q⟩:=hs
    exact fin (v:=V.non) (u:=Value.none) J rfl q
  | brk =>
    obtain ⟨_,_,_,q⟩:=hs
    exact False.elim q
  | cont =>
    obtain ⟨_,_,_,q⟩:=hs
    exact False.elim q
end L2

namespace L2
open PySem PySem.Spec PyProof.Rows
section
variable {X:Cx} {x:Str} {p pos:Pos} {e:Expr} {es:List Expr} {t:TA} {id T:String} {r:List V→Hp→VK→Prop}

noncomputable def tCB (r:List V→Hp→VK→Prop) (t:TA):TE:=fun σ H Q=>t σ H fun vs H1=>r vs H1 Q
theorem Qbp (hc:Qac X (.builtin id) r) (hg:Gl X x) (hm:X.mg x=none) (hv:bootBuiltins x=some (.builtin id)) (ha:PA X (e :: es) t) (hn:x ≠ "__name__":=by decide) (hdb:(x==("__debug__":Str))=false:=by decide)
    (he:starEach (e :: es) X.env=(false,eval e X.env) :: starEach es X.env:=by rfl) (hpl:(backTo pos (starEach es X.env)).any (·.1)=false:=by rfl):PE X (.Call (.Name x p) (e :: es) [] pos) (tCB r t):=by
  intro pins s σ H Q I h
  refine wpAny_Call_Name_kw (QbW I hg hm hv ?_ hn hdb)
  exact PyProof.Rows.callWith_builtin1 (thn (ha pos pins s σ H _ I h) fun us s1 ⟨vs,H1,I1,r1,q1⟩=>hc pins s1 σ H1 vs us Q I1 r1 q1) he hpl
theorem Qfz (hc:Qac X (.type T) r) (hg:Gl X x) (hm:X.mg x=none) (hv:bootBuiltins x=some (.type T)) (ha:PA X (e :: es) t) (hn:x ≠ "__name__":=by decide) (hdb:(x==("__debug__":Str))=false:=by decide)
    (he:starEach (e :: es) X.env=(false,eval e X.env) :: starEach es X.env:=by rfl) (hpl:(backTo pos (starEach es X.env)).any (·.1)=false:=by rfl):PE X (.Call (.Name x p) (e :: es) [] pos) (tCB r t):=by
  intro pins s σ H Q I h
  refine wpAny_Call_Name_kw (QbW I hg hm hv ?_ hn hdb)
  exact PyProof.Rows.callWith_type1 (thn (ha pos pins s σ H _ I h) fun us s1 ⟨vs,H1,I1,r1,q1⟩=>hc pins s1 σ H1 vs us Q I1 r1 q1) he hpl
end
end L2

namespace HT
open PySem PyProof.Rows

section
open PySem.SeqAt
open PySem.AutoSeq1 (wpAny_loadPart')
open PySem.MeetsSeq PySem.MeetsSeq2 PySem.MeetsSeq3

end

section
variable {prog:Program} {w:World} {A:Around} {E:Value→Shared→Prop} {s:Shared}

noncomputable def sIx (n d:Nat):Option Int→Nat
  | none=>d
  | some v=>if v < 0 then (v + (n:Int)).toNat else min v.toNat n
theorem sIx_none (n d:Nat):sIx n d none=d:=rfl
theorem sIx_nat (n d k:Nat):sIx n d (some (k:Int))=min k n:=by
  show (if (k:Int) < 0 then ((k:Int) + (n:Int)).toNat else min (k:Int).toNat n)=min k n
  rw [if_neg (by omega),Int.toNat_natCast]
end
end HT

namespace L2
open PySem PySem.Spec PyProof.Rows

noncomputable abbrev TO:=St→Hp→(Option Int→Hp→Prop)→Prop
noncomputable def PO (X:Cx) (e:Option Expr) (t:TO):Prop :=
  ∀ (pins:List (Addr×Obj)) (s:Shared) (σ:St) (H:Hp) (Q:Option Int→Hp→Prop),Inv X pins σ H s→t σ H Q →
    wpAny (model X.prog X.w) X.A (evalPart e X.env) (fun u s'=>∃ o H',Inv X pins σ H' s'∧IsPart u o∧Q o H') X.xe s
noncomputable def tNoPart:TO:=fun _ H Q=>Q none H
noncomputable def tPart (t:TE):TO:=fun σ H Q=>t σ H fun x H1=>∃ i,x = .int i∧Q (some i) H1

theorem Qeg {ns:List Int}:∀ {us:List Value},Vals (ns.map V.int) us→IntsAre us ns:=by
  induction ns with
  | nil=>intro us r;rw [List.map_nil] at r;cases r;exact .nil
  | cons n ns ih =>
    intro us r
    rw [List.map_cons] at r
    cases r with
    | cons r1 r2 =>
      obtain ⟨t,e⟩:=r1
      subst e
      exact .cons n t (ih r2)

section
variable {X:Cx} {e:Expr} {te:TE} {lo hi:Option Expr} {tl th:TO} {pos p2:Pos}

theorem po_none:PO X none tNoPart:=by
  intro pins s σ H Q I h
  rw [evalPart_none]
  exact wpAny_pure ⟨none,H,I,.none,h⟩
theorem po_some (h:PE X e te):PO X (some e) (tPart te):=by
  intro pins s σ H Q I hw
  rw [evalPart_some]
  refine thn (h pins s σ H _ I hw) fun u s1 ⟨x,H1,I1,r1,q1⟩ => ?_
  obtain ⟨i,rfl,q⟩:=q1
  obtain ⟨t,rfl⟩:=r1
  exact ⟨some i,H1,I1,.int i t,q⟩

noncomputable def SlR (X:Cx) (r:V→Option Int→Option Int→Hp→VK→Prop):Prop :=
  ∀ (pins:List (Addr×Obj)) (s:Shared) (σ:St) (H:Hp) (x:V) (v vl vu:Value) (lo hi:Option Int) (sl:Addr) (Q:VK),Inv X pins σ H s→RelV x v→s.heap.IsSliceOf sl vl vu .none→IsPart vl lo→IsPart vu hi→r x lo hi H Q →
    ∃ T id,typeLookup (.type T) "__getitem__"=pure (some (.builtin id))∧s.TypeIs v T∧wpAny (model X.prog X.w) X.A (getItem v (.ref sl)) (EP X pins σ Q) X.xe s
theorem SlR.or {r r':V→Option Int→Option Int→Hp→VK→Prop} (h:SlR X r) (h':SlR X r'):SlR X (fun x lo hi H Q=>r x lo hi H Q∨r' x lo hi H Q):=by
  intro pins s σ H x v vl vu lo hi sl Q I rx hs pl pu q
  rcases q with q | q
  · exact h pins s σ H x v vl vu lo hi sl Q I rx hs pl pu q
  · exact h' pins s σ H x v vl vu lo hi sl Q I rx hs pl pu q
noncomputable def tSl (r:V→Option Int→Option Int→Hp→VK→Prop) (te:TE) (tl th:TO):TE:=fun σ H Q=>te σ H fun x H1=>tl σ H1 fun l H2=>th σ H2 fun u H3=>r x l u H3 Q
theorem QhF {r:V→Option Int→Option Int→Hp→VK→Prop} (hr:SlR X r) (he:PE X e te) (hl:PO X lo tl) (hu:PO X hi th):PE X (.Subscript e (.Slice lo hi none p2) pos) (tSl r te tl th):=by
  intro pins s σ H Q I h
  refine Subscript_ (thn (he pins s σ H _ I h) fun v s1 ⟨x,H1,I1,r1,q1⟩ => ?_)
  refine wpAny_Slice (thn (hl pins s1 σ H1 _ I1 q1) fun vl s2 ⟨l,H2,I2,pl,q2⟩=>thn (hu pins s2 σ H2 _ I2 q2) fun vu s3 ⟨u,H3,I3,pu,q3⟩ => ?_)
  rw [evalPart_none]
  refine wpAny_pure ?_
  have I4:Inv X pins σ H3 { s3 with heap:=s3.heap.push { cls := .type "slice",data := .fields #[vl,vu,.none] } }:=I3.kept (t':=s3.toks) fun b ob q=>Heap.get?_push_of_some _ q
  obtain ⟨T,id,hT,ht,hg⟩:=hr pins { s3 with heap:=s3.heap.push { cls := .type "slice",data := .fields #[vl,vu,.none] } } σ H3 x v vl vu l u s3.heap.objs.size Q I4 r1 (Heap.IsSliceOf.new ..) pl pu q3
  show wpAny (model X.prog X.w) X.A (subscriptTail e (.Slice lo hi none p2) v (.ref s3.heap.objs.size)) (EP X pins σ Q) X.xe { s3 with heap:=s3.heap.push { cls := .type "slice",data := .fields #[vl,vu,.none] } }
  exact tail_any (ops:=[.ref s3.heap.objs.size,v]) ht hT hg (by with_unfolding_all rfl)

noncomputable def cutV (xs:List V) (lo hi:Option Int):List V:=(xs.drop (HT.sIx xs.length 0 lo)).take (HT.sIx xs.length xs.length hi - HT.sIx xs.length 0 lo)
theorem Qhp (xs:List V) (lo hi:Option Int):(cutV xs lo hi).length≤xs.length:=by
  unfold cutV
  rw [List.length_take,List.length_drop]
  omega
end
end L2

namespace L2
open PySem PySem.Spec PyProof.Rows

noncomputable def ixN (n:Nat) (i:Int):Option Nat:=if 0≤i then (if i < n then some i.toNat else none) else if -(n:Int)≤i then some (i + n).toNat else none
noncomputable def atI {α:Type} (xs:List α) (i:Int):Option α:=(ixN xs.length i).bind fun j=>xs[j]?
theorem Qkb {n:Nat} {i:Int} {j:Nat} (h:ixN n i=some j):seqIndex? i n=some j∧j < n ∧ -(n:Int)≤i∧i < n:=by
  unfold ixN at h
  by_cases h0:0≤i
  · rw [if_pos h0] at h
    by_cases h1:i < n
    · rw [if_pos h1] at h
      have e:i.toNat=j:=Option.some.inj h
      exact ⟨by rw [seqIndex_of h0 h1,e],by omega,by omega,h1⟩
    · rw [if_neg h1] at h;cases h
  · rw [if_neg h0] at h
    by_cases h1 : -(n:Int)≤i
    · rw [if_pos h1] at h
      have e:(i + n).toNat=j:=Option.some.inj h
      exact ⟨by rw [seqIndex_neg (by omega) h1,e],by omega,h1,by omega⟩
    · rw [if_neg h1] at h;cases h
theorem QgG {α:Type} {xs:List α} {i:Int} {v:α} (h:atI xs i=some v):∃ j,seqIndex? i xs.length=some j∧xs[j]?=some v∧j < xs.length ∧ -(xs.length:Int)≤i∧i < xs.length:=by
  unfold atI at h
  cases e:ixN xs.length i with
  | none=>rw [e] at h;cases h
  | some j =>
    rw [e] at h
    obtain ⟨h1,h2,h3,h4⟩:=Qkb e
    exact ⟨j,h1,h,h2,h3,h4⟩
theorem atI_nat {α:Type} {xs:List α} {j:Nat} {v:α} (h:xs[j]?=some v):atI xs (j:Int)=some v:=by
  have hj:j < xs.length:=(List.getElem?_eq_some_iff.mp h).1
  have e:ixN xs.length (j:Int)=some j:=by
    unfold ixN
    rw [if_pos (by omega),if_pos (by omega)];simp
  unfold atI;rw [e];exact h
theorem atI_last {α:Type} (xs:List α) (v:α):atI (xs++[v]) (-1)=some v:=by
  have hl:(xs++[v]).length=xs.length + 1:=by simp
  have e:ixN (xs++[v]).length (-1)=some xs.length:=by
    unfold ixN
    rw [hl,if_neg (by decide),if_pos (by omega)]
    congr 1
    omega
  unfold atI
  rw [e]
  show (xs++[v])[xs.length]?=some v
  simp

noncomputable def Qkl (b:Expr):Prop:=∀ o i,subscripted b false o i=operate [o,i] (getItem o i)
noncomputable def IxR (X:Cx) (r:R2):Prop :=
  ∀ (value slice:Expr) (pins:List (Addr×Obj)) (s:Shared) (σ:St) (H:Hp) (x y:V) (v u:Value) (Q:VK),Inv X pins σ H s→RelV x v→RelV y u→r x y H Q →
    subscripted slice false v u=operate [v,u] (getItem v u)→wpAny (model X.prog X.w) X.A (subscriptTail value slice v u) (EP X pins σ Q) X.xe s
noncomputable def MtR (X:Cx) (id:String) (r:V→List V→Hp→VK→Prop):Prop :=
  ∀ (pins:List (Addr×Obj)) (s:Shared) (σ:St) (H:Hp) (x:V) (xs:List V) (v:Value) (us:List Value) (Q:VK),Inv X pins σ H s→RelV x v→Vals xs us→r x xs H Q →
    wpAny (model X.prog X.w) X.A (call (.builtin id) (v :: us)) (EP X pins σ Q) X.xe s
section
variable {X:Cx} {a b:Expr} {ta tb:TE} {pos:Pos}
theorem IxR.or {r r':R2} (h:IxR X r) (h':IxR X r'):IxR X (fun x y H Q=>r x y H Q∨r' x y H Q):=by
  intro value slice pins s σ H x y v u Q I rx ry q hs
  rcases q with q | q
  · exact h value slice pins s σ H x y v u Q I rx ry q hs
  · exact h' value slice pins s σ H x y v u Q I rx ry q hs
theorem MtR.or {id:String} {r r':V→List V→Hp→VK→Prop} (h:MtR X id r) (h':MtR X id r'):MtR X id (fun x xs H Q=>r x xs H Q∨r' x xs H Q):=by
  intro pins s σ H x xs v us Q I rx rs q
  rcases q with q | q
  · exact h pins s σ H x xs v us Q I rx rs q
  · exact h' pins s σ H x xs v us Q I rx rs q
theorem pe_ix {r:R2} (hr:IxR X r) (ha:PE X a ta) (hb:PE X b tb) (hs:Qkl b):PE X (.Subscript a b pos) (tOp r ta tb):=by
  intro pins s σ H Q I h
  exact Subscript_ (binT ha hb I h fun v u s2 x y H2 I2 rx ry q=>hr a b pins s2 σ H2 x y v u Q I2 rx ry q (hs _ _))

noncomputable def rIxL (K:PySem.W.Frag):R2:=fun x y H Q=>∃ p xs i v,x = .ref p∧y = .int i∧SqL K H p xs∧atI xs i=some v∧Q v H
noncomputable def rIxT (K:PySem.W.Frag):R2:=fun x y H Q=>∃ p xs i v,x = .ref p∧y = .int i∧SqT K H p xs∧atI xs i=some v∧Q v H
noncomputable def rIxS:R2:=fun x y H Q=>∃ z i c,x = .str z∧y = .int i∧z.length≤sizeLine∧atI z.cps.toList i=some c∧Q (.str ⟨#[c]⟩) H
theorem ix_list:IxR X (rIxL X.K):=by
  intro value slice pins s σ H x y v u Q I rx ry h hs
  obtain ⟨p,xs,i,z,rfl,rfl,hq,he,q⟩:=h
  cases rx
  obtain ⟨t,rfl⟩:=ry
  obtain ⟨its,r,pl,hz⟩:=I.list hq
  obtain ⟨j,h1,h2,h3,h4,h5⟩:=QgG he
  obtain ⟨w,ew,rw'⟩:=r.get h2
  have hl:=r.length
  have hn:=QcC
  have fin:EP X pins σ Q w s:=⟨z,H,I,rw',q⟩
  by_cases h0:0≤i
  · have hj:i.toNat=j:=by
      rw [seqIndex_of h0 h5] at h1
      exact Option.some.inj h1
    exact item_listR pl.isList h0 (by omega) (by rw [hj];simpa using ew) fin hs
  · have hj:(i + (its.toArray.size:Int)).toNat=j:=by
      rw [seqIndex_neg (by omega) h4] at h1
      rw [List.size_toArray,← hl]
      exact Option.some.inj h1
    exact subscriptTail_builtinR (x:=w) pl.isList.typeIs slot_list_getitem.lookup
      (wpAny_getItem_list_neg (Q:=fun r s'=>r=w∧EP X pins σ Q r s') pl.isList (by omega) (by rw [List.size_toArray] <;> omega) (by omega) (by rw [hj];simpa using ew) ⟨rfl,fin⟩) hs
theorem ix_tup:IxR X (rIxT X.K):=by
  intro value slice pins s σ H x y v u Q I rx ry h hs
  obtain ⟨p,xs,i,z,rfl,rfl,hq,he,q⟩:=h
  cases rx
  obtain ⟨t,rfl⟩:=ry
  obtain ⟨its,r,pl,hz⟩:=I.tuple hq
  obtain ⟨j,h1,h2,h3,h4,h5⟩:=QgG he
  obtain ⟨w,ew,rw'⟩:=r.get h2
  have hl:=r.length
  have hn:=QcC
  have fin:EP X pins σ Q w s:=⟨z,H,I,rw',q⟩
  exact subscriptTail_builtinR (x:=w) pl.typeIs slot_tuple_getitem.lookup
    (getItem_tuple (j:=j) (Q:=fun r s'=>r=w∧EP X pins σ Q r s') pl (by omega) (by omega) (by rw [List.size_toArray,← hl];exact h1) (by simpa using ew) ⟨rfl,fin⟩) hs
theorem ix_str:IxR X rIxS:=by
  intro value slice pins s σ H x y v u Q I rx ry h hs
  obtain ⟨z,i,c,rfl,rfl,hz,he,q⟩:=h
  obtain ⟨t,rfl⟩:=rx
  obtain ⟨t',rfl⟩:=ry
  obtain ⟨j,h1,h2,h3,h4,h5⟩:=QgG he
  have hl:z.cps.toList.length=z.length:=by simp [Str.length]
  rw [hl] at h1 h4 h5
  have hn:=QcC
  exact tail_any (typeIs_str s z t) slot_str_getitem.lookup (getItem_str (c:=c) (by
    have e1:decide (i < -(2 ^ 63:Int))=false:=decide_eq_false (by omega)
    have e2:decide (i ≥ 2 ^ 63)=false:=decide_eq_false (by omega)
    rw [e1,e2,Bool.or_false]) (by rw [h1];simpa using h2) ⟨.str ⟨#[c]⟩,H,I.tok _,⟨_,rfl⟩,q⟩) hs
theorem QiP (its:List Value) (n j:Nat) (u:Value):Obj.mapSeq (·.setIfInBounds j u) { cls := .type "list",data := .seq its.toArray n }={ cls := .type "list",data := .seq (its.set j u).toArray n }:=by
  simp [Obj.mapSeq]
theorem Inv.lst {pins:List (Addr×Obj)} {σ:St} {H:Hp} {s:Shared} {p:Addr} {xs:List V} (I:Inv X pins σ H s) (h:H p=some (.lst xs)) :
    ∃ (its:List Value) (n:Nat),Vals xs its∧s.heap.get? p=some { cls := .type "list",data := .seq its.toArray n }∧xs.length≤sizeLine:=by
  obtain ⟨z,its,n,r,e⟩:=I.hok p _ h
  exact ⟨its,n,r,e,z⟩
theorem Inv.lstUpd {pins:List (Addr×Obj)} {σ:St} {H:Hp} {s:Shared} {p:Addr} {xs ys:List V} {its its':List Value} {n n':Nat} {f:Obj→Obj} (I:Inv X pins σ H s) (h:H p=some (.lst xs))
    (ho:s.heap.get? p=some { cls := .type "list",data := .seq its.toArray n }) (hf:f { cls := .type "list",data := .seq its.toArray n }={ cls := .type "list",data := .seq its'.toArray n' }) (r:Vals ys its') (hz:ys.length≤sizeLine) (t:Nat) :
    Inv X pins σ (upd H p (.lst ys)) { s with heap:=s.heap.update p f,toks:=t }:=by
  have e:(s.heap.update p f).get? p=some { cls := .type "list",data := .seq its'.toArray n' }:=by
    rw [Heap.get?_update_self f ho (by rw [hf] <;> rfl),hf]
  refine I.write (x:=p) (e:=p) (by rw [h];trivial) (.inl rfl) (fun b u hb q=>(Heap.get?_update_other _ _ (Ne.symm hb)).trans q) ⟨_,e⟩ ?_
  exact ⟨hz,its',n',r,e⟩
noncomputable def rSetL:V→V→V→Hp→(Hp→Prop)→Prop:=fun o i v H Q=>∃ p xs k j,o = .ref p∧i = .int k∧H p=some (.lst xs)∧ixN xs.length k=some j∧Q (upd H p (.lst (xs.set j v)))
theorem set_list:PSet X rSetL:=by
  intro pins s σ H o i v ov iv u Q I ro ri rv h
  obtain ⟨p,xs,k,j,rfl,rfl,hp,hj,q⟩:=h
  cases ro
  obtain ⟨t,rfl⟩:=ri
  obtain ⟨its,n,r,ho,hz⟩:=I.lst hp
  obtain ⟨h1,h2,h3,h4⟩:=Qkb hj
  have hl:=r.length
  have hn:=QcC
  have I':Inv X pins σ (upd H p (.lst (xs.set j v))) { s with heap:=s.heap.update p (Obj.mapSeq (·.setIfInBounds j u)) } :=
    I.lstUpd hp ho (QiP its n j u) (r.set rv j) (by rw [List.length_set];exact hz) s.toks
  by_cases h0:0≤k
  · have hk:k.toNat=j:=by
      rw [seqIndex_of h0 h4] at h1
      exact Option.some.inj h1
    exact PySem.W.ki_setAt ho h0 (by omega) (by rw [List.size_toArray,← hl];exact h4) (by rw [hk];exact ⟨_,I',q⟩)
  · have hk:(k + (its.toArray.size:Int)).toNat=j:=by
      rw [seqIndex_neg (by omega) h3] at h1
      rw [List.size_toArray,← hl]
      exact Option.some.inj h1
    exact PySem.W.ki_setBack ho (by omega) (by rw [List.size_toArray,← hl];exact h3) (by omega) (by rw [hk];exact ⟨_,I',q⟩)

theorem Qgj (lo hi:Option Int) (n:Nat):(sliceBounds lo hi none n).1=((HT.sIx n 0 lo:Nat):Int)∧(sliceBounds lo hi none n).2.1=((HT.sIx n n hi:Nat):Int)∧(sliceBounds lo hi none n).2.2=1:=by
  refine ⟨?_,?_,rfl⟩
  · cases lo with
    | none=>simp [sliceBounds,HT.sIx]
    | some i =>
      simp only [sliceBounds,HT.sIx,Option.getD_none,show (1:Int) > 0 by decide,if_true]
      by_cases h:i < 0
      · simp only [h,if_true] <;> omega
      · simp only [h,if_false] <;> omega
  · cases hi with
    | none=>simp [sliceBounds,HT.sIx]
    | some i =>
      simp only [sliceBounds,HT.sIx,Option.getD_none,show (1:Int) > 0 by decide,if_true]
      by_cases h:i < 0
      · simp only [h,if_true] <;> omega
      · simp only [h,if_false] <;> omega
theorem QeT (its:List Value) (lo hi:Option Int):slicePick its.toArray lo hi none=((its.drop (HT.sIx its.length 0 lo)).take (HT.sIx its.length its.length hi - HT.sIx its.length 0 lo)).toArray:=by
  obtain ⟨h1,h2,h3⟩:=Qgj lo hi its.toArray.size
  unfold slicePick
  rw [h1,h2,h3]
  simp only [sliceRange_one,pick_run,List.size_toArray] <;> rfl
noncomputable def rSlL (K:PySem.W.Frag):V→Option Int→Option Int→Hp→VK→Prop:=fun x lo hi H Q=>∃ a xs,x = .ref a∧SqL K H a xs∧∀ p,H p=none→Q (.ref p) (upd H p (.lst (cutV xs lo hi)))
theorem sl_list:SlR X (rSlL X.K):=by
  intro pins s σ H x v vl vu lo hi sl Q I rx hs pl pu h
  obtain ⟨a,xs,rfl,hx,q⟩:=h
  cases rx
  obtain ⟨its,r,ht,hz⟩:=I.list hx
  have hlen:=r.length
  refine ⟨"list",_,slot_list_getitem.lookup,ht.isList.typeIs,?_⟩
  refine wpAny_getItem_list_slice ht.isList hs pl pu .none (by simp) ?_ (by rw [List.size_toArray] <;> omega)
  rw [QeT,← hlen]
  refine ⟨.ref s.heap.objs.size,_,I.laid (t':=s.toks) (o := .lst (cutV xs lo hi)) (fun b ob q=>Heap.get?_push_of_some _ q) (Nat.le_refl _) ?_,rfl,q _ (I.hok.fresh (Nat.le_refl _))⟩
  exact ⟨Nat.le_trans (Qhp xs lo hi) hz,_,0,(r.drop (HT.sIx xs.length 0 lo)).take (HT.sIx xs.length xs.length hi - HT.sIx xs.length 0 lo),Heap.get?_push_size _ rfl⟩

theorem Qac.or {f:Value} {r r':List V→Hp→VK→Prop} (h:Qac X f r) (h':Qac X f r'):Qac X f (fun xs H Q=>r xs H Q∨r' xs H Q):=by
  intro pins s σ H xs us Q I rs q
  rcases q with q | q
  · exact h pins s σ H xs us Q I rs q
  · exact h' pins s σ H xs us Q I rs q
theorem Qfe:Qac X (.type "tuple") (fun xs H Q=>∃ p ys,xs=[.ref p]∧((SqL X.K H p ys∧∀ l,H l=none→Q (.ref l) (upd H l (.tup ys)))∨(SqT X.K H p ys∧Q (.ref p) H))):=by
  intro pins s σ H xs us Q I r h
  obtain ⟨p,ys,rfl,h⟩:=h
  obtain ⟨u,rfl,rx⟩:=QcY r
  cases rx
  rcases h with ⟨hq,q⟩ | ⟨hq,q⟩
  · obtain ⟨its,r',pl,hz⟩:=I.list hq
    have hlen:=r'.length
    refine call_tuple_list pl.isList (fun h' kp => ?_) (by simp only [List.size_toArray] <;> omega)
    have I1:Inv X pins σ H { s with heap:=h' }:=I.kept (t':=s.toks) kp
    have I2:Inv X pins σ (upd H h'.objs.size (.tup ys)) { s with heap:=h'.push { cls := .type "tuple",data := .seq its.toArray } } :=
      I1.laid (t':=s.toks) (fun b o e=>Heap.get?_push_of_some _ e) (Nat.le_refl _) (show YU X.prog X.w _ _ _ (.tup ys) from ⟨hz,its,r',IsTup.new _ _⟩)
    exact ⟨.ref h'.objs.size,_,I2,rfl,q _ (I1.hok.fresh (Nat.le_refl _))⟩
  · obtain ⟨its,r',pl,hz⟩:=I.tuple hq
    exact call_tuple_same pl ⟨.ref p,H,I,rfl,q⟩

noncomputable def tyV (K:PySem.W.Frag) (T:String) (x:V) (H:Hp):Prop:=match x with
  | .str _=>T = "str"
  | .int _=>T = "int"
  | .ref p=>(T = "list"∧∃ xs,SqL K H p xs)∨(T = "tuple"∧∃ o,K.lookup p=some o∧o.cls = .type "tuple"∧o.dict=none) ∨
      (T = "dict"∧((∃ kvs,H p=some (.dK kvs))∨∃ kvs,H p=some (.dT kvs)))∨(T = "set"∧∃ S n,H p=some (.set S n))
  | _=>False
theorem tyV_is {pins:List (Addr×Obj)} {σ:St} {H:Hp} {s:Shared} {T:String} {x:V} {v:Value} (I:Inv X pins σ H s) (r:RelV x v) (ty:tyV X.K T x H) :
    s.TypeIs v T∧∀ a,v = .ref a→∃ ob,s.heap.get? a=some ob∧ob.dict=none:=by
  cases x with
  | str z =>
    obtain ⟨t,rfl⟩:=r
    cases (show T = "str" from ty)
    exact ⟨typeIs_str s z t,fun _ e=>nomatch e⟩
  | int i =>
    obtain ⟨t,rfl⟩:=r
    cases (show T = "int" from ty)
    exact ⟨typeIs_int s i t,fun _ e=>nomatch e⟩
  | ref p =>
    cases r
    rcases ty with ⟨rfl,xs,hq⟩ | ⟨rfl,o,hk,hc,hd⟩ | ⟨rfl,hk⟩ | ⟨rfl,S,n,hk⟩
    · obtain ⟨its,_,pl,_⟩:=I.list hq
      refine ⟨pl.isList.typeIs,fun a e => ?_⟩
      cases e
      obtain ⟨o,n,e,c,hd,_⟩:=pl
      exact ⟨o,e,hd⟩
    · refine ⟨⟨o,I.kIn p o hk,hc⟩,fun a e => ?_⟩
      cases e
      exact ⟨o,I.kIn _ o hk,hd⟩
    · have z:∃ o,s.heap.get? p=some o∧o.ExactDict:=by
        rcases hk with ⟨kvs,hk⟩ | ⟨kvs,hk⟩
        · obtain ⟨_,_,_,_,o,_,_,e,ex,_⟩:=I.hok p _ hk
          exact ⟨o,e,ex⟩
        · obtain ⟨_,_,_,_,o,_,_,e,ex,_⟩:=I.hok p _ hk
          exact ⟨o,e,ex⟩
      obtain ⟨o,e,ex⟩:=z
      refine ⟨⟨o,e,ex.1⟩,fun a e2 => ?_⟩
      cases e2
      exact ⟨o,e,ex.2.1⟩
    · obtain ⟨o,_,_,_,e,ex,_⟩:=I.hok p _ hk
      refine ⟨⟨o,e,ex.1⟩,fun a e2 => ?_⟩
      cases e2
      exact ⟨o,e,ex.2.1⟩
  | _=>exact False.elim ty
noncomputable def tBM0 (K:PySem.W.Frag) (T:String) (r:V→List V→Hp→VK→Prop) (to:TE):TE:=fun σ H Q=>to σ H fun x H1=>tyV K T x H1∧r x [] H1 Q
noncomputable def tBM (K:PySem.W.Frag) (T:String) (r:V→List V→Hp→VK→Prop) (to:TE) (t:TA):TE:=fun σ H Q=>to σ H fun x H1=>tyV K T x H1∧t σ H1 fun xs H2=>r x xs H2 Q
variable {o e:Expr} {es:List Expr} {to:TE} {t:TA} {name:Str} {apos cpos:Pos} {T id:String} {r:V→List V→Hp→VK→Prop}
theorem pe_bm0 (pa:PlainAttrs T) (slot:Slot T name id) (hty:typeOf (.builtin id)=pure (.type "method_descriptor")) (hm:MtR X id r) (ho:PE X o to)
    (hbase:attributeBase o name X.env (eval o X.env)=eval o X.env:=by rfl) (hline:(apos.endLine==cpos.line)=true:=by rfl):PE X (.Call (.Attribute o name apos) [] [] cpos) (tBM0 X.K T r to):=by
  intro pins s σ H Q I h
  refine wpAny_Call_method0_late hbase hline (thn (ho pins s σ H _ I h) fun v s1 ⟨x,H1,I1,r1,ty,q1⟩ => ?_)
  obtain ⟨h1,h2⟩:=tyV_is I1 r1 ty
  exact ⟨T,id,pa,slot,hty,h1,h2,Calls.callWith_builtin rfl (PySem.evalArgs_none (hm pins s1 σ H1 x [] v [] Q I1 r1 .nil q1))⟩
theorem Qda (pa:PlainAttrs T) (slot:Slot T name id) (hty:typeOf (.builtin id)=pure (.type "method_descriptor")) (hm:MtR X id r) (ho:PE X o to) (ha:PA X (e :: es) t)
    (hbase:attributeBase o name X.env (eval o X.env)=eval o X.env:=by rfl)
    (hfew:((backTo cpos (starEach (e :: es) X.env)).all (fun x => !x.1)&&(backToKw cpos (keywordEach [] X.env)).all (fun x=>x.1.isSome)
      && decide ((e :: es).length + ([]:List Keyword).length + (if ([]:List Keyword).isEmpty then 0 else 1) < 30))=true:=by rfl)
    (hline:(apos.endLine==cpos.line)=true:=by rfl) (hs:starEach (e :: es) X.env=(false,eval e X.env) :: starEach es X.env:=by rfl) (hplain:(backTo cpos (starEach es X.env)).any (·.1)=false:=by rfl) :
    PE X (.Call (.Attribute o name apos) (e :: es) [] cpos) (tBM X.K T r to t):=by
  intro pins s σ H Q I h
  refine wpAny_Call_method_late hbase hfew hline rfl (thn (ho pins s σ H _ I h) fun v s1 ⟨x,H1,I1,r1,ty,q1⟩ => ?_)
  obtain ⟨h1,h2⟩:=tyV_is I1 r1 ty
  refine ⟨T,id,pa,slot,hty,h1,h2,?_⟩
  have hA:=ha cpos pins s1 σ H1 _ I1 q1
  rw [hs] at hA ⊢
  refine Calls.callWith_builtin (by show (false||(backTo cpos (starEach es X.env)).any (·.1))=false;rw [hplain] <;> rfl) (Calls.evalArgs_plain ?_)
  exact thn hA fun us s2 ⟨vs,H2,I2,r2,q2⟩=>hm pins s2 σ H2 x vs v us Q I2 r1 r2 q2
/- xs.append(e),list.index on a module's tuple .. are MtR facts of 06m -/
end
end L2

namespace L2
open PySem PySem.Spec PyProof.Rows

noncomputable def MtM (X:Cx) (id:String) (r:V→List V→Hp→VK→Prop):Prop :=
  ∀ (pins:List (Addr×Obj)) (s:Shared) (σ:St) (H:Hp) (x:V) (xs:List V) (v:Value) (us:List Value) (Q:VK),Inv X pins σ H s→RelV x v→Vals xs us→r x xs H Q →
    wpAny (model X.prog X.w) X.A (call (.builtin id) (v :: us)) (EP X pins σ Q) X.xe s

theorem Vals.one:∀ {x:V} {us:List Value},Vals [x] us→∃ u,us=[u]∧RelV x u
  | _,_,.cons r .nil=>⟨_,rfl,r⟩
theorem Vals.zero:∀ {us:List Value},Vals [] us→us=[]
  | _,.nil=>rfl
theorem Vals.eraseIdx:∀ {xs:List V} {us:List Value} (i:Nat),Vals xs us→Vals (xs.eraseIdx i) (us.eraseIdx i)
  | _,_,_,.nil => .nil
  | _,_,0,.cons _ t=>t
  | _,_,i + 1,.cons r t => .cons r (Vals.eraseIdx i t)
theorem Vals.reverse {xs:List V} {us:List Value} (h:Vals xs us):Vals xs.reverse us.reverse:=by
  induction h with
  | nil=>exact .nil
  | cons r t ih=>rw [List.reverse_cons,List.reverse_cons];exact Vals.append ih (.cons r .nil)
section
variable {X:Cx} {pins:List (Addr×Obj)} {σ:St} {H:Hp} {s:Shared} {l b:Addr} {xs ys zs:List V}

theorem Inv.lset {its its':List Value} {n:Nat} {f:Array Value→Array Value} {t':Nat} (I:Inv X pins σ H s) (hH:H l=some (.lst xs))
    (e:s.heap.get? l=some { cls := .type "list",data := .seq its.toArray n }) (hf:f its.toArray=its'.toArray) (hv:Vals ys its') (hz:ys.length≤sizeLine) :
    Inv X pins σ (upd H l (.lst ys)) { s with heap:=s.heap.update l (Obj.mapSeq f),toks:=t' }:=by
  have q:=PySem.IsL.update e f
  rw [hf] at q
  refine I.write (x:=l) (e:=l) (by rw [hH];exact trivial) (.inl rfl) (fun b' u hb hu=>(Heap.get?_update_other s.heap (Obj.mapSeq f) (Ne.symm hb)).trans hu) ⟨_,q⟩ ?_
  exact ⟨hz,its',_,hv,q⟩
theorem Inv.lnew {its:List Value} {t':Nat} (I:Inv X pins σ H s) (hv:Vals ys its) (hz:ys.length≤sizeLine) :
    Inv X pins σ (upd H s.heap.objs.size (.lst ys)) { s with heap:=s.heap.push { cls := .type "list",data := .seq its.toArray },toks:=t' } :=
  I.laid (fun _ _ q=>Heap.get?_push_of_some _ q) (Nat.le_refl _) ⟨hz,its,0,hv,Heap.get?_push_size _ rfl⟩
theorem Inv.fresh (I:Inv X pins σ H s):H s.heap.objs.size=none:=I.hok.fresh (Nat.le_refl _)
theorem Inv.lstM (I:Inv X pins σ H s) (hH:H l=some (.lst xs)):xs.length≤sizeLine∧∃ (its:List Value) (n:Nat),Vals xs its∧xs.length=its.length∧s.heap.get? l=some { cls := .type "list",data := .seq its.toArray n }:=by
  obtain ⟨z,its,n,r,e⟩:=I.hok l _ hH
  exact ⟨z,its,n,r,r.length,e⟩

end

section
variable {X:Cx}

noncomputable def QjP:V→List V→Hp→VK→Prop:=fun x vs H Q=>∃ l xs y,x = .ref l∧vs=[y]∧H l=some (.lst xs)∧xs.length < sizeLine∧Q .non (upd H l (.lst (xs++[y])))
theorem ZP:MtM X "list.append" QjP:=by
  intro pins s σ H x vs v us Q I rx rv h
  obtain ⟨l,xs,y,rfl,rfl,hH,hz,q⟩:=h
  cases rx
  obtain ⟨u,rfl,ru⟩:=rv.one
  obtain ⟨z,its,n,r,hl,e⟩:=I.lstM hH
  refine call_meets F.slot_list_append ⟨_,e,rfl⟩ F.entry_list_append (F.args_list_append_2 _ _) (PySem.list_append l its.toArray n u (by rw [List.size_toArray];omega)) ⟨e,?_⟩
  refine ⟨.non,_,I.lset (its':=its++[u]) hH e (by simp) (r.append (.cons ru .nil)) ?_,rfl,q⟩
  rw [List.length_append,List.length_singleton]
  omega

noncomputable def rClear:V→List V→Hp→VK→Prop:=fun x vs H Q=>∃ l xs,x = .ref l∧vs=[]∧H l=some (.lst xs)∧Q .non (upd H l (.lst []))
theorem mt_clear:MtM X "list.clear" rClear:=by
  intro pins s σ H x vs v us Q I rx rv h
  obtain ⟨l,xs,rfl,rfl,hH,q⟩:=h
  cases rx
  have hus:=rv.zero
  subst hus
  obtain ⟨z,its,n,r,hl,e⟩:=I.lstM hH
  refine call_meets F.slot_list_clear ⟨_,e,rfl⟩ F.entry_list_clear (F.args_list_clear_1 _) (AutoSeq1.list_clear_list_0 l its.toArray n (by rw [List.size_toArray];omega)) ⟨e,?_⟩
  exact ⟨.non,_,I.lset (its':=[]) (ys:=[]) hH e rfl .nil (Nat.zero_le _),rfl,q⟩

end

section
variable {prog:Program} {w:World} {A:Around} {E:Value→Shared→Prop} {s:Shared}
end

section
variable {X:Cx}
end
end L2

namespace Att
open PySem PySem.W PySem.Calls PyProof.Rows

theorem QdF {P:Params} {h:Heap}:∀ (ns:List Int) (vs:List Value),WellAll P h vs (ns.map WData.int)→IntsAre vs ns:=by
  intro ns
  induction ns with
  | nil =>
    intro vs w
    rw [List.map_nil] at w
    cases w
    exact .nil
  | cons n ns ih =>
    intro vs w
    rw [List.map_cons] at w
    cases w with
    | cons a b =>
      cases a
      exact .cons _ _ (ih _ b)

theorem Qkv {l:OpenLaw} {n:Nat} (hn:l.most=some n) {P:Params} {h:Heap} {args:List WData} {vals:List Value}
    (hpre:l.row.toRowW.claim.pre args=true) (hwl:WellAll P h vals args) :
    ∃ a vs ns,vals=[Value.ref a]∧args=[WData.list (ns.map WData.int)]∧h.get? a=some { cls := .type "list",data := .seq vs.toArray }∧IntsAre vs ns∧ns.length≤n:=by
  have hsh:WShape.hasAll [] args [.list .int]=true:=(pre_splitW hpre).1
  have hc:l.pre.holds [] { args:=args }=true:=(pre_splitW hpre).2
  obtain ⟨d,r,rfl,h1,h2⟩:=hasAllW_cons hsh
  obtain rfl:=hasAllW_nil h2
  obtain ⟨xs,rfl,h3⟩:=hasW_list h1
  obtain ⟨ns,rfl⟩:=items_int h3
  have hlen:ns.length≤n:=by
    unfold OpenLaw.pre at hc
    have h4:(WTm.not (.lt (.lit (.int (n:Int))) (.len (.arg 0)))).holds [] { args:=[.list (ns.map .int)] }=true:=by
      have h4:=(holds_andW hc).1
      rw [hn] at h4
      exact h4
    have h5:=condW_of h4 (w_not (w_lt w_lit (w_len_list (w_arg rfl))))
    rw [List.length_map] at h5
    refine Nat.le_of_not_lt fun q => ?_
    have q':(n:Int) < ((ns.length:Nat):Int):=by omega
    first
      | (rw [decide_eq_true q'] at h5;exact absurd h5 (by decide))
      | (simp at h5;omega)
  cases hwl with
  | cons w1 w2 =>
    cases w2
    cases w1 with
    | list ho hall=>exact ⟨_,_,ns,rfl,rfl,ho,QdF ns _ hall,hlen⟩

theorem Qkz (l:OpenLaw) (args:List WData):l.row.toRowW.claim.post args (.bool true) args=true :=
  postW_of (r:=l.row.toRowW) (X:=(true==true))
    (show WShape.has [] (.bool true) .bool=true by first | rfl | decide | simp [WShape.has,WShape.arms,WShape.armsAll])
    (show (WTm.eq .res (.lit (.bool true))).value [] { args:=args,res:=some (.bool true),after:=args }=some (.bool (true==true)) from w_eq_bool (w_res rfl) w_lit) rfl

theorem attach_call {l:OpenLaw} {n:Nat} {q:Program} {loose:List Str} {XP:(Str→Option Value)→Heap→Prop} {YP:World→Heap→Prop} {d:DefRec}
    (hn:l.most=some n) (hdf:d.params.defaults=[])
    (call:∀ (w:World) (s₀ s₁:Shared) (mg mb:Str→Option Value) (fa:Addr) (o:Obj) (pm cd doc:Value) (a:Addr) (vs:List Value) (ns:List Int),
      Ground q loose [] XP w s₀ mg mb s₁.heap→YP w s₁.heap →
      s₁.heap.get? fa=some o→o.data = .func (docDef d.name d.params d.body d.scope pm cd doc)→s₁.heap.CodeRec cd d.name→mg d.name=some (.ref fa) →
      s₁.heap.get? a=some { cls := .type "list",data := .seq vs.toArray }→IntsAre vs ns→ns.length≤n→s₁.gens = #[] →
      codeAny (model l.prog w) callerA (.call (.ref fa) ⟨[.ref a],[]⟩) (fun r s'=>r = .ok (.ret (.bool true))∧OldK s₁.heap s'.heap∧s'.os=s₁.os∧AllBare s'.gens) s₁) :
    WalkO q loose XP YP l.row.toRowW d [] (fun f vs=>PySem.call f vs):=by
  intro w s₀ s₁ mg mb G Y fa o pm cd doc dV kV ho hd hcd hD hmg hg args vals as hpre hlay hrd hwl hlo
  obtain rfl:dV = .none:=Dflts.none hD hdf
  obtain rfl:kV = .none:=Dflts.noKw hD
  obtain ⟨a,vs,ns,rfl,rfl,hobj,hints,hlen⟩:=Qkv hn hpre hwl
  refine enter_call (codeAny_mono (call w s₀ s₁ mg mb fa o pm cd doc a vs ns G Y ho (fd_plain hd) hcd hmg hobj hints hlen hg) fun r s' hq => ?_)
  obtain ⟨rfl,h2,h3,h4⟩:=hq
  exact ⟨.inl ⟨.bool true,.bool true,[],rfl,fun _=>rfl,.bool true,Qkz l _,fun _=>⟨List.Pairwise.nil,fun _ hm=>(nomatch hm)⟩⟩,h2,h3,h4⟩

section
variable {prog:Program} {w:World} {A:Around} {E:Value→Shared→Prop} {s:Shared} {K:Frag}

end
end Att

namespace L2
open PySem PySem.Spec PyProof.Rows

theorem Qbv:∀ {vs:List Value} {ns:List Int},IntsAre vs ns→Vals (ns.map V.int) vs
  | _,_,.nil => .nil
  | _,_,.cons n t h => .cons ⟨t,rfl⟩ (Qbv h)

noncomputable def Only (H:Hp):Prop:=∀ b,H b=none∨∃ o xs,H b=some (.frz o (.lst xs))

theorem law_call {P:Program} {w:World} {K:PySem.W.Frag} {mg mb:Str→Option Value} {CX:CXT} {k:Nat} {fa a:Addr} {fd:FuncData} {x:Str} {sp:Sp} {s₁:Shared} {vs:List Value} {ns:List Int}
    (KX:K.In s₁.heap) (hns:s₁.heap.Ns mainGlobals mg) (hb:s₁.heap.Ns builtinsNs mb) (hbb:∀ x:Str,x ≠ "__name__"→mb x=bootBuiltins x) (hlim:s₁.heap.NoLimit) (hg:s₁.gens = #[])
    (ha:s₁.heap.get? a=some { cls := .type "list",data := .seq vs.toArray }) (hi:IntsAre vs ns) (hl:ns.length≤sizeLine) (hr:Room k callerA)
    (F:∀ base:Heap,K.In base→base.Ns mainGlobals mg→FnOk P w K mg base CX k fa fd [x] sp) (hbind:∀ (s:Shared) (u:Value),BindsTo s fd ⟨[u],[]⟩ [(x,u)])
    (hsp:∀ H:Hp,Only H→SqL K H a (ns.map V.int)→sp [.ref a] H (fun v _=>v = .bl true) fun _ _ _=>False)
    (hCX:∀ H e s',CX [] H s₁ (fun _ _ _=>False) e s'→False) :
    codeAny (model P w) callerA (.call (.ref fa) ⟨[.ref a],[]⟩) (fun r s'=>r = .ok (.ret (.bool true))∧OldK s₁.heap s'.heap∧s'.os=s₁.os∧AllBare s'.gens) s₁:=by
  have rv:=Qbv hi
  have lenV:=hi.length
  -- from an abstract heap in which nothing but the script may be tracked
  have core:∀ H:Hp,Only H→SqL K H a (ns.map V.int)→HOk P w H s₁.heap→(∀ b,H b≠none→b=a)→(H a≠none→K.lookup a=none) →
      codeAny (model P w) callerA (.call (.ref fa) ⟨[.ref a],[]⟩) (fun r s'=>r = .ok (.ret (.bool true))∧OldK s₁.heap s'.heap∧s'.os=s₁.os∧AllBare s'.gens) s₁:=by
    intro H hO hS hok hA hK
    have base_of:∀ {b:Addr} {o:Obj},s₁.heap.get? b=some o→H b=none→(hidT s₁.heap H).get? b=some o:=fun e n=>hidT_get e n
    have noA:∀ {b:Addr} {o:Obj} {es:Array DictEntry} {ep:Nat},s₁.heap.get? b=some o→o.data = .dict es ep→H b=none:=fun {b o es ep} e d=>by
      cases q:H b with
      | none=>rfl
      | some u =>
        have e':b=a:=hA b (by rw [q];simp)
        subst e'
        rw [ha] at e;cases e
        have d':Data.seq vs.toArray _=Data.dict es ep:=d
        cases d'
    have nsK:∀ {b:Addr} {m:Str→Option Value},s₁.heap.Ns b m→(hidT s₁.heap H).Ns b m:=fun {b m} ⟨o,es,ep,e,d,r⟩=>⟨o,es,ep,base_of e (noA e d),d,r⟩
    have hKb:K.In (hidT s₁.heap H):=fun b o e=>base_of (KX b o e) (by
      cases q:H b with
      | none=>rfl
      | some u =>
        have e':b=a:=hA b (by rw [q];simp)
        subst e'
        rw [hK (by rw [q];simp)] at e;cases e)
    have hM:Mod K mg (hidT s₁.heap H):=⟨hKb,nsK hns,⟨mb,nsK hb,hbb⟩,let ⟨mc,h1,h2⟩:=hlim;⟨mc,nsK h1,h2⟩⟩
    have e0:Env0 P w K mg (hidT s₁.heap H) callerA [] s₁ H:=⟨rfl,hM,fun b o e=>of_hidT e,Nat.le_of_eq (QkS _ _),trivial,fun b hb=>absurd (show b∈([]:List Addr) from hb) (by simp),hok,.of_eq hg⟩
    refine codeAny_mono ((F _ hKb (nsK hns)).run callerA [] s₁ H ⟨[.ref a],[]⟩ [.ref a] [.ref a] _ _ hr e0 (hbind s₁ (.ref a)) (.cons rfl .nil) (hsp H hO hS)) fun r s' h => ?_
    cases r with
    | error e=>exact (hCX H e s' h).elim
    | ok fl =>
      cases fl with
      | next=>exact False.elim h
      | brk=>exact False.elim h
      | cont=>exact False.elim h
      | ret u =>
        obtain ⟨v,H',os,bare,un,hok',r',q⟩:=h
        have q':v = .bl true:=q
        subst q'
        obtain rfl:u=Value.bool true:=r'
        refine ⟨rfl,OldK.of_keep fun b o e => ?_,os,bare⟩
        cases q:H b with
        | none=>exact un.keep b o e q (by intro z;exact absurd (show b∈([]:List Addr) from z) (by simp)) (by simp)
        | some u =>
          rcases hO b with z | ⟨ob,xs,z⟩
          · rw [q] at z;cases z
          · have z2:=un.frzs b ob _ z
            obtain ⟨e1,_⟩:=hok b _ z
            obtain ⟨e2,_⟩:=hok' b _ z2
            rw [e] at e1;cases e1
            exact e2
  cases hk:K.lookup a with
  | some o =>
    -- the script is one of the module's own objects
    have e:=KX a o hk
    rw [ha] at e
    cases e
    refine core (fun _=>none) (fun _ => .inl rfl) (.inr ⟨_,vs.toArray,_,hk,rfl,rfl,rfl,by rw [List.size_toArray,lenV];exact hl,by simpa using rv⟩) (fun b u z=>by have z':(none:Option HO)=some u:=z;cases z') (fun b z=>absurd rfl z) fun z=>absurd rfl z
  | none =>
    refine core (fun b=>if b=a then some (.frz { cls := .type "list",data := .seq vs.toArray } (.lst (ns.map V.int))) else none) (fun b => ?_) (.inl (.inr ⟨{ cls := .type "list",data := .seq vs.toArray },if_pos rfl⟩)) (fun b u z => ?_) (fun b z => ?_) fun _=>hk
    · by_cases hb:b=a
      · exact .inr ⟨_,_,if_pos hb⟩
      · exact .inl (if_neg hb)
    · by_cases hb:b=a
      · have z':=(if_pos hb).symm.trans z
        cases z'
        subst hb
        exact ⟨ha,by rw [List.length_map];exact hl,vs,_,rv,ha⟩
      · have z':=(if_neg hb).symm.trans z
        cases z'
    · by_cases hb:b=a
      · exact hb
      · exact absurd (if_neg hb) z
end L2

namespace L2
open PySem PySem.Spec PyProof.Rows

noncomputable abbrev KOf {K:PySem.W.Frag} {h:Heap} (_:K.In h):PySem.W.Frag:=K

theorem walk_of {l:PySem.W.OpenLaw} {n k:Nat} {q:Program} {loose:List Str} {XP:(Str→Option Value)→Heap→Prop} {YP:World→Heap→Prop} {d:DefRec} {K:Params→PySem.W.Frag} {CX:World→CXT} {sp:World→Sp} {x:Str}
    (hn:l.most=some n) (hn2:n≤sizeLine) (hdf:d.params.defaults=[]) (hr:Room k callerA)
    (hY:∀ (w:World) (h:Heap),YP w h→(K w.params).In h)
    (F:∀ (w:World) (mg:Str→Option Value) (fa:Addr) (h:Heap),(K w.params).In h→h.Ns mainGlobals mg→mg d.name=some (.ref fa) →
      ∃ fd:FuncData,(∀ (s:Shared) (u:Value),BindsTo s fd ⟨[u],[]⟩ [(x,u)]) ∧
        ∀ base:Heap,(K w.params).In base→base.Ns mainGlobals mg→FnOk l.prog w (K w.params) mg base (CX w) k fa fd [x] (sp w))
    (hsp:∀ (w:World) (H:Hp) (a:Addr) (ns:List Int),ns.length≤n→Only H→SqL (K w.params) H a (ns.map V.int)→sp w [.ref a] H (fun v _=>v = .bl true) fun _ _ _=>False)
    (hCX:∀ (w:World) (H:Hp) (s:Shared) (e:Value) (s':Shared),CX w [] H s (fun _ _ _=>False) e s'→False) :
    PySem.W.WalkO q loose XP YP l.row.toRowW d [] (fun f vs=>PySem.call f vs):=by
  refine Att.attach_call hn hdf fun w s₀ s₁ mg mb fa o pm cd doc a vs ns G Y ho hd hcd hmg hobj hints hlen hg => ?_
  have KX:=hY w _ Y
  obtain ⟨fd,hb,hF⟩:=F w mg fa _ KX G.T.g hmg
  exact law_call KX G.T.g G.T.b G.T.builtins G.T.nolimit hg hobj hints (Nat.le_trans hlen hn2) hr hF hb (fun H hO hS=>hsp w H a ns hlen hO hS) fun H e s'=>hCX w H s₁ e s'
end L2

/- THE LAST THEOREM (shape;LID,My.* are yours):
   My.Adr: a structure of the addresses that your layer names (classes,functions);My.Txt K t: a structure (Prop) of the equations over K;
   My.txt_mk:{K} {implicit addresses ..} (e1:nsIn K mainGlobals "law"=some (some (.ref f))) (e2:K.lookup f=some ⟨oc,od,.func (fnOf "law" "law" params body scope dV kV doc pm an cdv ct),sl⟩) (e3:codeIn K cdv "law"=true) ..:∃ t,My.Txt K t

set_option maxRecDepth 100000 in
set_option maxHeartbeats 0 in
theorem PySem.Challenge.cw_LID_holds : PySem.Challenge.rw_LID.Holds := by
  w_on;o_law;k_head;(case hw=>w_witness2)
  k_fill
  refine L2.walk_of (l:=PySem.Challenge.rw_LID) (n:=63) (k:=40) (x := "script") (CX:=fun w => ..) (sp:=fun _=>My.sp_law) rfl (by decide) rfl ⟨rfl,by decide,by decide⟩ (fun w h Y=>PySem.W.kIn_of Y) ?F ?S ?C
  case F =>
    intro w mg fa h KX G hmg
    have T:∃ t,My.Txt (L2.KOf KX) t:=by
      dsimp only [L2.KOf]                          -- K must stand as «<heap const> w.params» for k_is
      refine' My.txt_mk ?e1 ?e2 ?e3 ..
      (case e1=>PySem.W.k_is)                    -- in the order: a name -> its address -> its object -> its parts
      (case e2=>PySem.W.k_is)
      ..
    obtain ⟨t,T⟩:=T
    have e0:=hmg.symm.trans (PySem.W.mg_of KX G T.law)
    cases e0                                       -- fa is the law's own address
    exact ⟨_,fun s u => .of_eq rfl,fun base kb nb=>My.law_fn T kb nb⟩     -- if «.of_eq rfl» comes too early: refine' ⟨_,?b,fun base kb nb=>My.law_fn T kb nb⟩;exact fun s u => .of_eq rfl
  case S=>exact fun w H a ns hl hO hS => ..
  case C=>exact ..
(the tactic k_is has no namespace: write k_is) -/

namespace L2
open PySem PySem.Spec PyProof.Rows

noncomputable def Zq (s:Stmt) (j:Nat):Stmt:=match s with
  | .ClassDef _ _ _ body _ _ _ _ _ _ _=>body.getD j (.Pass ⟨0,0,0,0⟩)
  | _ => .Pass ⟨0,0,0,0⟩
noncomputable def Qp (s:Stmt):Arguments:=match s with
  | .FunctionDef _ a _ _ _ _ _ _ _ _=>a
  | _=>{ posonlyargs:=[],args:=[],vararg:=none,kwonlyargs:=[],kw_defaults:=[],kwarg:=none,defaults:=[] }
noncomputable def Ql (s:Stmt):List Stmt:=match s with
  | .FunctionDef _ _ b _ _ _ _ _ _ _=>b
  | _=>[]
noncomputable def Qc (s:Stmt):Scope:=match s with
  | .FunctionDef _ _ _ _ _ _ sc _ _ _=>sc
  | _=>{ kind := .function,names:=[],isGenerator:=false,isCoroutine:=false }

noncomputable abbrev CX0:CXT:=fun _ _ _ _ _ _=>False
noncomputable abbrev E0:XK:=fun _ _ _=>False
theorem Qhb {X:Cx}:Qfr CX0 X E0:=fun _ _ _ _ _ _ _ h=>h.elim

structure Fun (K:PySem.W.Frag) (x qual:Str) (st:Stmt) (f:Addr) (fd:FuncData):Prop where
  ex:∃ (oc:Value) (od:Option Addr) (kV doc pm:Value) (an:Option Addr) (cdv ct:Value) (osl:Array (Option Value)),
    fd=PySem.W.fnOf x qual (Qp st) (Ql st) (Qc st) .none kV doc pm an cdv ct∧K.lookup f=some ⟨oc,od,.func fd,osl⟩∧PySem.W.codeIn K cdv qual=true
  kp:PySem.W.keepIn K (.ref f)=true
section
variable {P:Program} {w:World} {K:PySem.W.Frag} {mg:Str→Option Value} {base:Heap}
theorem Fun.ok {x qual:Str} {st:Stmt} {f:Addr} {fd:FuncData} {N ps:List Str} {k:Nat} {sp:Sp} (F:Fun K x qual st f fd) (S:FnScope N ps (Qc st)) (len:∀ vs H Q E,sp vs H Q E→vs.length=ps.length)
    (hbody:∀ (cdv:Value) (A:Around) (outer:List Env) (s:Shared) (H:Hp) (vs:List V) (Q:VK) (E:XK),Room k (A.deeper (envOfC qual (Qc st) s.heap.objs.size f cdv))→sp vs H Q E →
      ∃ t,PSs (cxOf CX0 P w K mg base N qual (Qc st) f cdv A outer s H E).nox (Ql st) t∧t { nx:=fun _ H'=>Q .non H',rt:=Q } (Qab N vs) H):FnOk P w K mg base CX0 (k + 1) f fd ps sp:=by
  obtain ⟨oc,od,kV,doc,pm,an,cdv,ct,osl,rfl,lk,hcd⟩:=F.ex
  refine fn_of lk hcd S len fun A outer s H vs Q E hr hsp => ?_
  obtain ⟨t,h,q⟩:=hbody cdv A outer s H vs Q E hr hsp
  exact ⟨t,h.nox,q⟩
theorem Fun.binds {x qual:Str} {st:Stmt} {f:Addr} {fd:FuncData} {ps:List Str} (F:Fun K x qual st f fd)
    (h:∀ (kV doc pm:Value) (an:Option Addr) (cdv ct:Value) (us:List Value),us.length=ps.length→bindArgs (PySem.W.fnOf x qual (Qp st) (Ql st) (Qc st) .none kV doc pm an cdv ct) ⟨us,[]⟩=pure (ps.zip us)):YV K fd ps []:=by
  obtain ⟨oc,od,kV,doc,pm,an,cdv,ct,osl,rfl,lk,hcd⟩:=F.ex
  exact .all (h kV doc pm an cdv ct)
theorem Qz {x qual:Str} {st:Stmt} {f:Addr} {oc:Value} {od an:Option Addr} {osl:Array (Option Value)} {kV doc pm cdv ct:Value} (l:K.lookup f=some ⟨oc,od,.func (PySem.W.fnOf x qual (Qp st) (Ql st) (Qc st) .none kV doc pm an cdv ct),osl⟩)
    (c:PySem.W.codeIn K cdv qual=true) (k:PySem.W.keepIn K (.ref f)=true):Fun K x qual st f (PySem.W.fnOf x qual (Qp st) (Ql st) (Qc st) .none kV doc pm an cdv ct):=⟨⟨oc,od,kV,doc,pm,an,cdv,ct,osl,rfl,l,c⟩,k⟩
end
section
variable {X:Cx}
theorem pv (i:Nat) {x:Str} {pos:Pos} (hN:X.N[i]?=some x:=by rfl) (hv:Vis X.env.scope x:=by first | exact Or.inl rfl | exact Or.inr (Or.inl rfl) | exact Or.inr (Or.inr rfl)) (hd:(x==("__debug__":Str))=false:=by decide)
    (hcd:(x==("__classdict__":Str))=false:=by decide):PE X (.Name x pos) (tVar i):=pe_var hN hv hd hcd
end

noncomputable def Same (H H':Hp):Prop:=∀ b o,H b=some o→H' b=some o
theorem Same.refl (H:Hp):Same H H:=fun _ _ h=>h
theorem Same.trans {H H1 H2:Hp} (a:Same H H1) (b:Same H1 H2):Same H H2:=fun c o h=>b c o (a c o h)
theorem Same.free {H H':Hp} (e:Same H H') {l:Addr} (h:H' l=Option.none):H l=Option.none:=by
  cases q:H l with
  | none=>rfl
  | some o =>
    rw [e l o q] at h
    cases h
theorem Same.seq {K:PySem.W.Frag} {H H':Hp} {a:Addr} {xs:List V} (e:Same H H') (h:SqL K H a xs):SqL K H' a xs:=by
  rcases h with (h | ⟨o,h⟩) | h
  · exact .inl (.inl (e _ _ h))
  · exact .inl (.inr ⟨o,e _ _ h⟩)
  · exact .inr h

end L2

noncomputable section
namespace L2.PM
open PySem PySem.Spec PyProof.Rows

noncomputable def clos (env:Env):List (Str×NameKind)→List (Str×Addr)→List (Str×Addr)
  | [],acc=>acc
  | (n,k) :: r,acc=>if k==NameKind.free then clos env r ((n,(env.cells.lookup n).getD 0) :: acc) else clos env r acc

theorem QeM {env:Env}:∀ (l:List (Str×NameKind)) (acc:List (Str×Addr)),(∀ x∈l,x.2=NameKind.free→∃ c,env.cells.lookup x.1=some c) →
    (forIn l acc fun (x:Str×NameKind) (cs:List (Str×Addr))=>if (x.2==NameKind.free)=true then (do let a ← cellOf env x.1;pure (ForInStep.yield ((x.1,a) :: cs)):Sem _) else pure (ForInStep.yield cs))=(pure (clos env l acc):Sem _)
  | [],acc,_=>rfl
  | (n,k) :: r,acc,h=>by
    have hr:∀ x∈r,x.2=NameKind.free→∃ c,env.cells.lookup x.1=some c:=fun x hx=>h x (List.mem_cons_of_mem _ hx)
    by_cases hk:k=NameKind.free
    · subst hk
      obtain ⟨c,hc⟩:=h (n,NameKind.free) List.mem_cons_self rfl
      have hcell:cellOf env n=pure c:=by unfold cellOf;rw [hc]
      simp only [List.forIn_cons,beq_self_eq_true,if_true,clos,hcell,hc,Option.getD_some]
      rw [show ((pure c:Sem Addr) >>= fun a=>(pure (ForInStep.yield ((n,a) :: acc)):Sem _))=pure (ForInStep.yield ((n,c) :: acc)) from rfl]
      exact QeM r ((n,c) :: acc) hr
    · have hb:(k==NameKind.free)=false:=by simpa using hk
      simp only [List.forIn_cons,hb,Bool.false_eq_true,if_false,clos]
      exact QeM r acc hr
theorem QbE {scope:Scope} {env:Env} (h:∀ x∈scope.names,x.2=NameKind.free→∃ c,env.cells.lookup x.1=some c):closureFor scope env=pure (clos env scope.names []):=by
  have e:=QeM scope.names [] h
  have f:(fun (x:Str×NameKind) (cs:List (Str×Addr))=>(match x with
      | (name,kind)=>if (kind==NameKind.free)=true then (do let a ← cellOf env name;pure (ForInStep.yield ((name,a) :: cs)):Sem _) else pure (ForInStep.yield cs))) =
      (fun (x:Str×NameKind) (cs:List (Str×Addr))=>if (x.2==NameKind.free)=true then (do let a ← cellOf env x.1;pure (ForInStep.yield ((x.1,a) :: cs)):Sem _) else pure (ForInStep.yield cs)):=by
    funext x cs
    cases x
    rfl
  unfold closureFor
  dsimp only
  rw [f,e]
  rfl
theorem QcJ {env:Env} {x:Str}:∀ (l:List (Str×NameKind)) (acc:List (Str×Addr)),(x,NameKind.free)∈l∨acc.lookup x=env.cells.lookup x→(∀ y∈l,y.2=NameKind.free→∃ c,env.cells.lookup y.1=some c) →
    (clos env l acc).lookup x=env.cells.lookup x
  | [],acc,h,_=>by
    rcases h with h | h
    · cases h
    · exact h
  | (n,k) :: r,acc,h,hc=>by
    have hr:∀ y∈r,y.2=NameKind.free→∃ c,env.cells.lookup y.1=some c:=fun y hy=>hc y (List.mem_cons_of_mem _ hy)
    by_cases hk:k=NameKind.free
    · subst hk
      obtain ⟨c,hcn⟩:=hc (n,NameKind.free) List.mem_cons_self rfl
      have hcn:env.cells.lookup n=some c:=hcn
      simp only [clos,beq_self_eq_true,if_true]
      refine QcJ r _ ?_ hr
      by_cases hx:x=n
      · subst hx
        right
        simp [hcn]
      · have hb:(x==n)=false:=by simpa using hx
        rcases h with h | h
        · rcases List.mem_cons.mp h with h | h
          · injection h with h1 _
            exact absurd h1 hx
          · exact .inl h
        · right
          simp only [List.lookup_cons,hb]
          exact h
    · have hb:(k==NameKind.free)=false:=by simpa using hk
      simp only [clos,hb,Bool.false_eq_true,if_false]
      refine QcJ r acc ?_ hr
      rcases h with h | h
      · rcases List.mem_cons.mp h with h | h
        · injection h with _ h2
          exact absurd h2.symm hk
        · exact .inl h
      · exact .inr h
theorem QgF {env:Env} {x:Str} {c:Addr}:∀ (l:List (Str×NameKind)) (acc:List (Str×Addr)),(acc.lookup x=some c→env.cells.lookup x=some c)→(∀ y∈l,y.2=NameKind.free→∃ c,env.cells.lookup y.1=some c) →
    (clos env l acc).lookup x=some c→env.cells.lookup x=some c
  | [],acc,h,_,e=>h e
  | (n,k) :: r,acc,h,hc,e=>by
    have hr:∀ y∈r,y.2=NameKind.free→∃ c,env.cells.lookup y.1=some c:=fun y hy=>hc y (List.mem_cons_of_mem _ hy)
    by_cases hk:k=NameKind.free
    · subst hk
      obtain ⟨d,hcn⟩:=hc (n,NameKind.free) List.mem_cons_self rfl
      have hcn:env.cells.lookup n=some d:=hcn
      simp only [clos,beq_self_eq_true,if_true] at e
      refine QgF r _ (fun q => ?_) hr e
      by_cases hx:x=n
      · subst hx
        simp [hcn] at q
        rw [hcn,q]
      · have hb:(x==n)=false:=by simpa using hx
        simp only [List.lookup_cons,hb] at q
        exact h q
    · have hb:(k==NameKind.free)=false:=by simpa using hk
      simp only [clos,hb,Bool.false_eq_true,if_false] at e
      exact QgF r acc h hr e

noncomputable def blkEnv (env:Env) (sc':Scope) (cl:List (Str×Addr)) (C:Addr):Env :=
  { scope:=sc',locals:=C,globals:=env.globals,cells:=cl,qual:=env.qual,func:=none,code:=env.code,frame:=env.frame,builtins:=env.builtins }
noncomputable def QaD (X:Cx) (pins:List (Addr×Obj)) (N':List Str) (sc':Scope) (cl:List (Str×Addr)) (C:Addr) (s:Shared) (H:Hp) (fp:List Addr):Cx where
  prog:=X.prog
  w:=X.w
  K:=X.K
  mg:=X.mg
  base:=X.base
  A:=X.A
  N:=N'
  s₀:=s
  H₀:=H
  env:=blkEnv X.env sc' cl C
  outer:=X.stack
  stack:=X.stack
  ex:=fp
  fn:=fun _=>false
  calm:=X.calm
  pn:=X.pn++pins
  xe:=fun _ _=>False

noncomputable def Zp (osc scope:Scope):Scope :=
  { scope with names:=scope.names.map fun (n,k)=>if (k == .free&&osc.kind == .function&&osc.names.lookup n==some .cell) then (n,.cell) else (n,k) }
structure CompOk (N:List Str) (osc scope:Scope) (N':List Str) (nt:Nat) (caps:List Nat):Prop where
  kind:scope.kind = .function
  nocell:∀ x∈scope.names,x.2≠NameKind.cell
  locs:∀ x∈scope.names,x.2=NameKind.local→scope.names.lookup x.1=some .local
  free:∀ x∈scope.names,x.2=NameKind.free→osc.names.lookup x.1=some .cell∨osc.names.lookup x.1=some .free
  len:N'.length=nt + caps.length
  cap:∀ p∈caps.zip (N'.drop nt),N[p.1]?=some p.2∧scope.names.lookup p.2=some NameKind.free

noncomputable def XN (nt:Nat) (caps:List Nat) (σ:St):St:=List.replicate nt none++caps.map fun j=>(σ[j]?).getD none

section
variable {X:Cx} {pins:List (Addr×Obj)} {σ:St} {H:Hp} {s:Shared} {scope:Scope} {N':List Str} {nt:Nat} {caps:List Nat} {fp:List Addr}
theorem QkY (I:Inv X pins σ H s) (ck:CompOk X.N X.env.scope scope N' nt caps):∀ x∈scope.names,x.2=NameKind.free→∃ c,X.env.cells.lookup x.1=some c:=fun x hx hf =>
  I.ok.has x.1 (ck.free x hx hf)
theorem QbZ {osc:Scope} {x:Str} {k:NameKind}:∀ {names:List (Str×NameKind)},names.lookup x=some NameKind.free →
    (names.map fun (p:Str×NameKind)=>if (p.2==NameKind.free&&osc.kind == .function&&osc.names.lookup p.1==some .cell) then (p.1,NameKind.cell) else (p.1,p.2)).lookup x=some k→k = .cell∨k = .free
  | [],h,_=>by cases h
  | (n,q) :: r,h,e=>by
    by_cases hx:x=n
    · subst hx
      simp at h
      subst h
      simp only [List.map_cons] at e
      split at e <;> simp at e <;> simp [e.symm]
    · have hb:(x==n)=false:=by simpa using hx
      simp only [List.lookup_cons,hb] at h
      simp only [List.map_cons] at e
      split at e
      · simp only [List.lookup_cons,hb] at e
        exact QbZ h e
      · simp only [List.lookup_cons,hb] at e
        exact QbZ h e

end
end L2.PM

noncomputable section
namespace L2.PM
open PySem PySem.Spec PyProof.Rows

noncomputable def PIfs (X:Cx) (ifs:List Expr) (t:TT):Prop :=
  ∀ (pins:List (Addr×Obj)) (s:Shared) (σ:St) (H:Hp) (Q:Bool→Hp→Prop),Inv X pins σ H s→t σ H Q →
    wpAny (model X.prog X.w) X.A (forIn ifs true fun c r=>if r=true then do let ok ← isTrue c X.env (eval c X.env);pure (ForInStep.yield ok) else pure (ForInStep.yield r)) (TP X pins σ Q) X.xe s
noncomputable def tYes:TT:=fun _ H Q=>Q true H
theorem pifs_nil {X:Cx}:PIfs X [] tYes:=fun _ _ _ H _ I h=>wpAny_tests_nil ⟨H,I,h⟩
theorem pifs_one {X:Cx} {c:Expr} {t:TT} (h:PT X c t):PIfs X [c] t:=fun pins s σ H Q I hq=>wpAny_tests_one (h pins s σ H Q I hq)

theorem Qhq {prog:Program} {w:World} {A:Around} {R:Result→Shared→Prop} {s:Shared} {elt target iter:Expr} {ifs:List Expr} {scope:Scope} {pos:Pos} {it acc:Value} {env:Env} (I:Nat→Shared→Prop)
    (turn:∀ n s,I n s→wpAny (model prog w) A (pyNext it) (fun r s₁=>match r with
      | none=>R (.ok .next) s₁
      | some v=>wpAny (model prog w) A (letOwnedTupleGo target it v) (fun _ s₁'=>wpAny (model prog w) A (assign target env v) (fun _ s₂ =>
          wpAny (model prog w) A (forIn ifs true fun c r=>if r=true then do let ok ← isTrue c env (eval c env);pure (ForInStep.yield ok) else pure (ForInStep.yield r)) (fun ok s₃ =>
            if ok=true then wpAny (model prog w) A (eval elt env) (fun x s₄ =>
              wpAny (model prog w) A (call (.builtin "list.append") [acc,x]) (fun _ s₅=>∃ m,m < n∧I m s₅) (fun _ _=>False) s₄) (fun _ _=>False) s₃
            else ∃ m,m < n∧I m s₃) (fun _ _=>False) s₂) (fun _ _=>False) s₁') (fun _ _=>False) s₁) (fun _ _=>False) s)
    (n:Nat) (h:I n s) :
    codeAny (model prog w) A (.compLoop (.ListComp elt [⟨target,iter,ifs,0⟩] scope pos) 0 it acc env) R s:=by
  refine codeAny_loop rfl I (fun n s hI => ?_) n h
  show wpAny _ A ((compTurn (.ListComp elt [⟨target,iter,ifs,0⟩] scope pos) 0 it acc env).onRaise (fun x=>do noteFrame x env;theTreesLotGoes x)) _ _ s
  refine wpAny_noted ?_
  rw [compTurn_list]
  refine wpAny_bind (wpAny_standAt (wpAny_bind (wpAny_mono (turn n s hI) (fun r s₁ h₁ => ?_) fun _ _ h'=>h'.elim)))
  cases r with
  | none=>exact wpAny_pure h₁
  | some v =>
    refine wpAny_bind (wpAny_mono h₁ (fun _ s₁' h₁' => ?_) fun _ _ h'=>h'.elim)
    refine wpAny_bind (wpAny_mono h₁' (fun _ s₂ h₂=>wpAny_bind (wpAny_mono h₂ (fun ok s₃ h₃ => ?_) fun _ _ h'=>h'.elim)) fun _ _ h'=>h'.elim)
    cases ok with
    | false=>exact wpAny_pure ⟨rfl,h₃⟩
    | true =>
      exact wpAny_bind (wpAny_bind (wpAny_mono h₃ (fun x s₄ h₄=>wpAny_bind (wpAny_mono h₄ (fun _ s₅ h₅=>wpAny_pure (wpAny_pure ⟨rfl,h₅⟩)) fun _ _ h'=>h'.elim)) fun _ _ h'=>h'.elim))

noncomputable def StExt (σ σ':St):Prop:=σ'.length=σ.length∧∀ (i:Nat) (v:V),σ[i]?=some (some v)→σ'[i]?=some (some v)
noncomputable def Qfs (J:It) (nt:Nat) (caps:List Nat) (g:TG) (tc:TT) (te:TE) (σ:St) (H1:Hp) (Qd:Addr→Hp→Prop):Prop :=
  ∀ D,H1 D=none→∃ W:Nat→Nat→List V→Hp→Prop,(∃ m,W 0 m [] (upd H1 D (.lst []))) ∧
    ∀ i m xs H2,W i m xs H2→(J.stop i H2∧Qd D H2)∨(J.go i H2∧∀ x H3,J.yld i H2 x H3→g x (XN nt caps σ) H3 fun σ4 H4=>StExt (XN nt caps σ) σ4 ∧
      tc σ4 H4 fun b H5=>if b=true then te σ4 H5 fun v H6=>H6 D=some (.lst xs)∧xs.length < sizeLine∧∃ m',m' < m∧W (i + 1) m' (xs++[v]) (upd H6 D (.lst (xs++[v]))) else ∃ m',m' < m∧W (i + 1) m' xs H5)

theorem QjF {x:Str}:∀ (names:List (Str×NameKind)) (n:Nat) (acc:List (Str×Addr)),(x,NameKind.cell)∉names→(cellsFrom n names acc).lookup x=acc.lookup x
  | [],_,_,_=>rfl
  | (y,k) :: r,n,acc,h=>by
    have hr:(x,NameKind.cell)∉r:=fun z=>h (List.mem_cons_of_mem _ z)
    unfold cellsFrom
    split
    · rename_i hk
      have hk:k=NameKind.cell:=beq_iff_eq.mp hk
      subst hk
      rw [QjF r _ _ hr,List.lookup_cons]
      have:(x==y)=false:=by
        rw [beq_eq_false_iff_ne]
        rintro rfl
        exact h List.mem_cons_self
      rw [this]
    · exact QjF r _ _ hr
theorem QjH {x:Str} {c:Addr}:∀ (names:List (Str×NameKind)) (h:Heap) (acc:List (Str×Addr)),(cellsFrom h.objs.size names acc).lookup x=some c→acc.lookup x=some c∨(h.objs.size≤c∧(pushCells h names).IsCell c none)
  | [],_,_,e => .inl e
  | (y,k) :: r,h,acc,e=>by
    unfold cellsFrom at e
    unfold pushCells
    split at e
    · rename_i hk
      rw [if_pos hk]
      have e:(cellsFrom (h.push { cls := .type "cell",data := .cell none }).objs.size r ((y,h.objs.size) :: acc)).lookup x=some c:=by rw [Heap.size_push];exact e
      rcases QjH r _ _ e with z | ⟨z1,z2⟩
      · rw [List.lookup_cons] at z
        cases q:x==y with
        | true =>
          rw [q] at z
          cases z
          exact .inr ⟨Nat.le_refl _,_,pushCells_keeps r _ _ _ (Heap.get?_push_size _ rfl),rfl⟩
        | false=>rw [q] at z;exact .inl z
      · rw [Heap.size_push] at z1
        exact .inr ⟨by omega,z2⟩
    · rename_i hk
      rw [if_neg hk]
      exact QjH r h acc e
theorem QjG:∀ (names:List (Str×NameKind)) (n:Nat) (acc:List (Str×Addr)),(∀ x c,acc.lookup x=some c→c < n)→(∀ x y c,acc.lookup x=some c→acc.lookup y=some c→x=y)→∀ x y c,(cellsFrom n names acc).lookup x=some c→(cellsFrom n names acc).lookup y=some c→x=y
  | [],_,_,_,h2,x,y,c,e1,e2=>h2 x y c e1 e2
  | (z,k) :: r,n,acc,h1,h2,x,y,c,e1,e2=>by
    unfold cellsFrom at e1 e2
    split at e1
    · rename_i hk
      rw [if_pos hk] at e2
      refine QjG r (n + 1) ((z,n) :: acc) (fun x c e => ?_) (fun x y c e1 e2 => ?_) x y c e1 e2
      · rw [List.lookup_cons] at e
        cases q:x==z with
        | true=>rw [q] at e;cases e;exact Nat.lt_succ_self _
        | false=>rw [q] at e;exact Nat.lt_succ_of_lt (h1 x c e)
      · rw [List.lookup_cons] at e1 e2
        cases q1:x==z with
        | true =>
          cases q2:y==z with
          | true=>rw [beq_iff_eq.mp q1,beq_iff_eq.mp q2]
          | false =>
            rw [q1] at e1;rw [q2] at e2
            cases e1
            exact absurd (h1 y _ e2) (Nat.lt_irrefl _)
        | false =>
          cases q2:y==z with
          | true =>
            rw [q1] at e1;rw [q2] at e2
            cases e2
            exact absurd (h1 x _ e1) (Nat.lt_irrefl _)
          | false =>
            rw [q1] at e1;rw [q2] at e2
            exact h2 x y c e1 e2
    · rename_i hk
      rw [if_neg hk] at e2
      exact QjG r n acc h1 h2 x y c e1 e2
theorem newEnvC {M:Model} {A:Around} {E:Value→Shared→Prop} {s:Shared} {scope:Scope} {globals:Addr} {closure:List (Str×Addr)} {qual:Str} {func:Option Addr} {code:Value} {outer:Env} {builtins:Addr} {Q:Env→Shared→Prop}
    (hQ:Q (newEnv scope s.heap.objs.size globals (cellsFrom (s.heap.objs.size + 1) scope.names closure) qual func code (some outer) builtins) { s with heap:=pushCells (s.heap.push { cls := .type "dict",data := .dict #[] }) scope.names }) :
    wpAny M A (newFunctionEnv scope globals closure [] qual func code (some outer) builtins) Q E s:=by
  simp only [newFunctionEnv,Option.isSome_some,if_true]
  refine wpAny_bind (wpAny_alloc ?_)
  refine wpAny_bind (wpAny_layCells _ (fun name kind cells=>by cases hkc:kind==NameKind.cell <;> simp [hkc]) _ _ _ _ ?_)
  rw [show ({ s with heap:=s.heap.push { cls := .type "dict",data := .dict #[] } }:Shared).heap.objs.size=s.heap.objs.size + 1 from Heap.size_push ..]
  simp only [List.forIn_nil]
  exact wpAny_bind (wpAny_pure (wpAny_pure hQ))
noncomputable def ownC (scope:Scope):Str→Bool:=fun x=>scope.names.lookup x==some NameKind.cell
noncomputable def Xp (X:Cx) (fn:Str→Bool) (pins:List (Addr×Obj)) (N':List Str) (sc':Scope) (cl:List (Str×Addr)) (C:Addr) (s:Shared) (H:Hp) (fp:List Addr):Cx:={ QaD X pins N' sc' cl C s H fp with fn:=fn }
structure CompOkC (N:List Str) (osc scope:Scope) (N':List Str) (nt:Nat) (caps:List Nat):Prop where
  kind:scope.kind = .function
  nd:∀ x,(x,NameKind.cell)∈scope.names→(x,NameKind.free)∉scope.names
  locs:∀ x∈scope.names,x.2=NameKind.local→scope.names.lookup x.1=some .local
  free:∀ x∈scope.names,x.2=NameKind.free→osc.names.lookup x.1=some .cell∨osc.names.lookup x.1=some .free
  len:N'.length=nt + caps.length
  cap:∀ p∈caps.zip (N'.drop nt),N[p.1]?=some p.2∧scope.names.lookup p.2=some NameKind.free
section
variable {X:Cx} {pins:List (Addr×Obj)} {σ:St} {H:Hp} {s:Shared} {scope:Scope} {N':List Str} {nt:Nat} {caps:List Nat} {fp:List Addr}
theorem Qeh (I:Inv X pins σ H s) (ck:CompOkC X.N X.env.scope scope N' nt caps):∀ x∈scope.names,x.2=NameKind.free→∃ c,X.env.cells.lookup x.1=some c:=fun x hx hf =>
  I.ok.has x.1 (ck.free x hx hf)
theorem QeN {env:Env} {x:Str} {c:Addr}:∀ (l:List (Str×NameKind)) (acc:List (Str×Addr)),(clos env l acc).lookup x=some c→(x,NameKind.free)∈l∨acc.lookup x=some c
  | [],_,e => .inr e
  | (n,k) :: r,acc,e=>by
    by_cases hk:k=NameKind.free
    · subst hk
      simp only [clos,beq_self_eq_true,if_true] at e
      rcases QeN r _ e with z | z
      · exact .inl (List.mem_cons_of_mem _ z)
      · rw [List.lookup_cons] at z
        cases q:x==n with
        | true=>exact .inl (by rw [beq_iff_eq.mp q];exact List.mem_cons_self)
        | false=>rw [q] at z;exact .inr z
    · have hb:(k==NameKind.free)=false:=by simpa using hk
      simp only [clos,hb,Bool.false_eq_true,if_false] at e
      rcases QeN r acc e with z | z
      · exact .inl (List.mem_cons_of_mem _ z)
      · exact .inr z
theorem Qdg {osc:Scope} {x:Str}:∀ (names:List (Str×NameKind)) (k:NameKind),(k=NameKind.cell∨k=NameKind.free) →
    (names.map fun (p:Str×NameKind)=>if (p.2==NameKind.free&&osc.kind == .function&&osc.names.lookup p.1==some .cell) then (p.1,NameKind.cell) else (p.1,p.2)).lookup x=some k→names.lookup x=some NameKind.cell∨names.lookup x=some NameKind.free
  | [],_,_,e=>by cases e
  | (n,q) :: r,k,hk,e=>by
    by_cases hx:x=n
    · subst hx
      simp only [List.map_cons] at e
      split at e
      · rename_i hcnd
        simp only [Bool.and_eq_true,beq_iff_eq] at hcnd
        exact .inr (by simp [hcnd.1.1])
      · simp at e
        subst e
        rcases hk with hk | hk
        · exact .inl (by simp [hk])
        · exact .inr (by simp [hk])
    · have hb:(x==n)=false:=by simpa using hx
      simp only [List.lookup_cons,hb]
      refine Qdg (osc:=osc) r k hk ?_
      simp only [List.map_cons] at e
      split at e <;> (simp only [List.lookup_cons,hb] at e;exact e)
theorem blk_invC (I:Inv X pins σ H s) (hc:X.calm=true) (ck:CompOkC X.N X.env.scope scope N' nt caps) (hf:∀ b∈fp,FpOk X pins H b) (hlt:∀ b∈fp,b < s.heap.objs.size) {tk:Nat} :
    Inv (Xp X (ownC scope) pins N' (Zp X.env.scope scope) (cellsFrom (s.heap.objs.size + 1) scope.names (clos X.env scope.names [])) s.heap.objs.size s H fp) [] (XN nt caps σ) H { s with heap:=pushCells (s.heap.push { cls := .type "dict",data := .dict #[] }) scope.names,toks:=tk }:=by
  have fc:=Qeh I ck
  have cof:∀ x c,(clos X.env scope.names []).lookup x=some c→X.env.cells.lookup x=some c:=fun x c e=>QgF scope.names [] (fun q=>by cases q) fc e
  have old:∀ b u,s.heap.get? b=some u→(pushCells (s.heap.push { cls := .type "dict",data := .dict #[] }) scope.names).get? b=some u:=fun b u e=>pushCells_keeps _ _ b u (Heap.get?_push_of_some _ e)
  have hn:(pushCells (s.heap.push { cls := .type "dict",data := .dict #[] }) scope.names).Ns s.heap.objs.size (fun _=>none):=(Heap.Ns.new s.heap (.type "dict")).keeps (pushCells_keeps _ _)
  have clt:∀ x c,(clos X.env scope.names []).lookup x=some c→c < s.heap.objs.size:=fun x c e=>by
    obtain ⟨v,hv⟩:=I.cell x c (cof x c e)
    exact hv.lt
  have getC:∀ x c,(cellsFrom (s.heap.objs.size + 1) scope.names (clos X.env scope.names [])).lookup x=some c→(clos X.env scope.names []).lookup x=some c∨(s.heap.objs.size + 1≤c∧(pushCells (s.heap.push { cls := .type "dict",data := .dict #[] }) scope.names).IsCell c none):=fun x c e=>by
    have:=QjH (x:=x) (c:=c) scope.names (s.heap.push { cls := .type "dict",data := .dict #[] }) (clos X.env scope.names [])
    rw [Heap.size_push] at this
    exact this e
  have injC:=QjG scope.names (s.heap.objs.size + 1) (clos X.env scope.names []) (fun x c e=>Nat.lt_succ_of_lt (clt x c e)) (fun x y c h1 h2=>I.ok.inj x y c (cof x c h1) (cof y c h2))
  have fsub:∀ b∈frs X.stack,b∈X.env.locals :: X.fs:=I.stkSub
  refine ⟨⟨I.ok.mod,ck.kind,I.ok.glob,I.ok.blt,Nat.le_refl _,injC,fun x hx => ?_,fun x c hx e => ?_,fun z=>I.ok.hd z,I.ok.frames,.inl rfl,fun b hb => ?_,I.bs,Nat.le_trans I.ok.bsz I.sz,fun b u e hb => ?_,fun b hb z => ?_,I.stack,I.stkFree⟩,
    rfl,I.bare,Un.kept old,⟨_,hn,fun i x v h1 h2 h3 => ?_⟩,fun x c e => ?_,I.hok.fresh (Nat.le_refl _),fun x c e => ?_,fun p hp => ?_,I.hok.kept old,?_⟩
  · -- has
    have hx:(Zp X.env.scope scope).names.lookup x=some .cell∨(Zp X.env.scope scope).names.lookup x=some .free:=hx
    have hm:scope.names.lookup x=some NameKind.cell∨scope.names.lookup x=some NameKind.free:=by
      rcases hx with hx | hx
      · exact Qdg scope.names _ (.inl rfl) hx
      · exact Qdg scope.names _ (.inr rfl) hx
    rcases hm with hm | hm
    · exact Option.isSome_iff_exists.mp (PySem.W.cellsFrom_some scope.names _ _ (.inl hm))
    · have hmem:=PySem.mem_of_lookup hm
      obtain ⟨c,hcx⟩:=fc _ hmem rfl
      exact Option.isSome_iff_exists.mp (PySem.W.cellsFrom_some scope.names _ _ (.inr (by rw [QcJ scope.names [] (.inl hmem) fc,hcx];rfl)))
  · -- cab
    have hx:(scope.names.lookup x==some NameKind.cell)=true:=hx
    have hx:=beq_iff_eq.mp hx
    rcases getC x c e with z | z
    · exfalso
      rcases QeN scope.names [] z with q | q
      · exact ck.nd _ (PySem.mem_of_lookup hx) q
      · cases q
    · exact Nat.le_of_succ_le z.1
  · -- exf
    obtain ⟨_,f1,f2,f3,f4,_⟩:=hf b hb
    refine ⟨Nat.ne_of_lt (hlt b hb),fun x c e => ?_⟩
    rcases getC x c e with z | z
    · exact f4 x c (cof x c z)
    · exact fun q=>by
        have:=hlt b hb
        rw [← q] at this
        exact absurd (Nat.lt_of_lt_of_le (Nat.lt_succ_self _) z.1) (Nat.not_lt.mpr (Nat.le_of_lt this))
  · -- noex
    obtain ⟨_,f1,f2,f3,f4,_⟩:=hf b hb
    rcases f3 with z | z
    · exact I.ok.noex b u e z
    · exact absurd (Nat.lt_of_lt_of_le (Heap.lt_size e) (Nat.le_trans I.ok.bsz z)) (Nat.lt_irrefl _)
  · -- exfs
    obtain ⟨_,f1,f2,_⟩:=hf b hb
    rcases List.mem_cons.mp (fsub b z) with q | q
    · exact f1 q
    · exact f2 q
  · -- loc
    have h2:(XN nt caps σ)[i]?=some (some v):=h2
    have h1:N'[i]?=some x:=h1
    unfold XN at h2
    by_cases hi:i < nt
    · rw [List.getElem?_append_left (by simpa using hi),List.getElem?_replicate,if_pos hi] at h2
      cases h2
    · rw [List.getElem?_append_right (by simpa using hi),List.length_replicate,List.getElem?_map] at h2
      cases ej:caps[i - nt]? with
      | none=>rw [ej] at h2;cases h2
      | some j =>
        rw [ej] at h2
        have h2:(σ[j]?).getD none=some v:=Option.some.inj h2
        have h2':σ[j]?=some (some v):=by
          cases eq:σ[j]? with
          | none=>rw [eq] at h2;cases h2
          | some y=>rw [eq] at h2;exact congrArg some h2
        have hz:(j,x)∈caps.zip (N'.drop nt):=by
          refine List.mem_of_getElem? (i:=i - nt) ?_
          rw [List.getElem?_zip_eq_some]
          refine ⟨ej,?_⟩
          rw [List.getElem?_drop,show nt + (i - nt)=i by omega]
          exact h1
        obtain ⟨hN,hfr⟩:=ck.cap _ hz
        have hfr:scope.names.lookup x=some NameKind.free:=hfr
        have hmem:=PySem.mem_of_lookup hfr
        have hk:=ck.free _ hmem rfl
        have hk:X.env.scope.names.lookup x=some .cell∨X.env.scope.names.lookup x=some .free:=hk
        have hnc:(x,NameKind.cell)∉scope.names:=fun q=>ck.nd _ q hmem
        obtain ⟨m0,hn0,hl0⟩:=I.loc
        obtain ⟨u,ru,lk⟩:=hl0 j x v hN h2' (.inr hk)
        refine ⟨u,ru,?_⟩
        rcases lk with ⟨k0,_⟩ | ⟨_,c,ec,zc⟩
        · have k0:X.env.scope.names.lookup x=some .local:=k0
          rcases hk with hk | hk <;> (rw [k0] at hk;cases hk)
        · refine .inr ⟨?_,c,((QjF scope.names _ _ hnc).trans (QcJ scope.names [] (.inl hmem) fc)).trans ec,?_⟩
          · have h3:(Zp X.env.scope scope).names.lookup x=some .local∨(Zp X.env.scope scope).names.lookup x=some .cell∨(Zp X.env.scope scope).names.lookup x=some .free:=h3
            rcases h3 with h3 | h3 | h3
            · rcases QbZ hfr h3 with z | z <;> cases z
            · exact .inl h3
            · exact .inr h3
          · obtain ⟨ob,ho,hd⟩:=zc
            exact ⟨ob,old c ob ho,hd⟩
  · -- cell
    rcases getC x c e with z | z
    · obtain ⟨v,ob,ho,hd⟩:=I.cell x c (cof x c z)
      exact ⟨v,ob,old c ob ho,hd⟩
    · exact ⟨none,z.2⟩
  · -- freeC
    rcases getC x c e with z | z
    · exact I.freeC x c (cof x c z)
    · exact I.hok.fresh (Nat.le_of_succ_le z.1)
  · -- pin
    have hp':p∈X.pn++pins:=by
      rcases List.mem_append.mp hp with z | z
      · exact z
      · cases z
    obtain ⟨e,n,ne,nf,d⟩:=I.pin p hp'
    refine ⟨old _ _ e,n,Nat.ne_of_lt (Heap.lt_size e),fun z => ?_,d⟩
    rcases List.mem_cons.mp (fsub p.1 z) with q | q
    · exact ne q
    · exact nf q
  · -- len
    show (XN nt caps σ).length=N'.length
    unfold XN
    rw [ck.len]
    simp
end
section
variable {X:Cx} {pins:List (Addr×Obj)} {σ:St} {H:Hp} {s:Shared} {scope:Scope} {N':List Str} {nt:Nat} {caps:List Nat} {fp:List Addr} {tg iter elt:Expr} {ifs:List Expr} {pos:Pos}
theorem QfU {J:It} {it:Addr} {tn:Nat→Heap→Prop} {g:TG} {tc:TT} {te:TE} {Qd:Addr→Hp→Prop} {RR:Value→Addr→Result→Shared→Prop} {E:Value→Shared→Prop}
    (I:Inv X pins σ H s) (hc:X.calm=true) (ck:CompOkC X.N X.env.scope scope N' nt caps) (hrel:relabel scope X.env=Zp X.env.scope scope)
    (T:Turn X.prog X.w X.K tg J fp it tn) (h0:tn 0 s.heap) (hf:∀ b∈fp,FpOk X pins H b)
    (hg:∀ pins cl C s H fp,PG (Xp X (ownC scope) pins N' (Zp X.env.scope scope) cl C s H fp) tg g)
    (ht:∀ pins cl C s H fp,PIfs (Xp X (ownC scope) pins N' (Zp X.env.scope scope) cl C s H fp) ifs tc)
    (he:∀ pins cl C s H fp,PE (Xp X (ownC scope) pins N' (Zp X.env.scope scope) cl C s H fp) elt te)
    (rd:Qfs J nt caps g tc te σ H Qd)
    (hRR:∀ D C s' H',Inv X pins σ H' s'→(∃ m,s'.heap.Ns C m)→FpOk X pins H' C→Qd D H'→RR (.ref D) C (.ok .next) s') :
    wpAny (model X.prog X.w) X.A (newList []) (fun acc s₃=>wpAny (model X.prog X.w) X.A (newFunctionEnv scope X.env.globals (clos X.env scope.names []) [] X.env.qual none .none (some X.env)) (fun cenv s₄ =>
      codeAny (model X.prog X.w) X.A (.compStart (.ListComp elt [⟨tg,iter,ifs,0⟩] scope pos) 0 (.ref it) acc { cenv with scope:=relabel scope X.env }) (RR acc cenv.locals) s₄) E s₃) E s:=by
  have hD:H s.heap.objs.size=none:=I.fresh
  obtain ⟨W,⟨m0,w0⟩,turn⟩:=rd s.heap.objs.size hD
  refine wpAny_newObj_type (newEnvC ?_)
  rw [hrel]
  dsimp only
  have I3:Inv X pins σ (upd H s.heap.objs.size (.lst [])) { s with heap:=s.heap.push { cls := .type "list",data := .seq ([]:List Value).toArray } }:=I.lnew (t':=s.toks) .nil (Nat.zero_le _)
  have hlt:∀ b∈fp,b < s.heap.objs.size:=fun b hb=>by
    obtain ⟨o,e,_⟩:=T.obj 0 _ h0 b hb
    exact Heap.lt_size e
  have hf3:∀ b∈fp,FpOk X pins (upd H s.heap.objs.size (.lst [])) b:=fun b hb=>by
    obtain ⟨f0,f⟩:=hf b hb
    exact ⟨by rw [Qs (Nat.ne_of_lt (hlt b hb))];exact f0,f⟩
  have hlt3:∀ b∈fp,b < (s.heap.push { cls := .type "list",data := .seq ([]:List Value).toArray }).objs.size:=fun b hb=>by
    rw [Heap.size_push]
    exact Nat.lt_succ_of_lt (hlt b hb)
  have IB:=blk_invC (tk:=s.toks) I3 hc ck hf3 hlt3
  have keep1:∀ b o,s.heap.get? b=some o→(pushCells ((s.heap.push { cls := .type "list",data := .seq ([]:List Value).toArray }).push { cls := .type "dict",data := .dict #[] }) scope.names).get? b=some o:=fun b o e=>pushCells_keeps _ _ b o (Heap.get?_push_of_some _ (Heap.get?_push_of_some _ e))
  have st1:tn 0 (pushCells ((s.heap.push { cls := .type "list",data := .seq ([]:List Value).toArray }).push { cls := .type "dict",data := .dict #[] }) scope.names):=T.keep _ _ _ h0 fun b _ o e=>keep1 b o e
  have hg':=hg pins (cellsFrom ((s.heap.push { cls := .type "list",data := .seq ([]:List Value).toArray }).objs.size + 1) scope.names (clos X.env scope.names [])) (s.heap.push { cls := .type "list",data := .seq ([]:List Value).toArray }).objs.size { s with heap:=s.heap.push { cls := .type "list",data := .seq ([]:List Value).toArray } } (upd H s.heap.objs.size (.lst [])) fp
  have ht':=ht pins (cellsFrom ((s.heap.push { cls := .type "list",data := .seq ([]:List Value).toArray }).objs.size + 1) scope.names (clos X.env scope.names [])) (s.heap.push { cls := .type "list",data := .seq ([]:List Value).toArray }).objs.size { s with heap:=s.heap.push { cls := .type "list",data := .seq ([]:List Value).toArray } } (upd H s.heap.objs.size (.lst [])) fp
  have he':=he pins (cellsFrom ((s.heap.push { cls := .type "list",data := .seq ([]:List Value).toArray }).objs.size + 1) scope.names (clos X.env scope.names [])) (s.heap.push { cls := .type "list",data := .seq ([]:List Value).toArray }).objs.size { s with heap:=s.heap.push { cls := .type "list",data := .seq ([]:List Value).toArray } } (upd H s.heap.objs.size (.lst [])) fp
  have hY:∃ Y:Cx,Y=Xp X (ownC scope) pins N' (Zp X.env.scope scope) (cellsFrom ((s.heap.push { cls := .type "list",data := .seq ([]:List Value).toArray }).objs.size + 1) scope.names (clos X.env scope.names [])) (s.heap.push { cls := .type "list",data := .seq ([]:List Value).toArray }).objs.size { s with heap:=s.heap.push { cls := .type "list",data := .seq ([]:List Value).toArray } } (upd H s.heap.objs.size (.lst [])) fp:=⟨_,rfl⟩
  obtain ⟨Y,eY⟩:=hY
  have eP:Y.prog=X.prog:=by rw [eY];rfl
  have eW:Y.w=X.w:=by rw [eY];rfl
  have eK:Y.K=X.K:=by rw [eY];rfl
  have eA:Y.A=X.A:=by rw [eY];rfl
  have eC:Y.calm=true:=by rw [eY];exact hc
  have eE:Y.xe=fun _ _=>False:=by rw [eY];rfl
  have eEnv:Y.env=blkEnv X.env (Zp X.env.scope scope) (cellsFrom ((s.heap.push { cls := .type "list",data := .seq ([]:List Value).toArray }).objs.size + 1) scope.names (clos X.env scope.names [])) (s.heap.push { cls := .type "list",data := .seq ([]:List Value).toArray }).objs.size:=by rw [eY];rfl
  have back:∀ {H':Hp} {s':Shared},Inv Y [] (XN nt caps σ) H' s'→Inv X pins σ H' s'∧(∃ m,s'.heap.Ns (s.heap.push { cls := .type "list",data := .seq ([]:List Value).toArray }).objs.size m)∧FpOk X pins H' (s.heap.push { cls := .type "list",data := .seq ([]:List Value).toArray }).objs.size:=by
    intro H' s' IY
    subst eY
    refine ⟨I3.call' (ch:=fp) IY.os IY.base IY.hok IY.bare fun b hb => ?_,?_,I3.fpOk (Nat.le_refl _) IY.free⟩
    · obtain ⟨_,f1,_,f3,f4,f5⟩:=hf b hb
      exact ⟨f3,f1,f4,f5⟩
    · obtain ⟨m,hn,_⟩:=IY.loc
      exact ⟨m,hn⟩
  have fpY:∀ {H':Hp},(∀ b∈fp,H' b=none)→∀ b∈fp,FpOk Y [] H' b:=by
    intro H' hn b hb
    subst eY
    obtain ⟨_,f1,f2,f3,f4,f5⟩:=hf b hb
    refine ⟨hn b hb,Nat.ne_of_lt (hlt3 b hb),IB.ok.exfs b hb,.inl hb,(IB.ok.exf b hb).2,fun p hp => ?_⟩
    rcases List.mem_append.mp hp with z | z
    · exact f5 p z
    · cases z
  have IB:Inv Y [] (XN nt caps σ) (upd H s.heap.objs.size (.lst [])) { s with heap:=(pushCells ((s.heap.push { cls := .type "list",data := .seq ([]:List Value).toArray }).push { cls := .type "dict",data := .dict #[] }) scope.names),toks:=s.toks }:=by rw [eY];exact IB
  rw [← eY] at hg' ht' he'
  have loop:∀ s₃:Shared,s₃={ s with heap:=(pushCells ((s.heap.push { cls := .type "list",data := .seq ([]:List Value).toArray }).push { cls := .type "dict",data := .dict #[] }) scope.names),toks:=s.toks } →
      codeAny (model X.prog X.w) X.A (.compLoop (.ListComp elt [⟨tg,iter,ifs,0⟩] scope pos) 0 (.ref it) (.ref s.heap.objs.size) Y.env) (RR (.ref s.heap.objs.size) (s.heap.push { cls := .type "list",data := .seq ([]:List Value).toArray }).objs.size) s₃:=by
    rintro s₃ rfl
    refine Qhq (fun n s'=>∃ i xs H',Inv Y [] (XN nt caps σ) H' s'∧tn i s'.heap∧(∀ b∈fp,H' b=none)∧W i n xs H') ?_ m0 ⟨0,[],_,IB,st1,fun b hb=>(hf3 b hb).1,w0⟩
    rintro n s4 ⟨i,xs,H4,I4,st4,fr4,w4⟩
    rcases turn i n xs H4 w4 with ⟨stop,q⟩ | ⟨go,step⟩
    · have z:=T.done Y eP eW eK eC i [] s4 _ H4 (fun _ _=>False) I4 (fpY fr4) st4 stop
      rw [eA] at z
      refine thn z fun r s5 ⟨hr,I5⟩ => ?_
      subst hr
      obtain ⟨a1,a2,a3⟩:=back I5
      exact hRR _ _ s5 H4 a1 a2 a3 q
    · have z:=T.item Y eP eW eK eC i [] s4 _ H4 (fun _ _=>False) I4 (fpY fr4) st4 go
      rw [eA] at z
      refine thn z fun r s5 ⟨u,hr,h5⟩ => ?_
      subst hr
      refine thn h5 fun _ s6 ⟨x,H6,I6,r6,y6,st6,fr6⟩ => ?_
      have I6':=I6.pinned (fpY fr6) (T.obj _ _ st6)
      have again:∀ {σ7:St} {H7:Hp} {s7:Shared} {xs':List V},Inv Y ([]++Qfh fp s6.heap) σ7 H7 s7→StExt (XN nt caps σ) σ7→(∃ m',m' < n∧W (i + 1) m' xs' H7) →
          ∃ m,m < n∧∃ i xs H',Inv Y [] (XN nt caps σ) H' s7∧tn i s7.heap∧(∀ b∈fp,H' b=none)∧W i m xs H':=fun {σ7 H7 s7 xs'} I7 ex ⟨m',hm,w7⟩=>by
        refine ⟨m',hm,i + 1,xs',H7,(I7.unpinned).weak ex.1.symm ex.2,T.keep _ _ _ st6 fun b hb o e=>(I7.pin (b,o) (List.mem_append_right _ (List.mem_append_right _ (Qaw hb e)))).1,fun b hb => ?_,w7⟩
        obtain ⟨o,e,d⟩:=T.obj _ _ st6 b hb
        exact (I7.pin (b,o) (List.mem_append_right _ (List.mem_append_right _ (Qaw hb e)))).2.1
      have z2:=hg' _ s6 _ H6 x u _ I6' r6 (step x H6 y6)
      rw [eP,eW,eA,eE] at z2
      refine thn z2 fun _ s7 ⟨σ7,H7,I7,ex7,q7⟩ => ?_
      have z3:=ht' _ s7 σ7 H7 _ I7 q7
      rw [eP,eW,eA,eE] at z3
      refine thn z3 fun b s8 ⟨H8,I8,q8⟩ => ?_
      cases b with
      | false =>
        rw [if_neg Bool.false_ne_true] at q8 ⊢
        exact again I8 ex7 q8
      | true =>
        rw [if_pos rfl] at q8 ⊢
        have z4:=he' _ s8 σ7 H8 _ I8 q8
        rw [eP,eW,eA,eE] at z4
        refine thn z4 fun xv s9 ⟨v,H9,I9,r9,hD9,hl9,q9⟩ => ?_
        have z5:=ZP (X:=Y) _ s9 σ7 H9 (.ref s.heap.objs.size) [v] (.ref s.heap.objs.size) [xv] (fun _ H'=>∃ m',m' < n∧W (i + 1) m' (xs++[v]) H') I9 rfl (.cons r9 .nil) ⟨_,xs,v,rfl,rfl,hD9,hl9,q9⟩
        rw [eP,eW,eA,eE] at z5
        refine thn z5 fun _ s10 ⟨_,H10,I10,_,q10⟩ => ?_
        exact again I10 ex7 q10
  rw [eEnv] at loop
  refine codeAny_compStart_list (loop _ rfl) (T.self _ 0 _ _ _ st1 (loop _ rfl))

end
theorem CompOk.C {N:List Str} {osc scope:Scope} {N':List Str} {nt:Nat} {caps:List Nat} (ck:CompOk N osc scope N' nt caps):CompOkC N osc scope N' nt caps:=⟨ck.kind,fun x q=>absurd rfl (ck.nocell _ q),ck.locs,ck.free,ck.len,ck.cap⟩
theorem CompOk.eqC {N:List Str} {osc scope:Scope} {N':List Str} {nt:Nat} {caps:List Nat} (ck:CompOk N osc scope N' nt caps) (X:Cx):Xp X (ownC scope)=QaD X:=by
  have own:ownC scope=fun _=>false:=funext fun x=>by
    show (scope.names.lookup x==some NameKind.cell)=false
    rw [beq_eq_false_iff_ne]
    exact fun q=>ck.nocell _ (PySem.mem_of_lookup q) rfl
  rw [own];rfl
section
variable {X:Cx} {pins:List (Addr×Obj)} {σ:St} {H:Hp} {s:Shared} {scope:Scope} {N':List Str} {nt:Nat} {caps:List Nat} {fp:List Addr} {tg iter elt:Expr} {ifs:List Expr} {pos:Pos}
theorem comp_run {J:It} {it:Addr} {tn:Nat→Heap→Prop} {g:TG} {tc:TT} {te:TE} {Qd:Addr→Hp→Prop} {RR:Value→Addr→Result→Shared→Prop} {E:Value→Shared→Prop}
    (I:Inv X pins σ H s) (hc:X.calm=true) (ck:CompOk X.N X.env.scope scope N' nt caps) (hrel:relabel scope X.env=Zp X.env.scope scope)
    (T:Turn X.prog X.w X.K tg J fp it tn) (h0:tn 0 s.heap) (hf:∀ b∈fp,FpOk X pins H b)
    (hg:∀ pins cl C s H fp,PG (QaD X pins N' (Zp X.env.scope scope) cl C s H fp) tg g)
    (ht:∀ pins cl C s H fp,PIfs (QaD X pins N' (Zp X.env.scope scope) cl C s H fp) ifs tc)
    (he:∀ pins cl C s H fp,PE (QaD X pins N' (Zp X.env.scope scope) cl C s H fp) elt te)
    (rd:Qfs J nt caps g tc te σ H Qd)
    (hRR:∀ D C s' H',Inv X pins σ H' s'→(∃ m,s'.heap.Ns C m)→FpOk X pins H' C→Qd D H'→RR (.ref D) C (.ok .next) s') :
    wpAny (model X.prog X.w) X.A (newList []) (fun acc s₃=>wpAny (model X.prog X.w) X.A (newFunctionEnv scope X.env.globals (clos X.env scope.names []) [] X.env.qual none .none (some X.env)) (fun cenv s₄ =>
      codeAny (model X.prog X.w) X.A (.compStart (.ListComp elt [⟨tg,iter,ifs,0⟩] scope pos) 0 (.ref it) acc { cenv with scope:=relabel scope X.env }) (RR acc cenv.locals) s₄) E s₃) E s:=by
  have e:=ck.eqC X
  exact QfU I hc ck.C hrel T h0 hf (by rw [e];exact hg) (by rw [e];exact ht) (by rw [e];exact he) rd hRR
theorem FpOk.turn {H':Hp} {s':Shared} {C:Addr} {h':Heap} (I:Inv X pins σ H' s') (f:FpOk X pins H' C) (hs:Heap.SameBut C s'.heap h'):Inv X pins σ H' { s' with heap:=h' }:=by
  obtain ⟨f0,f1,f2,f3,f4,f5⟩:=f
  exact I.turned (t':=s'.toks) (fun b o hb e=>hs.extBut b o hb e) f0 f1 f3 f4 f5
noncomputable def tComp (wi:TI) (nt:Nat) (caps:List Nat) (g:TG) (tc:TT) (te:TE):TE:=fun σ H Q=>wi σ H fun J H1=>Qfs J nt caps g tc te σ H1 fun D H2=>Q (.ref D) H2
variable {wi:TI} {g:TG} {tc:TT} {te:TE}
theorem pe_comp (hc:X.calm=true) (ck:CompOk X.N X.env.scope scope N' nt caps) (hi:PI X tg iter wi)
    (hg:∀ pins cl C s H fp,PG (QaD X pins N' (Zp X.env.scope scope) cl C s H fp) tg g)
    (ht:∀ pins cl C s H fp,PIfs (QaD X pins N' (Zp X.env.scope scope) cl C s H fp) ifs tc)
    (he:∀ pins cl C s H fp,PE (QaD X pins N' (Zp X.env.scope scope) cl C s H fp) elt te)
    (hs:∀ x,foldedSetIterable iter X.env x=pure x:=by intro _;rfl) (hrel:relabel scope X.env=Zp X.env.scope scope:=by rfl) :
    PE X (.ListComp elt [⟨tg,iter,ifs,0⟩] scope pos) (tComp wi nt caps g tc te):=by
  intro pins s σ H Q I h
  rw [eval_ListComp]
  refine wpAny_comprehension_free (use:=none) rfl hs (QbE (QkY I ck)) ck.kind ck.locs (thn (hi pins s σ H _ I h) fun xv s₁ h₁=>thn h₁ fun itv s₂ h₂ => ?_)
  obtain ⟨it,fp,tn,J,H2,e,I2,T,st2,f2,rd⟩:=h₂
  subst e
  refine comp_run (RR:=fun acc C=>compPost (model X.prog X.w) X.A X.xe none (EP X pins σ Q) acc C) I2 hc ck hrel T st2 f2 hg ht he rd ?_
  intro D C s' H' I' hm f q
  obtain ⟨m,hm⟩:=hm
  exact ⟨m,hm,fun h' hs'=>⟨.ref D,H',FpOk.turn I' f hs',rfl,q⟩⟩
noncomputable def sSetComp (i:Nat) (wi:TI) (nt:Nat) (caps:List Nat) (g:TG) (tc:TT) (te:TE):TS:=fun D σ H=>wi σ H fun J H1=>Qfs J nt caps g tc te σ H1 fun d H2=>D.nx (σ.set i (some (.ref d))) H2
theorem Qha {i:Nat} {y:Str} {py spos:Pos} (hN:X.N.Nodup) (hi':X.N[i]?=some y) (hy:X.env.scope.names.lookup y=some .local) (hc:X.calm=true) (ck:CompOkC X.N X.env.scope scope N' nt caps) (hi:PI X tg iter wi)
    (hg:∀ pins cl C s H fp,PG (Xp X (ownC scope) pins N' (Zp X.env.scope scope) cl C s H fp) tg g)
    (ht:∀ pins cl C s H fp,PIfs (Xp X (ownC scope) pins N' (Zp X.env.scope scope) cl C s H fp) ifs tc)
    (he:∀ pins cl C s H fp,PE (Xp X (ownC scope) pins N' (Zp X.env.scope scope) cl C s H fp) elt te)
    (hsw:swapsWith (.ListComp elt [⟨tg,iter,ifs,0⟩] scope pos) (some (.Name y py)) spos.line X.env=pure true:=by rfl)
    (hs:∀ x,foldedSetIterable iter X.env x=pure x:=by intro _;rfl) (hrel:relabel scope X.env=Zp X.env.scope scope:=by rfl) :
    PS X (.Assign [.Name y py] (.ListComp elt [⟨tg,iter,ifs,0⟩] scope pos) spos) (sSetComp i wi nt caps g tc te):=by
  intro pins s σ H D I h
  rw [exec_Assign_Name_used _ _ _ _ hsw]
  refine wpAny_bind (wpAny_standAt (wpAny_bind ?_))
  show wpAny _ X.A (do let _ ← comprehension (.ListComp elt [⟨tg,iter,ifs,0⟩] scope pos) scope X.env _ (newList []) false (eval iter X.env) (some (assign (.Name y py) X.env))) _ _ s
  refine wpAny_bind (wpAny_mono (wpAny_comprehension_free (use:=some (assign (.Name y py) X.env)) (Q:=fun _ s'=>SP X pins D .next s') rfl hs (QbE (Qeh I ck)) ck.kind ck.locs
    (thn (hi pins s σ H _ I h) fun xv s₁ h₁=>thn h₁ fun itv s₂ h₂ => ?_)) (fun _ s' hq=>wpAny_pure (wpAny_pure hq)) fun _ _ e=>e)
  obtain ⟨it,fp,tn,J,H2,e,I2,T,st2,f2,rd⟩:=h₂
  subst e
  refine QfU (RR:=fun acc C=>compPost (model X.prog X.w) X.A X.xe (some (assign (.Name y py) X.env)) (fun _ s'=>SP X pins D .next s') acc C) I2 hc ck hrel T st2 f2 hg ht he rd ?_
  intro d C s' H' I' hm f q
  obtain ⟨m,hm⟩:=hm
  show wpAny _ X.A (assign (.Name y py) X.env (.ref d)) _ _ s'
  refine wpAny_assign_Name (Qfu I' hN hi' (.inl hy) (show RelV (.ref d) (.ref d) from rfl) (fun s'' I'' hs'' => ?_) (.inr hy))
  obtain ⟨a,sb,ha⟩:=hs''
  have hCa:C≠a:=by
    rcases ha with ha | ha
    · rw [ha];exact f.2.1
    · exact fun z=>f.2.2.2.2.1 _ _ ha z.symm
  exact ⟨m,hm.sameBut sb hCa,fun h' hs'=>⟨_,H',FpOk.turn I'' f hs',q⟩⟩
end
end L2.PM

noncomputable section
namespace L2.PM
open PySem PySem.Spec PyProof.Rows

inductive PV where
  | non | bl (b:Bool) | int (i:Int) | str (x:Str) | tup (xs:List PV) | lst (xs:List PV) | obj (C:Addr) (ks:List Str) (ps:List PV) | opq (a:Addr)

mutual
noncomputable def Rep (K:PySem.W.Frag) (F:Hp):PV→V→Prop
  | .non,v=>v = .non
  | .bl b,v=>v = .bl b
  | .int i,v=>v = .int i
  | .str x,v=>v = .str x
  | .tup xs,v=>∃ a vs,v = .ref a∧SqT K F a vs∧RepL K F xs vs
  | .lst xs,v=>∃ a vs,v = .ref a∧SqL K F a vs∧RepL K F xs vs
  | .obj C ks ps,v=>∃ a dx vs,v = .ref a∧F a=some (.ins C dx (ks.zip vs))∧F dx=some (.own a)∧ks.length=vs.length∧RepL K F ps vs
  | .opq a,v=>v = .ref a
noncomputable def RepL (K:PySem.W.Frag) (F:Hp):List PV→List V→Prop
  | [],vs=>vs=[]
  | x :: xs,vs=>∃ v r,vs=v :: r∧Rep K F x v∧RepL K F xs r
end

theorem _root_.L2.Same.seqT {K:PySem.W.Frag} {H H':Hp} {a:Addr} {xs:List V} (e:Same H H') (h:SqT K H a xs):SqT K H' a xs:=by
  rcases h with (h | ⟨o,h⟩) | h
  · exact .inl (.inl (e _ _ h))
  · exact .inl (.inr ⟨o,e _ _ h⟩)
  · exact .inr h

section
variable {K:PySem.W.Frag} {F F':Hp}
mutual
theorem Rep.mono (e:Same F F'):∀ {p:PV} {v:V},Rep K F p v→Rep K F' p v
  | .non,_,h=>h
  | .bl _,_,h=>h
  | .int _,_,h=>h
  | .str _,_,h=>h
  | .tup xs,_,h=>by
    unfold Rep at h ⊢
    obtain ⟨a,vs,h1,h2,h3⟩:=h
    exact ⟨a,vs,h1,e.seqT h2,RepL.mono e h3⟩
  | .lst xs,_,h=>by
    unfold Rep at h ⊢
    obtain ⟨a,vs,h1,h2,h3⟩:=h
    exact ⟨a,vs,h1,e.seq h2,RepL.mono e h3⟩
  | .obj C ks ps,_,h=>by
    unfold Rep at h ⊢
    obtain ⟨a,dx,vs,h1,h2,h3,h4,h5⟩:=h
    exact ⟨a,dx,vs,h1,e _ _ h2,e _ _ h3,h4,RepL.mono e h5⟩
  | .opq _,_,h=>h
theorem RepL.mono (e:Same F F'):∀ {ps:List PV} {vs:List V},RepL K F ps vs→RepL K F' ps vs
  | [],_,h=>h
  | x :: xs,_,h=>by
    unfold RepL at h ⊢
    obtain ⟨v,r,h1,h2,h3⟩:=h
    exact ⟨v,r,h1,Rep.mono e h2,RepL.mono e h3⟩
end
theorem RepL.nil:RepL K F [] []:=by unfold RepL;rfl
theorem RepL.cons {p:PV} {v:V} {ps:List PV} {vs:List V} (h:Rep K F p v) (t:RepL K F ps vs):RepL K F (p :: ps) (v :: vs):=by
  unfold RepL
  exact ⟨v,vs,rfl,h,t⟩
theorem RepL.length:∀ {ps:List PV} {vs:List V},RepL K F ps vs→vs.length=ps.length
  | [],_,h=>by unfold RepL at h;subst h;rfl
  | x :: xs,_,h=>by
    unfold RepL at h
    obtain ⟨v,r,rfl,_,h3⟩:=h
    simp [RepL.length h3]
theorem RepL.get:∀ {ps:List PV} {vs:List V} {i:Nat} {p:PV},RepL K F ps vs→ps[i]?=some p→∃ v,vs[i]?=some v∧Rep K F p v
  | [],_,_,_,_,e=>by simp at e
  | x :: xs,_,i,p,h,e=>by
    unfold RepL at h
    obtain ⟨v,r,rfl,h2,h3⟩:=h
    cases i with
    | zero=>simp at e;subst e;exact ⟨v,rfl,h2⟩
    | succ i =>
      obtain ⟨u,e1,e2⟩:=RepL.get (i:=i) h3 (by simpa using e)
      exact ⟨u,by simpa using e1,e2⟩
theorem RepL.back {ps:List PV} {vs:List V} {i:Nat} {v:V} (h:RepL K F ps vs) (e:vs[i]?=some v):∃ p,ps[i]?=some p∧Rep K F p v:=by
  cases q:ps[i]? with
  | none =>
    have h1:ps.length≤i:=List.getElem?_eq_none_iff.mp q
    have h2:i < vs.length:=(List.getElem?_eq_some_iff.mp e).1
    rw [h.length] at h2
    omega
  | some p =>
    obtain ⟨u,e1,e2⟩:=h.get q
    rw [e] at e1
    cases e1
    exact ⟨p,rfl,e2⟩
theorem RepL.append:∀ {ps qs:List PV} {vs us:List V},RepL K F ps vs→RepL K F qs us→RepL K F (ps++qs) (vs++us)
  | [],_,_,_,h,t=>by unfold RepL at h;subst h;exact t
  | x :: xs,_,_,_,h,t=>by
    unfold RepL at h
    obtain ⟨v,r,rfl,h2,h3⟩:=h
    exact .cons h2 (RepL.append h3 t)
theorem RepL.snoc {ps:List PV} {vs:List V} {p:PV} {v:V} (h:RepL K F ps vs) (t:Rep K F p v):RepL K F (ps++[p]) (vs++[v]):=h.append (.cons t .nil)
theorem RepL.take:∀ {ps:List PV} {vs:List V} (n:Nat),RepL K F ps vs→RepL K F (ps.take n) (vs.take n)
  | _,_,0,_=>by simpa using RepL.nil
  | [],_,n + 1,h=>by unfold RepL at h;subst h;exact .nil
  | x :: xs,_,n + 1,h=>by
    unfold RepL at h
    obtain ⟨v,r,rfl,h2,h3⟩:=h
    exact .cons h2 (RepL.take n h3)
theorem RepL.drop:∀ {ps:List PV} {vs:List V} (n:Nat),RepL K F ps vs→RepL K F (ps.drop n) (vs.drop n)
  | _,_,0,h=>by simpa using h
  | [],_,n + 1,h=>by unfold RepL at h;subst h;exact .nil
  | x :: xs,_,n + 1,h=>by
    unfold RepL at h
    obtain ⟨v,r,rfl,h2,h3⟩:=h
    simpa using RepL.drop n h3
theorem RepL.set:∀ {ps:List PV} {vs:List V} (i:Nat) {p:PV} {v:V},RepL K F ps vs→Rep K F p v→RepL K F (ps.set i p) (vs.set i v)
  | [],_,_,_,_,h,_=>by unfold RepL at h;subst h;exact .nil
  | x :: xs,_,0,_,_,h,q=>by
    unfold RepL at h
    obtain ⟨v,r,rfl,h2,h3⟩:=h
    exact .cons q h3
  | x :: xs,_,i + 1,_,_,h,q=>by
    unfold RepL at h
    obtain ⟨v,r,rfl,h2,h3⟩:=h
    exact .cons h2 (RepL.set i h3 q)
theorem RepL.reverse {ps:List PV} {vs:List V} (h:RepL K F ps vs):RepL K F ps.reverse vs.reverse:=by
  induction ps generalizing vs with
  | nil=>unfold RepL at h;subst h;exact .nil
  | cons x xs ih =>
    unfold RepL at h
    obtain ⟨v,r,rfl,h2,h3⟩:=h
    rw [List.reverse_cons,List.reverse_cons]
    exact (ih h3).append (.cons h2 .nil)
end

structure Grow (F H F' H':Hp):Prop where
  ext:Same F F'
  sub:Same F' H'
  same:Same H H'
  new:∀ a o,F' a=some o→F a=some o∨H a=none
theorem Grow.refl {F H:Hp} (h:Same F H):Grow F H F H:=⟨Same.refl _,h,Same.refl _,fun _ _ e => .inl e⟩
theorem Grow.trans {F H F1 H1 F2 H2:Hp} (a:Grow F H F1 H1) (b:Grow F1 H1 F2 H2):Grow F H F2 H2 :=
  ⟨a.ext.trans b.ext,b.sub,a.same.trans b.same,fun c o e=>by
    rcases b.new c o e with z | z
    · exact a.new c o z
    · exact .inr (a.same.free z)⟩
theorem Grow.laid {F H:Hp} {p:Addr} {o:HO} (h:Same F H) (n:H p=none):Grow F H (upd F p o) (upd H p o):=by
  have nF:F p=none:=by
    cases q:F p with
    | none=>rfl
    | some u=>rw [h p u q] at n;cases n
  refine ⟨fun a u e => ?_,fun a u e => ?_,fun a u e => ?_,fun a u e => ?_⟩
  · rw [Qs (Qt e nF)];exact e
  · by_cases z:a=p
    · subst z;rw [Qv] at e ⊢;exact e
    · rw [Qs z] at e ⊢;exact h a u e
  · rw [Qs (Qt e n)];exact e
  · by_cases z:a=p
    · subst z;exact .inr n
    · rw [Qs z] at e;exact .inl e
theorem Grow.side {F H:Hp} {p:Addr} {o:HO} (h:Same F H) (n:H p=none):Grow F H F (upd H p o):=by
  refine ⟨Same.refl _,fun a u e => ?_,fun a u e => ?_,fun a u e => .inl e⟩
  · rw [Qs (Qt (h a u e) n)];exact h a u e
  · rw [Qs (Qt e n)];exact e

inductive Slot where
  | un | fz (p:PV) | ow (xs:List PV)
noncomputable abbrev PEnv:=List Slot
noncomputable def Slot.val:Slot→Option PV
  | .un=>none
  | .fz p=>some p
  | .ow xs=>some (.lst xs)
noncomputable def getV (γ:PEnv) (i:Nat):Option PV:=(γ[i]?).bind Slot.val
noncomputable def ERep (K:PySem.W.Frag) (F:Hp) (σ:St) (γ:PEnv) (ms:List Nat):Prop:=∀ i∈ms,∀ p,getV γ i=some p→∃ v,σ[i]?=some (some v)∧Rep K F p v
theorem ERep.mono {K:PySem.W.Frag} {F F':Hp} {σ:St} {γ:PEnv} {ms:List Nat} (h:ERep K F σ γ ms) (e:Same F F'):ERep K F' σ γ ms:=fun i hi p hp=>by
  obtain ⟨v,h1,h2⟩:=h i hi p hp
  exact ⟨v,h1,h2.mono e⟩
theorem ERep.left {K:PySem.W.Frag} {F:Hp} {σ:St} {γ:PEnv} {ms ns:List Nat} (h:ERep K F σ γ (ms++ns)):ERep K F σ γ ms:=fun i hi=>h i (List.mem_append_left _ hi)
theorem ERep.right {K:PySem.W.Frag} {F:Hp} {σ:St} {γ:PEnv} {ms ns:List Nat} (h:ERep K F σ γ (ms++ns)):ERep K F σ γ ns:=fun i hi=>h i (List.mem_append_right _ hi)

noncomputable def Wv (K:PySem.W.Frag) (F H:Hp) (r:PV) (Q:VK):Prop:=∀ v H' F',Grow F H F' H'→Rep K F' r v→Q v H'
noncomputable def Wo (K:PySem.W.Frag) (F H:Hp) (xs:List PV) (Q:VK):Prop:=∀ a vs H' F',Grow F H F' H'→H a=none→F' a=none→H' a=some (.lst vs)→RepL K F' xs vs→Q (.ref a) H'
theorem Wv.go {K:PySem.W.Frag} {F H F' H':Hp} {r:PV} {Q:VK} (w:Wv K F H r Q) (g:Grow F H F' H'):Wv K F' H' r Q:=fun v H2 F2 g2=>w v H2 F2 (g.trans g2)
theorem Wo.go {K:PySem.W.Frag} {F H F' H':Hp} {r:List PV} {Q:VK} (w:Wo K F H r Q) (g:Grow F H F' H'):Wo K F' H' r Q:=fun a vs H2 F2 g2 n=>w a vs H2 F2 (g.trans g2) (g.same.free n)
theorem Wv.of_lst {K:PySem.W.Frag} {F H:Hp} {xs:List PV} {Q:VK} (w:Wv K F H (.lst xs) Q):Wo K F H xs Q:=by
  intro a vs H' F' g n nF e r
  have gx:Same F' (upd F' a (.lst vs)):=fun b u q=>by rw [Qs (Qt q nF)];exact q
  refine w (.ref a) H' (upd F' a (.lst vs)) ⟨g.ext.trans gx,fun b u q => ?_,g.same,fun b u q => ?_⟩ ?_
  · by_cases z:b=a
    · subst z;rw [Qv] at q;rw [e];exact q
    · rw [Qs z] at q;exact g.sub b u q
  · by_cases z:b=a
    · subst z;exact .inr n
    · rw [Qs z] at q;exact g.new b u q
  · unfold Rep
    exact ⟨a,vs,rfl,.of Qv,r.mono gx⟩
theorem Wv.here {K:PySem.W.Frag} {F H:Hp} {r:PV} {Q:VK} {v:V} (w:Wv K F H r Q) (h:Same F H) (q:Rep K F r v):Q v H:=w v H F (.refl h) q

noncomputable abbrev MEx:=PEnv→Option PV
noncomputable def tM (K:PySem.W.Frag) (ms:List Nat) (m:MEx):TE:=fun σ H Q=>∃ F γ r,Same F H∧ERep K F σ γ ms∧m γ=some r∧Wv K F H r Q
noncomputable def tMO (K:PySem.W.Frag) (ms:List Nat) (m:PEnv→Option (List PV)):TE:=fun σ H Q=>∃ F γ r,Same F H∧ERep K F σ γ ms∧m γ=some r∧Wo K F H r Q
noncomputable def tMT (K:PySem.W.Frag) (ms:List Nat) (m:PEnv→Option Bool):TT:=fun σ H Q=>∃ F γ r,Same F H∧ERep K F σ γ ms∧m γ=some r∧∀ H' F',Grow F H F' H'→Q r H'
noncomputable def tMA (K:PySem.W.Frag) (ms:List Nat) (m:PEnv→Option (List PV)):TA:=fun σ H Q=>∃ F γ r,Same F H∧ERep K F σ γ ms∧m γ=some r∧∀ vs H' F',Grow F H F' H'→RepL K F' r vs→Q vs H'
noncomputable def EM (X:Cx) (ms:List Nat) (e:Expr) (m:MEx):Prop:=PE X e (tM X.K ms m)
noncomputable def EO (X:Cx) (ms:List Nat) (e:Expr) (m:PEnv→Option (List PV)):Prop:=PE X e (tMO X.K ms m)
noncomputable def TM (X:Cx) (ms:List Nat) (e:Expr) (m:PEnv→Option Bool):Prop:=PT X e (tMT X.K ms m)
noncomputable def AM (X:Cx) (ms:List Nat) (es:List Expr) (m:PEnv→Option (List PV)):Prop:=PA X es (tMA X.K ms m)

section
variable {X:Cx} {e a b:Expr} {es:List Expr} {ms ns:List Nat} {m m1 m2:MEx} {pos:Pos}
theorem _root_.L2.PE.imp {t t':TE} (h:PE X e t) (i:∀ σ H Q,t' σ H Q→t σ H Q):PE X e t':=fun pins s σ H Q I q=>h pins s σ H Q I (i σ H Q q)
theorem _root_.L2.PT.imp {t t':TT} (h:PT X e t) (i:∀ σ H Q,t' σ H Q→t σ H Q):PT X e t':=fun pins s σ H Q I q=>h pins s σ H Q I (i σ H Q q)
theorem _root_.L2.PA.imp {t t':TA} (h:PA X es t) (i:∀ σ H Q,t' σ H Q→t σ H Q):PA X es t':=fun pos pins s σ H Q I q=>h pos pins s σ H Q I (i σ H Q q)
theorem _root_.L2.PS.imp {st:Stmt} {t t':TS} (h:PS X st t) (i:∀ D σ H,t' D σ H→t D σ H):PS X st t':=fun pins s σ H D I q=>h pins s σ H D I (i D σ H q)

noncomputable def mLst (m:PEnv→Option (List PV)):MEx:=fun γ=>(m γ).map PV.lst
theorem EO.em {m:PEnv→Option (List PV)} (h:EO X ms e m):EM X ms e (mLst m):=PE.imp h fun σ H Q ⟨F,γ,r,h1,h2,h3,w⟩=>by
  unfold mLst at h3
  cases q:m γ with
  | none=>rw [q] at h3;cases h3
  | some xs =>
    rw [q] at h3
    cases h3
    exact ⟨F,γ,xs,h1,h2,q,w.of_lst⟩

noncomputable def mVar (i:Nat):MEx:=fun γ=>getV γ i
noncomputable def mC (p:PV):MEx:=fun _=>some p
theorem Qa (i:Nat) {x:Str} (h:PE X (.Name x pos) (tVar i)):EM X [i] (.Name x pos) (mVar i):=PE.imp h fun σ H Q ⟨F,γ,r,h1,h2,h3,w⟩=>by
  obtain ⟨v,e1,e2⟩:=h2 i (by simp) r h3
  exact ⟨v,e1,w.here h1 e2⟩
theorem Qi {i j pos}:EM X [] (.Constant (.int i) j pos) (mC (.int i)):=PE.imp pe_int fun σ H Q ⟨F,γ,r,h1,h2,h3,w⟩=>by
  cases h3;exact w.here h1 (by unfold Rep;rfl)
theorem QeS {i j pos}:EM X [] (.Constant (.bool i) j pos) (mC (.bl i)):=PE.imp pe_bl fun σ H Q ⟨F,γ,r,h1,h2,h3,w⟩=>by
  cases h3;exact w.here h1 (by unfold Rep;rfl)
theorem Qfm {j pos}:EM X [] (.Constant .none j pos) (mC .non):=PE.imp pe_non fun σ H Q ⟨F,γ,r,h1,h2,h3,w⟩=>by
  cases h3;exact w.here h1 (by unfold Rep;rfl)
theorem Yb {i j pos}:EM X [] (.Constant (.str i) j pos) (mC (.str i)):=PE.imp pe_str fun σ H Q ⟨F,γ,r,h1,h2,h3,w⟩=>by
  cases h3;exact w.here h1 (by unfold Rep;rfl)

noncomputable def rM2 (K:PySem.W.Frag) (f:PV→PV→Option PV):R2:=fun x y H Q=>∃ F p q r,Same F H∧Rep K F p x∧Rep K F q y∧f p q=some r∧Wv K F H r Q
noncomputable def rM2O (K:PySem.W.Frag) (f:PV→PV→Option (List PV)):R2:=fun x y H Q=>∃ F p q r,Same F H∧Rep K F p x∧Rep K F q y∧f p q=some r∧Wo K F H r Q
noncomputable def bin2 (f:PV→PV→Option α) (m1 m2:MEx):PEnv→Option α:=fun γ=>(m1 γ).bind fun x=>(m2 γ).bind fun y=>f x y
theorem QgI {K:PySem.W.Frag} {f:PV→PV→Option PV} {σ:St} {H:Hp} {Q:VK} (h:tM K (ms++ns) (bin2 f m1 m2) σ H Q):tOp (rM2 K f) (tM K ms m1) (tM K ns m2) σ H Q:=by
  obtain ⟨F,γ,r,h1,h2,h3,w⟩:=h
  unfold bin2 at h3
  cases e1:m1 γ with
  | none=>rw [e1] at h3;cases h3
  | some x =>
    cases e2:m2 γ with
    | none=>rw [e1,e2] at h3;cases h3
    | some y =>
      rw [e1,e2] at h3
      refine ⟨F,γ,x,h1,h2.left,e1,fun vx H1 F1 g1 r1=>⟨F1,γ,y,g1.sub,h2.right.mono g1.ext,e2,fun vy H2 F2 g2 r2 => ?_⟩⟩
      exact ⟨F2,x,y,r,g2.sub,r1.mono g2.ext,r2,h3,w.go (g1.trans g2)⟩
theorem tOpO_of {K:PySem.W.Frag} {f:PV→PV→Option (List PV)} {σ:St} {H:Hp} {Q:VK} (h:tMO K (ms++ns) (bin2 f m1 m2) σ H Q):tOp (rM2O K f) (tM K ms m1) (tM K ns m2) σ H Q:=by
  obtain ⟨F,γ,r,h1,h2,h3,w⟩:=h
  unfold bin2 at h3
  cases e1:m1 γ with
  | none=>rw [e1] at h3;cases h3
  | some x =>
    cases e2:m2 γ with
    | none=>rw [e1,e2] at h3;cases h3
    | some y =>
      rw [e1,e2] at h3
      refine ⟨F,γ,x,h1,h2.left,e1,fun vx H1 F1 g1 r1=>⟨F1,γ,y,g1.sub,h2.right.mono g1.ext,e2,fun vy H2 F2 g2 r2 => ?_⟩⟩
      exact ⟨F2,x,y,r,g2.sub,r1.mono g2.ext,r2,h3,w.go (g1.trans g2)⟩
noncomputable def OpM (X:Cx) (g:Value→Value→Sem Value) (f:PV→PV→Option PV):Prop:=OpR X g (rM2 X.K f)
noncomputable def OpO (X:Cx) (g:Value→Value→Sem Value) (f:PV→PV→Option (List PV)):Prop:=OpR X g (rM2O X.K f)
theorem Qo {op:Operator} {f:PV→PV→Option PV} (ho:OpM X (binaryOp op) f) (ha:EM X ms a m1) (hb:EM X ns b m2):EM X (ms++ns) (.BinOp a op b pos) (bin2 f m1 m2) :=
  PE.imp (pe_op ho ha hb) fun _ _ _ h=>QgI h
theorem Qly {op:Operator} {f:PV→PV→Option (List PV)} (ho:OpO X (binaryOp op) f) (ha:EM X ms a m1) (hb:EM X ns b m2):EO X (ms++ns) (.BinOp a op b pos) (bin2 f m1 m2) :=
  PE.imp (pe_op ho ha hb) fun _ _ _ h=>tOpO_of h
theorem QjE {op:CmpOp} {f:PV→PV→Option PV} (ho:OpM X (compareOp op) f) (ha:EM X ms a m1) (hb:EM X ns b m2) (hm:behindInMarks op b=false):EM X (ms++ns) (.Compare a [op] [b] pos) (bin2 f m1 m2) :=
  PE.imp (pe_cmpR ho ha hb hm) fun _ _ _ h=>QgI h
theorem Zu {f:PV→PV→Option PV} (ho:IxR X (rM2 X.K f)) (ha:EM X ms a m1) (hb:EM X ns b m2) (hs:Qkl b):EM X (ms++ns) (.Subscript a b pos) (bin2 f m1 m2) :=
  PE.imp (pe_ix ho ha hb hs) fun _ _ _ h=>QgI h

noncomputable def isB:PV→Option Bool
  | .bl b=>some b
  | _=>none
noncomputable def truB (m:MEx):PEnv→Option Bool:=fun γ=>(m γ).bind isB
theorem tTest_of {K:PySem.W.Frag} {t:TE} {σ:St} {H:Hp} {Q:Bool→Hp→Prop} (ht:∀ Q,tM K ms m σ H Q→t σ H Q) (h:tMT K ms (truB m) σ H Q):tTest t σ H Q:=by
  obtain ⟨F,γ,r,h1,h2,h3,w⟩:=h
  unfold truB at h3
  cases e1:m γ with
  | none=>rw [e1] at h3;cases h3
  | some x =>
    rw [e1] at h3
    cases x with
    | bl b =>
      obtain rfl:b=r:=Option.some.inj h3
      refine ht _ ⟨F,γ,.bl b,h1,h2,e1,fun v H' F' g q => ?_⟩
      unfold Rep at q
      exact ⟨b,q,w H' F' g⟩
    | _=>cases h3
theorem Zj {op:CmpOp} {f:PV→PV→Option PV} (ho:OpM X (compareOp op) f) (ha:EM X ms a m1) (hb:EM X ns b m2) (hm:behindInMarks op b=false):TM X (ms++ns) (.Compare a [op] [b] pos) (truB (bin2 f m1 m2)) :=
  PT.imp (pt_cmpR ho ha hb hm) fun _ _ _ h=>tTest_of (fun _=>QgI) h
end
end L2.PM

noncomputable section
namespace L2.PM
open PySem PySem.Spec PyProof.Rows

noncomputable abbrev LIM:Nat:=1000000
theorem Yl:LIM≤sizeLine:=by decide
theorem QS {α:Type} {c:Prop} [Decidable c] {a r:α} (h:(if c then some a else none)=some r):c∧a=r:=by
  by_cases k:c
  · rw [if_pos k] at h;exact ⟨k,Option.some.inj h⟩
  · rw [if_neg k] at h;cases h

section
variable {X:Cx}
noncomputable def iop (C:Int→Int→Bool) (g:Int→Int→PV):PV→PV→Option PV
  | .int i,.int j=>if C i j=true then some (g i j) else none
  | _,_=>none
theorem Qke {C:Int→Int→Bool} {g:Int→Int→PV} {p q r:PV} (h:iop C g p q=some r):∃ i j,p = .int i∧q = .int j∧C i j=true∧r=g i j:=by
  cases p <;> cases q <;> first
    | (exfalso;cases h;done)
    | (rename_i i j
       have h:(if C i j=true then some (g i j) else none)=some r:=h
       obtain ⟨c,e⟩:=QS h
       exact ⟨i,j,rfl,rfl,c,e.symm⟩)
theorem Qjn {f:Value→Value→Sem Value} {C':Int→Int→Prop} {C:Int→Int→Bool} {g:Int→Int→PV} {gv:Int→Int→V} (ho:OpR X f (rI C' gv)) (hc:∀ i j,C i j=true→C' i j) (hg:∀ i j K F,Rep K F (g i j) (gv i j)):OpM X f (iop C g):=by
  intro pins s σ H x y v u Q I rx ry h
  obtain ⟨F,p,q,r,h1,h2,h3,h4,w⟩:=h
  obtain ⟨i,j,rfl,rfl,c,rfl⟩:=Qke h4
  unfold Rep at h2 h3
  exact ho pins s σ H x y v u Q I rx ry ⟨i,j,h2,h3,hc i j c,w.here h1 (hg i j _ _)⟩
theorem QdP {f:Value→Value→Sem Value} {g:Int→Int→PV} {gv:Int→Int→V} (ho:OpR X f (rI0 gv)) (hg:∀ i j K F,Rep K F (g i j) (gv i j)):OpM X f (iop (fun _ _=>true) g):=by
  intro pins s σ H x y v u Q I rx ry h
  obtain ⟨F,p,q,r,h1,h2,h3,h4,w⟩:=h
  obtain ⟨i,j,rfl,rfl,c,rfl⟩:=Qke h4
  unfold Rep at h2 h3
  exact ho pins s σ H x y v u Q I rx ry ⟨i,j,h2,h3,w.here h1 (hg i j _ _)⟩
theorem QZ {K:PySem.W.Frag} {F:Hp} (i:Int):Rep K F (.int i) (.int i):=by unfold Rep;rfl
theorem Yt {K:PySem.W.Frag} {F:Hp} (i:Bool):Rep K F (.bl i) (.bl i):=by unfold Rep;rfl
theorem QcQ {K:PySem.W.Frag} {F:Hp} (i:Str):Rep K F (.str i) (.str i):=by unfold Rep;rfl
theorem QjO {K:PySem.W.Frag} {F:Hp}:Rep K F .non .non:=by unfold Rep;rfl
noncomputable def pSub:=iop (fun _ _=>true) fun i j => .int (i - j)
noncomputable def cls (p:Prop):Bool := @decide p (Classical.propDecidable p)
theorem QcX {p:Prop} (h:cls p=true):p := @of_decide_eq_true p (Classical.propDecidable p) h
theorem Qfp {p:Prop} (h:p):cls p=true := @decide_eq_true p (Classical.propDecidable p) h
noncomputable def cMul (i j:Int):Bool:=cls (-(2 ^ 64) < i∧i < 2 ^ 64)||cls (-(2 ^ 64) < j∧j < 2 ^ 64)
noncomputable def cDiv (_ j:Int):Bool:=cls (0 < j∧j < 2 ^ 200)
noncomputable def cPos (_ j:Int):Bool:=decide (0 < j)
noncomputable def cNn (_ j:Int):Bool:=decide (0≤j)
noncomputable def cPow (i j:Int):Bool:=cls (0≤j∧j≤1000000∧i.natAbs < 2 ^ 64)
noncomputable def pMul:=iop cMul fun i j => .int (i * j)
noncomputable def pDiv:=iop cDiv fun i j => .int (i / j)
noncomputable def pMod:=iop cPos fun i j => .int (i % j)
noncomputable def pShl:=iop cPow fun i j => .int (i * 2 ^ j.toNat)
noncomputable def pShr:=iop cNn fun i j => .int (i / 2 ^ j.toNat)
noncomputable def pAnd:=iop (fun _ _=>true) fun i j => .int (Builtin.bitAnd i j)
noncomputable def pOr:=iop (fun _ _=>true) fun i j => .int (Builtin.bitOr i j)
noncomputable def pLt:=iop (fun _ _=>true) fun i j => .bl (decide (i < j))
noncomputable def pGt:=iop (fun _ _=>true) fun i j => .bl (decide (j < i))
theorem QdQ:OpM X (binaryOp .Sub) pSub:=QdP op_sub fun _ _ _ _=>QZ _
theorem cMul_ok {i j:Int} (h:cMul i j=true):CMul i j:=by
  unfold cMul at h
  rw [Bool.or_eq_true] at h
  exact h.imp QcX QcX
theorem Qba:OpM X (binaryOp .Mult) pMul:=Qjn op_mul (fun _ _ h=>cMul_ok h) fun _ _ _ _=>QZ _
theorem div_log {j:Int} (h0:0 < j) (h:j < 2 ^ 200):j.natAbs.log2 < 9000:=by
  have h1:j.natAbs < 2 ^ 200:=by omega
  have h2:j.natAbs.log2 < 200:=(Nat.log2_lt (by omega)).mpr h1
  omega
theorem op_fdivL:OpR X (binaryOp .FloorDiv) (rI (fun _ j=>0 < j∧j < 2 ^ 200) fun i j => .int (i / j)):=opI fun i j _ _ _ _ _ hc q=>by
  have h1:(0:Int) < j:=hc.1
  exact floordiv_int (by omega) (by rw [Int.fdiv_eq_ediv_of_nonneg i (by omega)];exact q) (.inl (PyProof.noPylong_of_log2 (div_log h1 hc.2)))
theorem QjB:OpM X (binaryOp .FloorDiv) pDiv:=Qjn op_fdivL (fun _ _ h=>QcX h) fun _ _ _ _=>QZ _
theorem Zk:OpM X (binaryOp .Mod) pMod:=Qjn op_mod (fun _ _ h=>of_decide_eq_true h) fun _ _ _ _=>QZ _
theorem QcB:OpM X (binaryOp .LShift) pShl:=Qjn op_shl (fun i j h=>QcX (p:=0≤j∧j≤1000000∧i.natAbs < 2 ^ 64) h) fun _ _ _ _=>QZ _
theorem om_shr:OpM X (binaryOp .RShift) pShr:=Qjn op_shr (fun _ _ h=>of_decide_eq_true h) fun _ _ _ _=>QZ _
theorem QdR:OpM X (binaryOp .BitAnd) pAnd:=QdP op_and fun _ _ _ _=>QZ _
theorem om_or:OpM X (binaryOp .BitOr) pOr:=QdP op_or fun _ _ _ _=>QZ _
theorem om_ior:OpM X (inplaceOp .BitOr) pOr:=QdP iop_or fun _ _ _ _=>QZ _
theorem Qlr:OpM X (compareOp .Lt) pLt:=QdP op_lt fun _ _ _ _=>Yt _
theorem om_gt:OpM X (compareOp .Gt) pGt:=QdP op_gt fun _ _ _ _=>Yt _
theorem op_catS:OpR X (binaryOp .Add) (fun x y H Q=>∃ l b xs zs,x = .ref l∧y = .ref b∧SqL X.K H l xs∧SqL X.K H b zs∧xs.length + zs.length≤sizeLine∧∀ p,H p=none→Q (.ref p) (upd H p (.lst (xs++zs)))):=by
  intro pins s σ H x y v u Q I rx ry h
  obtain ⟨l,b,xs,zs,rfl,rfl,hH,hB,hz,q⟩:=h
  cases rx
  cases ry
  obtain ⟨its,r,⟨⟨cls,dd,data,sl⟩,n,e,c,_,d⟩,_⟩:=I.list hH
  obtain ⟨its2,r2,⟨⟨cls2,dd2,data2,sl2⟩,n2,e2,c2,_,d2⟩,_⟩:=I.list hB
  simp only at c d c2 d2
  subst c d c2 d2
  have hsz:its.toArray.size + its2.toArray.size≤sizeLine:=by rw [List.size_toArray,List.size_toArray,← r.length,← r2.length];exact hz
  have ea:its.toArray++its2.toArray=(its++its2).toArray:=by simp
  refine concat_meets ⟨_,e,rfl⟩ ⟨_,e2,rfl⟩ noFill_list_add seq_list_add PySem.F.slot_list_add PySem.F.entry_list_add (PySem.F.args_list_add_2 _ _)
    (list_addW l b its.toArray its2.toArray n n2 dd dd2 sl sl2 hsz) ⟨e,e2,?_⟩
  rw [ea]
  exact ⟨.ref _,_,I.lnew (t':=s.toks) (r.append r2) (by rw [List.length_append];omega),rfl,q _ I.fresh⟩
noncomputable def pCat:PV→PV→Option (List PV)
  | .lst a,.lst b=>if a.length + b.length≤LIM then some (a++b) else none
  | _,_=>none
theorem QgN:OpO X (binaryOp .Add) pCat:=by
  intro pins s σ H x y v u Q I rx ry h
  obtain ⟨F,p,q,r,h1,h2,h3,h4,w⟩:=h
  cases p <;> cases q <;> first
    | (exfalso;cases h4;done)
    | skip
  rename_i xs ys
  have h4:(if xs.length + ys.length≤LIM then some (xs++ys) else none)=some r:=h4
  obtain ⟨c,rfl⟩:=QS h4
  unfold Rep at h2 h3
  obtain ⟨a,vs,rfl,sa,ra⟩:=h2
  obtain ⟨b,us,rfl,sb,rb⟩:=h3
  refine op_catS pins s σ H _ _ v u Q I rx ry ⟨a,b,vs,us,rfl,rfl,h1.seq sa,h1.seq sb,by rw [ra.length,rb.length];exact Nat.le_trans c Yl,fun p hp => ?_⟩
  have nF:F p=none:=h1.free hp
  exact w p _ _ F (.side h1 hp) hp nF Qv (ra.append rb)
noncomputable def pAdd:PV→PV→Option PV
  | .int i,.int j=>some (.int (i + j))
  | .str a,.str b=>if a.length + b.length≤LIM then some (.str (a++b)) else none
  | _,_=>none
theorem Qu:OpM X (binaryOp .Add) pAdd:=by
  intro pins s σ H x y v u Q I rx ry h
  obtain ⟨F,p,q,r,h1,h2,h3,h4,w⟩:=h
  cases p <;> cases q <;> first
    | (exfalso;cases h4;done)
    | skip
  · cases h4
    unfold Rep at h2 h3
    exact op_add pins s σ H x y v u Q I rx ry ⟨_,_,h2,h3,w.here h1 (QZ _)⟩
  · rename_i a b
    have h4:(if a.length + b.length≤LIM then some (PV.str (a++b)) else none)=some r:=h4
    obtain ⟨c,rfl⟩:=QS h4
    unfold Rep at h2 h3
    exact QiH pins s σ H x y v u Q I rx ry ⟨_,_,h2,h3,Nat.le_trans c Yl,w.here h1 (QcQ _)⟩
end
end L2.PM

noncomputable section
namespace L2.PM
open PySem PySem.Spec PyProof.Rows

mutual
noncomputable def peq:PV→PV→Bool
  | .non,.non=>true
  | .bl a,.bl b=>a==b
  | .bl a,.int b=>(if a then 1 else 0)==b
  | .int a,.bl b=>a==(if b then 1 else 0)
  | .int a,.int b=>a==b
  | .str a,.str b=>a==b
  | .tup xs,.tup ys=>peqL xs ys
  | .lst xs,.lst ys=>peqL xs ys
  | .obj C ks ps,.obj D ls qs=>(C==D&&ks==ls)&&peqL ps qs
  | .opq a,.opq b=>a==b
  | _,_=>false
noncomputable def peqL:List PV→List PV→Bool
  | [],[]=>true
  | x :: xs,y :: ys=>peq x y&&peqL xs ys
  | _,_=>false
end
mutual
noncomputable def dep:PV→Nat
  | .tup xs=>depL xs + 1
  | .lst xs=>depL xs + 1
  | .obj _ _ _=>1000
  | .opq _=>1000
  | _=>0
noncomputable def depL:List PV→Nat
  | []=>0
  | x :: xs=>max (dep x) (depL xs)
end
theorem Qbu:∀ {xs:List PV} {j:Nat} {p:PV},xs[j]?=some p→dep p≤depL xs
  | [],_,_,e=>by simp at e
  | x :: xs,0,p,e=>by
    simp at e;subst e
    unfold depL
    exact Nat.le_max_left _ _
  | x :: xs,j + 1,p,e=>by
    have:=Qbu (xs:=xs) (j:=j) (by simpa using e)
    unfold depL
    exact Nat.le_trans this (Nat.le_max_right _ _)
mutual
theorem QeC:∀ p:PV,peq p p=true
  | .non=>rfl
  | .bl a=>by show (a==a)=true;simp
  | .int a=>by show (a==a)=true;simp
  | .str a=>by show (a==a)=true;simp
  | .tup xs=>Xn xs
  | .lst xs=>Xn xs
  | .obj C ks ps=>by show ((C==C&&ks==ks)&&peqL ps ps)=true;rw [Xn ps];simp
  | .opq a=>by show (a==a)=true;simp
theorem Xn:∀ xs:List PV,peqL xs xs=true
  | []=>by first | rfl | simp [peqL]
  | x :: xs=>by
    first | rw [show peqL (x :: xs) (y :: ys)=(peq x y&&peqL xs ys) from rfl] | rw [show peqL (x :: xs) (x :: xs)=(peq x x&&peqL xs xs) from rfl]
    rw [QeC x,Xn xs]
    rfl
end
noncomputable def eAt (xs ys:List PV) (j:Nat):Bool:=match xs[j]?,ys[j]? with
  | some p,some q=>peq p q
  | _,_=>true
theorem QdV (n:Nat) (e:Nat→Bool):(List.range (n + 1)).all e=(e 0&&(List.range n).all fun j=>e (j + 1)):=by
  rw [List.range_succ_eq_map,List.all_cons,List.all_map]
  rfl
theorem Qav:∀ (xs ys:List PV),((List.range (min xs.length ys.length)).all (eAt xs ys)&&(xs.length==ys.length))=peqL xs ys
  | [],[]=>by first | rfl | simp [peqL]
  | [],y :: ys=>by first | rfl | simp [peqL]
  | x :: xs,[]=>by first | rfl | simp [peqL]
  | x :: xs,y :: ys=>by
    have ih:=Qav xs ys
    first | rw [show peqL (x :: xs) (y :: ys)=(peq x y&&peqL xs ys) from rfl] | rw [show peqL (x :: xs) (x :: xs)=(peq x x&&peqL xs xs) from rfl]
    rw [← ih]
    have e1:min (x :: xs).length (y :: ys).length=min xs.length ys.length + 1:=by
      simp only [List.length_cons];omega
    rw [e1,QdV]
    have e2:eAt (x :: xs) (y :: ys) 0=peq x y:=by simp [eAt]
    have e3:(fun j=>eAt (x :: xs) (y :: ys) (j + 1))=eAt xs ys:=by
      funext j
      simp [eAt]
    have e4:((x :: xs).length==(y :: ys).length)=(xs.length==ys.length):=by
      rw [Bool.eq_iff_iff];simp
    rw [e2,e3,e4,Bool.and_assoc]

section
variable {X:Cx} {pins:List (Addr×Obj)} {σ:St} {H F:Hp} {s:Shared}
mutual
theorem Rep.inj (I:Inv X pins σ H s) (hF:Same F H):∀ {p q:PV} {v:V},dep p < 1000→dep q < 1000→Rep X.K F p v→Rep X.K F q v→p=q
  | .non,q,v,_,dq,h,k=>by
    unfold Rep at h;subst h
    cases q <;> unfold Rep at k <;> first | rfl | (cases k;done) | (obtain ⟨_,_,k,_⟩:=k;cases k;done) | (obtain ⟨_,_,_,k,_⟩:=k;cases k;done)
  | .bl b,q,v,_,dq,h,k=>by
    unfold Rep at h;subst h
    cases q <;> unfold Rep at k <;> first | (cases k;done) | (cases k;rfl) | (obtain ⟨_,_,k,_⟩:=k;cases k;done) | (obtain ⟨_,_,_,k,_⟩:=k;cases k;done)
  | .int b,q,v,_,dq,h,k=>by
    unfold Rep at h;subst h
    cases q <;> unfold Rep at k <;> first | (cases k;done) | (cases k;rfl) | (obtain ⟨_,_,k,_⟩:=k;cases k;done) | (obtain ⟨_,_,_,k,_⟩:=k;cases k;done)
  | .str b,q,v,_,dq,h,k=>by
    unfold Rep at h;subst h
    cases q <;> unfold Rep at k <;> first | (cases k;done) | (cases k;rfl) | (obtain ⟨_,_,k,_⟩:=k;cases k;done) | (obtain ⟨_,_,_,k,_⟩:=k;cases k;done)
  | .tup xs,q,v,dp,dq,h,k=>by
    unfold Rep at h
    obtain ⟨a,vs,rfl,h2,h3⟩:=h
    cases q with
    | tup ys =>
      unfold Rep at k
      obtain ⟨b,us,e,k2,k3⟩:=k
      cases e
      have e:=I.tuple_inj (hF.seqT h2) (hF.seqT k2)
      subst e
      unfold dep at dp dq
      rw [RepL.inj I hF (by omega) (by omega) h3 k3]
    | lst ys =>
      unfold Rep at k
      obtain ⟨b,us,e,k2,k3⟩:=k
      cases e
      obtain ⟨its,_,p1,_⟩:=I.tuple (hF.seqT h2)
      obtain ⟨its2,_,p2,_⟩:=I.list (hF.seq k2)
      exact absurd rfl (PySem.SeqAt.ne_of_list_tuple p2.isList p1)
    | obj C ks ps=>unfold dep at dq;omega
    | opq b=>unfold dep at dq;omega
    | _=>unfold Rep at k;cases k
  | .lst xs,q,v,dp,dq,h,k=>by
    unfold Rep at h
    obtain ⟨a,vs,rfl,h2,h3⟩:=h
    cases q with
    | lst ys =>
      unfold Rep at k
      obtain ⟨b,us,e,k2,k3⟩:=k
      cases e
      have e:=I.list_inj (hF.seq h2) (hF.seq k2)
      subst e
      unfold dep at dp dq
      rw [RepL.inj I hF (by omega) (by omega) h3 k3]
    | tup ys =>
      unfold Rep at k
      obtain ⟨b,us,e,k2,k3⟩:=k
      cases e
      obtain ⟨its,_,p1,_⟩:=I.list (hF.seq h2)
      obtain ⟨its2,_,p2,_⟩:=I.tuple (hF.seqT k2)
      exact absurd rfl (PySem.SeqAt.ne_of_list_tuple p1.isList p2)
    | obj C ks ps=>unfold dep at dq;omega
    | opq b=>unfold dep at dq;omega
    | _=>unfold Rep at k;cases k
  | .obj C ks ps,q,v,dp,dq,h,k=>by unfold dep at dp;omega
  | .opq a,q,v,dp,dq,h,k=>by unfold dep at dp;omega
theorem RepL.inj (I:Inv X pins σ H s) (hF:Same F H):∀ {ps qs:List PV} {vs:List V},depL ps < 1000→depL qs < 1000→RepL X.K F ps vs→RepL X.K F qs vs→ps=qs
  | [],qs,vs,dp,dq,h,k=>by
    unfold RepL at h;subst h
    cases qs with
    | nil=>rfl
    | cons q qs=>unfold RepL at k;obtain ⟨_,_,k,_⟩:=k;cases k
  | p :: ps,qs,vs,dp,dq,h,k=>by
    unfold RepL at h
    obtain ⟨v,r,rfl,h2,h3⟩:=h
    cases qs with
    | nil=>unfold RepL at k;cases k
    | cons q qs =>
      unfold RepL at k
      obtain ⟨v',r',e,k2,k3⟩:=k
      cases e
      unfold depL at dp dq
      rw [Rep.inj I hF (by omega) (by omega) h2 k2,RepL.inj I hF (by omega) (by omega) h3 k3]
end

theorem eqAt_rep (I:Inv X pins σ H s) (hF:Same F H):∀ (n:Nat) (A:Around) (p q:PV) (v u:V) (x y:Value),dep p≤n→n≤900→dep q < 1000→A.units + n < cLine→Rep X.K F p v→Rep X.K F q u→RelV v x→RelV u y→SeqAt.EqAt A s x y (peq p q):=by
  intro n
  induction n with
  | zero =>
    intro A p q v u x y hd hn hdq hu hp hq rx ry
    cases p with
    | tup xs=>unfold dep at hd;omega
    | lst xs=>unfold dep at hd;omega
    | obj C ks ps=>unfold dep at hd;omega
    | opq b=>unfold dep at hd;omega
    | non =>
      unfold Rep at hp;subst hp;cases rx
      cases q with
      | obj D ls qs=>unfold dep at hdq;omega
      | opq b=>unfold dep at hdq;omega
      | non=>unfold Rep at hq;subst hq;cases ry;exact SeqAt.EqAt.same _
      | bl b=>unfold Rep at hq;subst hq;cases ry;exact SeqAt.EqAt.none_bool b
      | int b=>unfold Rep at hq;subst hq;obtain ⟨t,rfl⟩:=ry;exact SeqAt.EqAt.none_int b t
      | str b=>unfold Rep at hq;subst hq;obtain ⟨t,rfl⟩:=ry;exact SeqAt.EqAt.none_str b t
      | tup ys =>
        unfold Rep at hq;obtain ⟨b,us,rfl,k2,k3⟩:=hq;cases ry
        obtain ⟨its,_,p1,_⟩:=I.tuple (hF.seqT k2)
        exact SeqAt.EqAt.none_tuple p1 (by omega)
      | lst ys =>
        unfold Rep at hq;obtain ⟨b,us,rfl,k2,k3⟩:=hq;cases ry
        obtain ⟨its,_,p1,_⟩:=I.list (hF.seq k2)
        exact SeqAt.EqAt.none_list p1.isList (by omega)
    | bl a =>
      unfold Rep at hp;subst hp;cases rx
      cases q with
      | obj D ls qs=>unfold dep at hdq;omega
      | opq b=>unfold dep at hdq;omega
      | non=>unfold Rep at hq;subst hq;cases ry;exact SeqAt.EqAt.bool_none a
      | bl b=>unfold Rep at hq;subst hq;cases ry;exact SeqAt.EqAt.bool_bool a b
      | int b=>unfold Rep at hq;subst hq;obtain ⟨t,rfl⟩:=ry;exact SeqAt.EqAt.bool_int a b t
      | str b=>unfold Rep at hq;subst hq;obtain ⟨t,rfl⟩:=ry;exact SeqAt.EqAt.bool_str a b t
      | tup ys =>
        unfold Rep at hq;obtain ⟨b,us,rfl,k2,k3⟩:=hq;cases ry
        obtain ⟨its,_,p1,_⟩:=I.tuple (hF.seqT k2)
        exact SeqAt.EqAt.bool_tuple a p1 (by omega)
      | lst ys =>
        unfold Rep at hq;obtain ⟨b,us,rfl,k2,k3⟩:=hq;cases ry
        obtain ⟨its,_,p1,_⟩:=I.list (hF.seq k2)
        exact SeqAt.EqAt.bool_list a p1.isList (by omega)
    | int a =>
      unfold Rep at hp;subst hp;obtain ⟨t',rfl⟩:=rx
      cases q with
      | obj D ls qs=>unfold dep at hdq;omega
      | opq b=>unfold dep at hdq;omega
      | non=>unfold Rep at hq;subst hq;cases ry;exact SeqAt.EqAt.int_none a t'
      | bl b=>unfold Rep at hq;subst hq;cases ry;exact SeqAt.EqAt.int_bool a t' b
      | int b=>unfold Rep at hq;subst hq;obtain ⟨t,rfl⟩:=ry;exact SeqAt.EqAt.int_int a t' b t
      | str b=>unfold Rep at hq;subst hq;obtain ⟨t,rfl⟩:=ry;exact SeqAt.EqAt.int_str a t' b t
      | tup ys =>
        unfold Rep at hq;obtain ⟨b,us,rfl,k2,k3⟩:=hq;cases ry
        obtain ⟨its,_,p1,_⟩:=I.tuple (hF.seqT k2)
        exact SeqAt.EqAt.int_tuple a t' p1 (by omega)
      | lst ys =>
        unfold Rep at hq;obtain ⟨b,us,rfl,k2,k3⟩:=hq;cases ry
        obtain ⟨its,_,p1,_⟩:=I.list (hF.seq k2)
        exact SeqAt.EqAt.int_list a t' p1.isList (by omega)
    | str a =>
      unfold Rep at hp;subst hp;obtain ⟨t',rfl⟩:=rx
      cases q with
      | obj D ls qs=>unfold dep at hdq;omega
      | opq b=>unfold dep at hdq;omega
      | non=>unfold Rep at hq;subst hq;cases ry;exact SeqAt.EqAt.str_none a t'
      | bl b=>unfold Rep at hq;subst hq;cases ry;exact SeqAt.EqAt.str_bool a t' b
      | int b=>unfold Rep at hq;subst hq;obtain ⟨t,rfl⟩:=ry;exact SeqAt.EqAt.str_int a t' b t
      | str b=>unfold Rep at hq;subst hq;obtain ⟨t,rfl⟩:=ry;exact SeqAt.EqAt.str_str a t' b t
      | tup ys =>
        unfold Rep at hq;obtain ⟨b,us,rfl,k2,k3⟩:=hq;cases ry
        obtain ⟨its,_,p1,_⟩:=I.tuple (hF.seqT k2)
        exact SeqAt.EqAt.str_tuple a t' p1 (by omega)
      | lst ys =>
        unfold Rep at hq;obtain ⟨b,us,rfl,k2,k3⟩:=hq;cases ry
        obtain ⟨its,_,p1,_⟩:=I.list (hF.seq k2)
        exact SeqAt.EqAt.str_list a t' p1.isList (by omega)
  | succ n ih =>
    intro A p q v u x y hd hn hdq hu hp hq rx ry
    by_cases hd0:dep p≤n
    · exact ih A p q v u x y hd0 (by omega) hdq (by omega) hp hq rx ry
    · have hN:A.units < cLine:=by omega
      cases p with
      | tup xs =>
        unfold Rep at hp
        obtain ⟨a,vs,rfl,h2,h3⟩:=hp
        cases rx
        have hdx:depL xs≤n:=by unfold dep at hd;omega
        obtain ⟨its,rv,p1,z1⟩:=I.tuple (hF.seqT h2)
        cases q with
        | obj D ls qs=>unfold dep at hdq;omega
        | opq b=>unfold dep at hdq;omega
        | non=>unfold Rep at hq;subst hq;cases ry;exact SeqAt.EqAt.tuple_none p1 hN
        | bl b=>unfold Rep at hq;subst hq;cases ry;exact SeqAt.EqAt.tuple_bool b p1 hN
        | int b=>unfold Rep at hq;subst hq;obtain ⟨t,rfl⟩:=ry;exact SeqAt.EqAt.tuple_int b t p1 hN
        | str b=>unfold Rep at hq;subst hq;obtain ⟨t,rfl⟩:=ry;exact SeqAt.EqAt.tuple_str b t p1 hN
        | lst ys =>
          unfold Rep at hq;obtain ⟨b,us,rfl,k2,k3⟩:=hq;cases ry
          obtain ⟨its2,_,p2,_⟩:=I.list (hF.seq k2)
          exact SeqAt.EqAt.tuple_list p1 p2.isList hN
        | tup ys =>
          unfold Rep at hq;obtain ⟨b,us,rfl,k2,k3⟩:=hq;cases ry
          obtain ⟨its2,ru,p2,z2⟩:=I.tuple (hF.seqT k2)
          change SeqAt.EqAt _ _ _ _ (peqL xs ys)
          by_cases hab:a=b
          · subst hab
            have e:=I.tuple_inj (hF.seqT h2) (hF.seqT k2)
            subst e
            rw [RepL.inj I hF (by omega) (by unfold dep at hdq;omega) h3 k3,Xn]
            exact SeqAt.EqAt.same _
          · have l1:its.toArray.size=xs.length:=by rw [List.size_toArray,← rv.length,h3.length]
            have l2:its2.toArray.size=ys.length:=by rw [List.size_toArray,← ru.length,k3.length]
            have key:=SeqAt.RcAt.tuples (A:=A) (s:=s) (e:=eAt xs ys) p1 p2 hN fun j j1 j2 => ?_
            · rw [l1,l2,Qav] at key
              exact SeqAt.EqAt.of_refs hab key
            · have j1':j < xs.length:=by rw [← l1];exact j1
              have j2':j < ys.length:=by rw [← l2];exact j2
              have e1:xs[j]?=some xs[j]:=by simp [j1']
              have e2:ys[j]?=some ys[j]:=by simp [j2']
              obtain ⟨v1,ev1,rp1⟩:=h3.get e1
              obtain ⟨v2,ev2,rp2⟩:=k3.get e2
              obtain ⟨w1,ew1,rw1⟩:=rv.get ev1
              obtain ⟨w2,ew2,rw2⟩:=ru.get ev2
              have q1:its.toArray[j]=w1:=by simpa using (List.getElem?_eq_some_iff.mp ew1).2
              have q2:its2.toArray[j]=w2:=by simpa using (List.getElem?_eq_some_iff.mp ew2).2
              have e3:eAt xs ys j=peq xs[j] ys[j]:=by unfold eAt;rw [e1,e2]
              rw [q1,q2,e3]
              exact ih A.in1 _ _ v1 v2 w1 w2 (Nat.le_trans (Qbu e1) hdx) (by omega) (by have:=Qbu e2;unfold dep at hdq;omega) (by show A.units + 1 + n < cLine;omega) rp1 rp2 rw1 rw2
      | lst xs =>
        unfold Rep at hp
        obtain ⟨a,vs,rfl,h2,h3⟩:=hp
        cases rx
        have hdx:depL xs≤n:=by unfold dep at hd;omega
        obtain ⟨its,rv,p1,z1⟩:=I.list (hF.seq h2)
        cases q with
        | obj D ls qs=>unfold dep at hdq;omega
        | opq b=>unfold dep at hdq;omega
        | non=>unfold Rep at hq;subst hq;cases ry;exact SeqAt.EqAt.list_none p1.isList hN
        | bl b=>unfold Rep at hq;subst hq;cases ry;exact SeqAt.EqAt.list_bool b p1.isList hN
        | int b=>unfold Rep at hq;subst hq;obtain ⟨t,rfl⟩:=ry;exact SeqAt.EqAt.list_int b t p1.isList hN
        | str b=>unfold Rep at hq;subst hq;obtain ⟨t,rfl⟩:=ry;exact SeqAt.EqAt.list_str b t p1.isList hN
        | tup ys =>
          unfold Rep at hq;obtain ⟨b,us,rfl,k2,k3⟩:=hq;cases ry
          obtain ⟨its2,_,p2,_⟩:=I.tuple (hF.seqT k2)
          exact SeqAt.EqAt.list_tuple p1.isList p2 hN
        | lst ys =>
          unfold Rep at hq;obtain ⟨b,us,rfl,k2,k3⟩:=hq;cases ry
          obtain ⟨its2,ru,p2,z2⟩:=I.list (hF.seq k2)
          change SeqAt.EqAt _ _ _ _ (peqL xs ys)
          by_cases hab:a=b
          · subst hab
            have e:=I.list_inj (hF.seq h2) (hF.seq k2)
            subst e
            rw [RepL.inj I hF (by omega) (by unfold dep at hdq;omega) h3 k3,Xn]
            exact SeqAt.EqAt.same _
          · have l1:its.toArray.size=xs.length:=by rw [List.size_toArray,← rv.length,h3.length]
            have l2:its2.toArray.size=ys.length:=by rw [List.size_toArray,← ru.length,k3.length]
            by_cases hl:xs.length=ys.length
            · have key:=SeqAt.RcAt.lists (A:=A) (s:=s) (e:=eAt xs ys) p1.isList p2.isList (by rw [l1,l2,hl]) hN fun j j1 j2 => ?_
              · have e5:=Qav xs ys
                rw [← hl,Nat.min_self,beq_self_eq_true,Bool.and_true] at e5
                rw [l1,e5] at key
                exact SeqAt.EqAt.of_refs hab key
              · have j1':j < xs.length:=by rw [← l1];exact j1
                have j2':j < ys.length:=by rw [← l2];exact j2
                have e1:xs[j]?=some xs[j]:=by simp [j1']
                have e2:ys[j]?=some ys[j]:=by simp [j2']
                obtain ⟨v1,ev1,rp1⟩:=h3.get e1
                obtain ⟨v2,ev2,rp2⟩:=k3.get e2
                obtain ⟨w1,ew1,rw1⟩:=rv.get ev1
                obtain ⟨w2,ew2,rw2⟩:=ru.get ev2
                have q1:its.toArray[j]=w1:=by simpa using (List.getElem?_eq_some_iff.mp ew1).2
                have q2:its2.toArray[j]=w2:=by simpa using (List.getElem?_eq_some_iff.mp ew2).2
                have e3:eAt xs ys j=peq xs[j] ys[j]:=by unfold eAt;rw [e1,e2]
                rw [q1,q2,e3]
                exact ih A.in1 _ _ v1 v2 w1 w2 (Nat.le_trans (Qbu e1) hdx) (by omega) (by have:=Qbu e2;unfold dep at hdq;omega) (by show A.units + 1 + n < cLine;omega) rp1 rp2 rw1 rw2
            · have e5:=Qav xs ys
              rw [(beq_eq_false_iff_ne (a:=xs.length) (b:=ys.length)).mpr hl,Bool.and_false] at e5
              rw [← e5]
              exact SeqAt.EqAt.of_refs hab (SeqAt.RcAt.lists_lengths p1.isList p2.isList (by rw [l1,l2];simpa using hl) hN)
      | obj C ks ps=>unfold dep at hd;omega
      | opq b=>unfold dep at hd;omega
      | _=>unfold dep at hd0;omega

mutual
noncomputable def toD:PV→PyData
  | .non => .none
  | .bl b => .bool b
  | .int i => .int i
  | .str x => .str x
  | .tup xs => .tuple (toDL xs)
  | .lst xs => .list (toDL xs)
  | .obj _ _ _ => .none
  | .opq _ => .none
noncomputable def toDL:List PV→List PyData
  | []=>[]
  | x :: xs=>toD x :: toDL xs
end
mutual
noncomputable def okS:PV→Bool
  | .str x=>PyData.strOk x
  | .tup xs=>okSL xs
  | .lst xs=>okSL xs
  | _=>true
noncomputable def okSL:List PV→Bool
  | []=>true
  | x :: xs=>okS x&&okSL xs
end
noncomputable def okv (p:PV):Bool:=decide (dep p≤50)&&okS p
mutual
theorem Qem:∀ p:PV,okS p=true→(toD p).canLay0=true
  | .non,_=>by simp [toD,PyData.canLay0]
  | .bl _,_=>by simp [toD,PyData.canLay0]
  | .int _,_=>by simp [toD,PyData.canLay0]
  | .str x,h=>by simpa [toD,PyData.canLay0,okS] using h
  | .tup xs,h=>by
    unfold toD PyData.canLay0
    exact Qbk xs (by simpa [okS] using h)
  | .lst xs,h=>by
    unfold toD PyData.canLay0
    exact Qbk xs (by simpa [okS] using h)
  | .obj _ _ _,_=>by simp [toD,PyData.canLay0]
  | .opq _,_=>by simp [toD,PyData.canLay0]
theorem Qbk:∀ xs:List PV,okSL xs=true→PyData.canLayAll0 (toDL xs)=true
  | [],_=>by simp [toDL,PyData.canLayAll0]
  | x :: xs,h=>by
    unfold okSL at h
    rw [Bool.and_eq_true] at h
    unfold toDL PyData.canLayAll0
    rw [Qem x h.1,Qbk xs h.2]
    rfl
end
mutual
theorem QfO:∀ p:PV,(toD p).depth≤dep p + 1
  | .non=>by simp [toD,PyData.depth]
  | .bl _=>by simp [toD,PyData.depth]
  | .int _=>by simp [toD,PyData.depth]
  | .str x=>by simp [toD,PyData.depth]
  | .tup xs=>by
    have:=Qce xs
    simp only [toD,PyData.depth,dep]
    omega
  | .lst xs=>by
    have:=Qce xs
    simp only [toD,PyData.depth,dep]
    omega
  | .obj _ _ _=>by simp [toD,PyData.depth]
  | .opq _=>by simp [toD,PyData.depth]
theorem Qce:∀ xs:List PV,PyData.depthAll (toDL xs)≤depL xs + 1
  | []=>by simp [toDL,PyData.depthAll]
  | x :: xs=>by
    have h1:=QfO x
    have h2:=Qce xs
    simp only [toDL,PyData.depthAll,depL]
    omega
end
theorem Qat {p:PV} (h:okv p=true):SeqAt.shaped (toD p)=true:=by
  unfold okv at h
  rw [Bool.and_eq_true,decide_eq_true_iff] at h
  have h1:=QfO p
  unfold SeqAt.shaped
  rw [Qem p h.2,Bool.true_and,decide_eq_true_iff]
  omega
mutual
theorem QgC:∀ p q:PV,dep p < 1000→dep q < 1000→PyData.eqv (toD p) (toD q)=peq p q
  | .non,q,_,hq=>by cases q <;> first | (rfl;done) | (exfalso;unfold dep at hq;omega)
  | .bl _,q,_,hq=>by cases q <;> first | (rfl;done) | (exfalso;unfold dep at hq;omega)
  | .int _,q,_,hq=>by cases q <;> first | (rfl;done) | (exfalso;unfold dep at hq;omega)
  | .str _,q,_,hq=>by cases q <;> first | (rfl;done) | (exfalso;unfold dep at hq;omega)
  | .tup xs,q,hp,hq=>by
    cases q with
    | tup ys=>exact QeH xs ys (by unfold dep at hp;omega) (by unfold dep at hq;omega)
    | obj=>exfalso;unfold dep at hq;omega
    | opq=>exfalso;unfold dep at hq;omega
    | _=>rfl
  | .lst xs,q,hp,hq=>by
    cases q with
    | lst ys=>exact QeH xs ys (by unfold dep at hp;omega) (by unfold dep at hq;omega)
    | obj=>exfalso;unfold dep at hq;omega
    | opq=>exfalso;unfold dep at hq;omega
    | _=>rfl
  | .obj _ _ _,q,hp,_=>by exfalso;unfold dep at hp;omega
  | .opq _,q,hp,_=>by exfalso;unfold dep at hp;omega
theorem QeH:∀ xs ys:List PV,depL xs < 1000→depL ys < 1000→PyData.eqvAll (toDL xs) (toDL ys)=peqL xs ys
  | [],[],_,_=>rfl
  | [],_ :: _,_,_=>rfl
  | _ :: _,[],_,_=>rfl
  | x :: xs,y :: ys,h1,h2=>by
    show (PyData.eqv (toD x) (toD y)&&PyData.eqvAll (toDL xs) (toDL ys))=(peq x y&&peqL xs ys)
    unfold depL at h1 h2
    rw [QgC x y (by omega) (by omega),QeH xs ys (by omega) (by omega)]
end
mutual
theorem Rep.reads (I:Inv X pins σ H s) (hF:Same F H):∀ {p:PV} {v:V} {u:Value},dep p < 1000→Rep X.K F p v→RelV v u→∃ as,Reads s.heap u (toD p) as
  | .non,v,u,_,h,r=>by unfold Rep at h;subst h;cases r;exact ⟨_,by unfold toD;exact .none⟩
  | .bl b,v,u,_,h,r=>by unfold Rep at h;subst h;cases r;exact ⟨_,by unfold toD;exact .bool b⟩
  | .int b,v,u,_,h,r=>by unfold Rep at h;subst h;obtain ⟨t,rfl⟩:=r;exact ⟨_,by unfold toD;exact .int b t⟩
  | .str b,v,u,_,h,r=>by unfold Rep at h;subst h;obtain ⟨t,rfl⟩:=r;exact ⟨_,by unfold toD;exact .str b t⟩
  | .tup xs,v,u,hd',h,r=>by
    unfold Rep at h
    obtain ⟨a,vs,rfl,h2,h3⟩:=h
    cases r
    obtain ⟨its,rv,⟨o,ho,hc,n,hd⟩,_⟩:=I.tuple (hF.seqT h2)
    obtain ⟨as,ra⟩:=RepL.reads I hF (by unfold dep at hd';omega) h3 rv
    unfold toD
    exact ⟨_,.tuple ho hc hd (by simpa using ra)⟩
  | .lst xs,v,u,hd',h,r=>by
    unfold Rep at h
    obtain ⟨a,vs,rfl,h2,h3⟩:=h
    cases r
    obtain ⟨its,rv,⟨o,n,ho,hc,_,hd⟩,_⟩:=I.list (hF.seq h2)
    obtain ⟨as,ra⟩:=RepL.reads I hF (by unfold dep at hd';omega) h3 rv
    unfold toD
    exact ⟨_,.list ho hc hd (by simpa using ra)⟩
  | .obj _ _ _,v,u,hd',_,_=>by exfalso;unfold dep at hd';omega
  | .opq _,v,u,hd',_,_=>by exfalso;unfold dep at hd';omega
theorem RepL.reads (I:Inv X pins σ H s) (hF:Same F H):∀ {ps:List PV} {vs:List V} {us:List Value},depL ps < 1000→RepL X.K F ps vs→Vals vs us→∃ as,ReadsAll s.heap us (toDL ps) as
  | [],vs,us,_,h,r=>by
    unfold RepL at h;subst h;cases r
    exact ⟨[],by unfold toDL;exact .nil⟩
  | p :: ps,vs,us,hd',h,r=>by
    unfold depL at hd'
    unfold RepL at h
    obtain ⟨v,t,rfl,h2,h3⟩:=h
    cases r with
    | cons r1 r2 =>
      obtain ⟨a1,q1⟩:=Rep.reads I hF (by omega) h2 r1
      obtain ⟨a2,q2⟩:=RepL.reads I hF (by omega) h3 r2
      unfold toDL
      exact ⟨_,.cons q1 q2⟩
end
theorem Qbb {p:PV} (h:okv p=true):dep p < 1000:=by
  unfold okv at h
  rw [Bool.and_eq_true,decide_eq_true_iff] at h
  omega
noncomputable def pEq (p q:PV):Option PV:=if okv p=true∧okv q=true then some (.bl (peq p q)) else none
noncomputable def pNe (p q:PV):Option PV:=if okv p=true∧okv q=true then some (.bl (!peq p q)) else none
theorem QaC (hu:X.A.units + 64 < cLine):OpM X (compareOp .Eq) pEq:=by
  intro pins s σ H x y v u Q I rx ry h
  obtain ⟨F,p,q,r,h1,h2,h3,h4,w⟩:=h
  obtain ⟨⟨c1,c2⟩,rfl⟩:=QS h4
  obtain ⟨as,ra⟩:=Rep.reads I h1 (Qbb c1) h2 rx
  obtain ⟨bs,rb⟩:=Rep.reads I h1 (Qbb c2) h3 ry
  refine eq_dataH ra rb (Qat c1) (Qat c2) hu ?_
  rw [QgC _ _ (Qbb c1) (Qbb c2)]
  exact ⟨.bl _,H,I,rfl,w.here h1 (Yt _)⟩
theorem om_ne (hu:X.A.units + 64 < cLine):OpM X (compareOp .NotEq) pNe:=by
  intro pins s σ H x y v u Q I rx ry h
  obtain ⟨F,p,q,r,h1,h2,h3,h4,w⟩:=h
  obtain ⟨⟨c1,c2⟩,rfl⟩:=QS h4
  obtain ⟨as,ra⟩:=Rep.reads I h1 (Qbb c1) h2 rx
  obtain ⟨bs,rb⟩:=Rep.reads I h1 (Qbb c2) h3 ry
  refine ne_dataH ra rb (Qat c1) (Qat c2) hu ?_
  rw [QgC _ _ (Qbb c1) (Qbb c2)]
  exact ⟨.bl _,H,I,rfl,w.here h1 (Yt _)⟩
end
end L2.PM

noncomputable section
namespace L2.PM
open PySem PySem.Spec PyProof.Rows

section
variable {X:Cx} {e a b c:Expr} {es:List Expr} {ms ns ls:List Nat} {m m1 m2 m3:MEx} {pos:Pos}
theorem Qkk:∀ {its:List Value} {xs:List PV} (f:PV→Bool),its.length=xs.length→∀ g:Value→Bool,(∀ (j:Nat) (u:Value) (p:PV),its[j]?=some u→xs[j]?=some p→g u=f p)→its.any g=xs.any f
  | [],[],_,_,_,_=>rfl
  | [],_ :: _,_,h,_,_=>by simp at h
  | _ :: _,[],_,h,_,_=>by simp at h
  | u :: us,p :: ps,f,h,g,k=>by
    rw [List.any_cons,List.any_cons,k 0 u p rfl rfl,Qkk f (by simpa using h) g fun j u p h1 h2=>k (j + 1) u p (by simpa using h1) (by simpa using h2)]
open Classical in
noncomputable def gOf (its:List Value) (xs:List PV) (x:PV) (u:Value):Bool:=if h:∃ (j:Nat) (p:PV),its[j]?=some u∧xs[j]?=some p then peq (Classical.choose (Classical.choose_spec h)) x else false
noncomputable def pIn:PV→PV→Option PV
  | x,.lst xs=>if okv x=true∧xs.all okv=true then some (.bl (xs.any fun y=>peq y x)) else none
  | x,.tup xs=>if okv x=true∧xs.all okv=true then some (.bl (xs.any fun y=>peq y x)) else none
  | _,_=>none
noncomputable def QaZ (x y:PV):Option PV:=(pIn x y).bind fun r=>match r with
  | .bl b=>some (.bl (!b))
  | _=>none
theorem okv_dep {p:PV} (h:okv p=true):dep p≤50:=by
  unfold okv at h
  rw [Bool.and_eq_true,decide_eq_true_iff] at h
  exact h.1
theorem QgQ {pins:List (Addr×Obj)} {σ:St} {H F:Hp} {s:Shared} {A:Around} (I:Inv X pins σ H s) (hF:Same F H) (hu:A.units + 60 < cLine) {x:PV} {xv:V} {xu:Value} {xs:List PV} {vs:List V} {its:List Value}
    (ok:xs.all okv=true) (okx:okv x=true) (hx:Rep X.K F x xv) (rx:RelV xv xu) (hxs:RepL X.K F xs vs) (rv:Vals vs its) :
    (∀ u∈its,SeqAt.EqAt A s u xu (gOf its xs x u))∧its.any (gOf its xs x)=xs.any fun y=>peq y x:=by
  have len:its.length=xs.length:=by rw [← rv.length,hxs.length]
  have inj:∀ (j k:Nat) (u:Value) (p q:PV),its[j]?=some u→xs[j]?=some p→its[k]?=some u→xs[k]?=some q→p=q:=fun j k u p q h1 h2 h3 h4=>by
    obtain ⟨v1,e1,r1⟩:=hxs.get h2
    obtain ⟨v2,e2,r2⟩:=hxs.get h4
    obtain ⟨w1,f1,t1⟩:=rv.get e1
    obtain ⟨w2,f2,t2⟩:=rv.get e2
    rw [h1] at f1;rw [h3] at f2
    cases f1;cases f2
    have ev:=t1.inj t2
    subst ev
    have hd:∀ (j:Nat) (p:PV),xs[j]?=some p→dep p < 1000:=fun j p h=>by
      have z:=List.all_eq_true.mp ok p (List.mem_of_getElem? h)
      unfold okv at z
      rw [Bool.and_eq_true,decide_eq_true_iff] at z
      omega
    exact Rep.inj I hF (hd _ _ h2) (hd _ _ h4) r1 r2
  have val:∀ (j:Nat) (u:Value) (p:PV),its[j]?=some u→xs[j]?=some p→gOf its xs x u=peq p x:=fun j u p h1 h2=>by
    have h:∃ (j:Nat) (p:PV),its[j]?=some u∧xs[j]?=some p:=⟨j,p,h1,h2⟩
    unfold gOf
    rw [dif_pos h]
    have hs:=Classical.choose_spec (Classical.choose_spec h)
    rw [inj _ _ u _ _ hs.1 hs.2 h1 h2]
  refine ⟨fun u hu' => ?_,Qkk (fun y=>peq y x) len _ fun j u p h1 h2=>val j u p h1 h2⟩
  obtain ⟨j,hj⟩:=List.mem_iff_getElem?.mp hu'
  have hjl:j < xs.length:=by rw [← len];exact (List.getElem?_eq_some_iff.mp hj).1
  have e1:xs[j]?=some xs[j]:=by simp [hjl]
  rw [val j u _ hj e1]
  obtain ⟨v1,f1,r1⟩:=hxs.get e1
  obtain ⟨w1,g1,t1⟩:=rv.get f1
  rw [hj] at g1;cases g1
  have okj:okv xs[j]=true:=List.all_eq_true.mp ok _ (List.getElem_mem hjl)
  exact eqAt_rep I hF 50 A _ _ v1 xv _ _ (okv_dep okj) (by omega) (Qbb okx) (by omega) r1 hx t1 rx
theorem QjV {x y r:PV} (h:pIn x y=some r):∃ xs,(y = .lst xs∨y = .tup xs)∧okv x=true∧xs.all okv=true∧r = .bl (xs.any fun y=>peq y x):=by
  cases y with
  | lst xs =>
    have h:(if okv x=true∧xs.all okv=true then some (PV.bl (xs.any fun y=>peq y x)) else none)=some r:=h
    obtain ⟨⟨c1,c2⟩,rfl⟩:=QS h
    exact ⟨xs,.inl rfl,c1,c2,rfl⟩
  | tup xs =>
    have h:(if okv x=true∧xs.all okv=true then some (PV.bl (xs.any fun y=>peq y x)) else none)=some r:=h
    obtain ⟨⟨c1,c2⟩,rfl⟩:=QS h
    exact ⟨xs,.inr rfl,c1,c2,rfl⟩
  | _=>cases h
theorem om_in (hu:X.A.units + 64 < cLine):OpM X (compareOp .In) pIn:=by
  intro pins s σ H x y v u Q I rx ry h
  obtain ⟨F,p,q,r,h1,h2,h3,h4,w⟩:=h
  obtain ⟨xs,hk,c1,c2,rfl⟩:=QjV h4
  have hu1:X.A.in1.units + 60 < cLine:=by show X.A.units + 1 + 60 < cLine;omega
  rcases hk with rfl | rfl
  · unfold Rep at h3
    obtain ⟨a,vs,rfl,k2,k3⟩:=h3
    cases ry
    obtain ⟨its,rv,pl,_⟩:=I.list (h1.seq k2)
    obtain ⟨he,hany⟩:=QgQ (A:=X.A.in1) I h1 hu1 c2 c1 h2 rx k3 rv
    refine SeqAt.in_listAt (gOf its xs p) pl.isList (fun y hy=>he y (by simpa using hy)) ⟨.bl _,H,I,rfl,?_⟩
    rw [show its.toArray.any (gOf its xs p)=its.any (gOf its xs p) by simp,hany]
    exact w.here h1 (Yt _)
  · unfold Rep at h3
    obtain ⟨a,vs,rfl,k2,k3⟩:=h3
    cases ry
    obtain ⟨its,rv,pl,_⟩:=I.tuple (h1.seqT k2)
    obtain ⟨he,hany⟩:=QgQ (A:=X.A.in1) I h1 hu1 c2 c1 h2 rx k3 rv
    refine SeqAt.in_tupleAt (gOf its xs p) pl (fun y hy=>he y (by simpa using hy)) ⟨.bl _,H,I,rfl,?_⟩
    rw [show its.toArray.any (gOf its xs p)=its.any (gOf its xs p) by simp,hany]
    exact w.here h1 (Yt _)
theorem QhH (hu:X.A.units + 64 < cLine):OpM X (compareOp .NotIn) QaZ:=by
  intro pins s σ H x y v u Q I rx ry h
  obtain ⟨F,p,q,r,h1,h2,h3,h4,w⟩:=h
  unfold QaZ at h4
  cases e:pIn p q with
  | none=>rw [e] at h4;cases h4
  | some r0 =>
    rw [e] at h4
    obtain ⟨xs,hk,c1,c2,rfl⟩:=QjV e
    have h4:some (PV.bl (!(xs.any fun y=>peq y p)))=some r:=h4
    cases h4
    have hu1:X.A.in1.units + 60 < cLine:=by show X.A.units + 1 + 60 < cLine;omega
    rcases hk with rfl | rfl
    · unfold Rep at h3
      obtain ⟨a,vs,rfl,k2,k3⟩:=h3
      cases ry
      obtain ⟨its,rv,pl,_⟩:=I.list (h1.seq k2)
      obtain ⟨he,hany⟩:=QgQ (A:=X.A.in1) I h1 hu1 c2 c1 h2 rx k3 rv
      refine SeqAt.notIn_listAt (gOf its xs p) pl.isList (fun y hy=>he y (by simpa using hy)) ⟨.bl _,H,I,rfl,?_⟩
      rw [show its.toArray.any (gOf its xs p)=its.any (gOf its xs p) by simp,hany]
      exact w.here h1 (Yt _)
    · unfold Rep at h3
      obtain ⟨a,vs,rfl,k2,k3⟩:=h3
      cases ry
      obtain ⟨its,rv,pl,_⟩:=I.tuple (h1.seqT k2)
      obtain ⟨he,hany⟩:=QgQ (A:=X.A.in1) I h1 hu1 c2 c1 h2 rx k3 rv
      refine SeqAt.notIn_tupleAt (gOf its xs p) pl (fun y hy=>he y (by simpa using hy)) ⟨.bl _,H,I,rfl,?_⟩
      rw [show its.toArray.any (gOf its xs p)=its.any (gOf its xs p) by simp,hany]
      exact w.here h1 (Yt _)
noncomputable def isN:PV→Bool
  | .non=>true
  | _=>false
noncomputable def pIs:PV→PV→Option PV
  | p,.non=>some (.bl (isN p))
  | .bl a,.bl b=>some (.bl (a==b))
  | _,_=>none
noncomputable def QgL:PV→PV→Option PV
  | p,.non=>some (.bl (!isN p))
  | .bl a,.bl b=>some (.bl (a != b))
  | _,_=>none
theorem op_isB:OpR X (compareOp .Is) (fun x y H Q=>∃ a b,x = .bl a∧y = .bl b∧Q (.bl (a==b)) H):=by
  intro pins s σ H x y v u Q I rx ry h
  obtain ⟨a,b,rfl,rfl,q⟩:=h
  cases rx
  cases ry
  exact is_bool (QgR I q rfl)
theorem op_notB:OpR X (compareOp .IsNot) (fun x y H Q=>∃ a b,x = .bl a∧y = .bl b∧Q (.bl (a != b)) H):=by
  intro pins s σ H x y v u Q I rx ry h
  obtain ⟨a,b,rfl,rfl,q⟩:=h
  cases rx
  cases ry
  exact isnot_bool (QgR I q rfl)
theorem Qkd {K:PySem.W.Frag} {F:Hp} {p:PV} {v:V} (h:Rep K F p v):decide (v = .non)=isN p:=by
  cases p <;> unfold Rep at h <;> first
    | (subst h;simp [isN];done)
    | (obtain ⟨a,vs,rfl,_⟩:=h;simp [isN];done)
    | (obtain ⟨a,dx,vs,rfl,_⟩:=h;simp [isN])
theorem om_is:OpM X (compareOp .Is) pIs:=by
  intro pins s σ H x y v u Q I rx ry h
  obtain ⟨F,p,q,r,h1,h2,h3,h4,w⟩:=h
  cases q with
  | non =>
    have h4:some (PV.bl (isN p))=some r:=h4
    cases h4
    unfold Rep at h3
    exact op_isN pins s σ H x y v u Q I rx ry ⟨h3,by rw [Qkd h2];exact w.here h1 (Yt _)⟩
  | bl b =>
    cases p with
    | bl a =>
      cases h4
      unfold Rep at h2 h3
      exact op_isB pins s σ H x y v u Q I rx ry ⟨a,b,h2,h3,w.here h1 (Yt _)⟩
    | _=>cases h4
  | _=>cases p <;> cases h4
theorem QhI:OpM X (compareOp .IsNot) QgL:=by
  intro pins s σ H x y v u Q I rx ry h
  obtain ⟨F,p,q,r,h1,h2,h3,h4,w⟩:=h
  cases q with
  | non =>
    have h4:some (PV.bl (!isN p))=some r:=h4
    cases h4
    unfold Rep at h3
    exact op_notN pins s σ H x y v u Q I rx ry ⟨h3,by rw [Qkd h2];exact w.here h1 (Yt _)⟩
  | bl b =>
    cases p with
    | bl a =>
      cases h4
      unfold Rep at h2 h3
      exact op_notB pins s σ H x y v u Q I rx ry ⟨a,b,h2,h3,w.here h1 (Yt _)⟩
    | _=>cases h4
  | _=>cases p <;> cases h4
noncomputable def pIx:PV→PV→Option PV
  | .lst xs,.int i=>atI xs i
  | .tup xs,.int i=>atI xs i
  | .str z,.int i=>if z.length≤LIM then (atI z.cps.toList i).map fun c => .str ⟨#[c]⟩ else none
  | _,_=>none
theorem Qkj {K:PySem.W.Frag} {F:Hp} {xs:List PV} {vs:List V} {i:Int} {r:PV} (h:RepL K F xs vs) (e:atI xs i=some r):∃ v,atI vs i=some v∧Rep K F r v:=by
  unfold atI at e ⊢
  rw [h.length]
  cases q:ixN xs.length i with
  | none=>rw [q] at e;cases e
  | some j =>
    rw [q] at e
    exact h.get e
theorem Zt:IxR X (rM2 X.K pIx):=by
  intro value slice pins s σ H x y v u Q I rx ry h hs
  obtain ⟨F,p,q,r,h1,h2,h3,h4,w⟩:=h
  cases p <;> cases q <;> first
    | (exfalso;cases h4;done)
    | skip
  · rename_i z i
    have h4:(if z.length≤LIM then (atI z.cps.toList i).map fun c=>PV.str ⟨#[c]⟩ else none)=some r:=h4
    by_cases c:z.length≤LIM
    · rw [if_pos c] at h4
      cases e:atI z.cps.toList i with
      | none=>rw [e] at h4;cases h4
      | some k =>
        rw [e] at h4
        cases h4
        unfold Rep at h2 h3
        exact ix_str value slice pins s σ H x y v u Q I rx ry ⟨z,i,k,h2,h3,Nat.le_trans c Yl,e,w.here h1 (QcQ _)⟩ hs
    · rw [if_neg c] at h4;cases h4
  · rename_i xs i
    have h4:atI xs i=some r:=h4
    unfold Rep at h2 h3
    obtain ⟨a,vs,rfl,k2,k3⟩:=h2
    obtain ⟨rv,e1,e2⟩:=Qkj k3 h4
    exact ix_tup value slice pins s σ H _ y v u Q I rx ry ⟨a,vs,i,rv,rfl,h3,h1.seqT k2,e1,w.here h1 e2⟩ hs
  · rename_i xs i
    have h4:atI xs i=some r:=h4
    unfold Rep at h2 h3
    obtain ⟨a,vs,rfl,k2,k3⟩:=h2
    obtain ⟨rv,e1,e2⟩:=Qkj k3 h4
    exact ix_list value slice pins s σ H _ y v u Q I rx ry ⟨a,vs,i,rv,rfl,h3,h1.seq k2,e1,w.here h1 e2⟩ hs
end
end L2.PM

noncomputable section
namespace L2.PM
open PySem PySem.Spec PyProof.Rows

section
variable {X:Cx} {e a b c:Expr} {es:List Expr} {ms ns ls:List Nat} {m m1 m2 m3:MEx} {pos p2:Pos}

theorem Qg {α β:Type} {x:Option α} {f:α→Option β} {r:β} (h:x.bind f=some r):∃ y,x=some y∧f y=some r:=by
  cases x with
  | none=>cases h
  | some y=>exact ⟨y,rfl,h⟩
theorem Yv {α β:Type} {x:Option α} {f:α→β} {r:β} (h:x.map f=some r):∃ y,x=some y∧f y=r:=by
  cases x with
  | none=>cases h
  | some y=>exact ⟨y,rfl,Option.some.inj h⟩

noncomputable def OM (X:Cx) (ms:List Nat) (e:Option Expr) (m:PEnv→Option (Option Int)):Prop :=
  PO X e fun σ H Q=>∃ F γ r,Same F H∧ERep X.K F σ γ ms∧m γ=some r∧∀ H' F',Grow F H F' H'→Q r H'
noncomputable def mNo:PEnv→Option (Option Int):=fun _=>some none
noncomputable def pInt:PV→Option (Option Int)
  | .int i=>some (some i)
  | _=>none
noncomputable def mSo (m:MEx):PEnv→Option (Option Int):=fun γ=>(m γ).bind pInt
theorem Qeu:OM X [] none mNo:=fun pins s σ H Q I ⟨F,γ,r,h1,h2,h3,w⟩=>po_none pins s σ H Q I (by
  cases h3
  exact w H F (.refl h1))
theorem QbN (h:EM X ms e m):OM X ms (some e) (mSo m):=fun pins s σ H Q I ⟨F,γ,r,h1,h2,h3,w⟩=>po_some h pins s σ H Q I (by
  obtain ⟨p,e1,e2⟩:=Qg h3
  refine ⟨F,γ,p,h1,h2,e1,fun v H' F' g q => ?_⟩
  cases p with
  | int i =>
    unfold Rep at q
    cases e2
    exact ⟨i,q,w H' F' g⟩
  | _=>cases e2)
noncomputable def cutP (xs:List α) (lo hi:Option Int):List α:=(xs.drop (HT.sIx xs.length 0 lo)).take (HT.sIx xs.length xs.length hi - HT.sIx xs.length 0 lo)
noncomputable def pCut:PV→Option Int→Option Int→Option (List PV)
  | .lst xs,lo,hi=>some (cutP xs lo hi)
  | _,_,_=>none
noncomputable def sl3 (f:PV→Option Int→Option Int→Option α) (m:MEx) (ml mh:PEnv→Option (Option Int)):PEnv→Option α:=fun γ=>(m γ).bind fun x=>(ml γ).bind fun l=>(mh γ).bind fun h=>f x l h
variable {lo hi:Option Expr} {ml mh:PEnv→Option (Option Int)}
theorem QgS (he:EM X ms e m) (hl:OM X ns lo ml) (hh:OM X ls hi mh):EO X (ms++(ns++ls)) (.Subscript e (.Slice lo hi none p2) pos) (sl3 pCut m ml mh):=by
  refine PE.imp (QhF sl_list he hl hh) fun σ H Q ⟨F,γ,r,h1,h2,h3,w⟩ => ?_
  obtain ⟨x,e1,h3⟩:=Qg h3
  obtain ⟨l,e2,h3⟩:=Qg h3
  obtain ⟨h,e3,h3⟩:=Qg h3
  refine ⟨F,γ,x,h1,h2.left,e1,fun vx H1 F1 g1 r1=>⟨F1,γ,l,g1.sub,h2.right.left.mono g1.ext,e2,fun H2 F2 g2=>⟨F2,γ,h,g2.sub,h2.right.right.mono (g1.ext.trans g2.ext),e3,fun H3 F3 g3 => ?_⟩⟩⟩
  have g:=g1.trans (g2.trans g3)
  cases x with
  | lst xs =>
    cases h3
    unfold Rep at r1
    obtain ⟨a,vs,rfl,k2,k3⟩:=r1
    have gg:=g2.ext.trans g3.ext
    refine ⟨a,vs,rfl,g3.sub.seq (gg.seq k2),fun p hp => ?_⟩
    have nF:F3 p=none:=g3.sub.free hp
    refine w p _ _ F3 (g.trans (.side g3.sub hp)) (g.same.free hp) nF Qv ?_
    unfold cutV cutP
    rw [k3.length]
    exact ((k3.drop _).take _).mono gg
  | _=>cases h3
variable {t1 t2:PEnv→Option Bool} {rest:List Expr}
noncomputable def WM (X:Cx) (ms:List Nat) (e:Expr) (m:PEnv→Option Bool):Prop:=PW X e (tMT X.K ms m)
theorem WM.tm {e:Expr} (h:WM X ms e t1):TM X ms e t1:=PW.pt h
theorem _root_.L2.PW.imp {t t':TT} (h:PW X e t) (i:∀ σ H Q,t' σ H Q→t σ H Q):PW X e t':=fun whole pins s σ H Q I q=>h whole pins s σ H Q I (i σ H Q q)
theorem XX (h:TM X ms a t1):WM X ms (.BoolOp .And [a] pos) t1:=pw_and1 h
theorem QgH (h:TM X ms a t1):WM X ms (.BoolOp .Or [a] pos) t1:=pw_or1 h
noncomputable def bAnd (t1 t2:PEnv→Option Bool):PEnv→Option Bool:=fun γ=>(t1 γ).bind fun x=>if x=true then t2 γ else some false
noncomputable def bOr (t1 t2:PEnv→Option Bool):PEnv→Option Bool:=fun γ=>(t1 γ).bind fun x=>if x=true then some true else t2 γ
noncomputable def bNot (t1:PEnv→Option Bool):PEnv→Option Bool:=fun γ=>(t1 γ).map not
theorem QbT (h1:TM X ms a t1) (h2:WM X ns (.BoolOp .And (b :: rest) pos) t2):WM X (ms++ns) (.BoolOp .And (a :: b :: rest) pos) (bAnd t1 t2) :=
  PW.imp (pw_and h1 h2) fun σ H Q ⟨F,γ,r,k1,k2,k3,w⟩=>by
    obtain ⟨x,e1,k3⟩:=Qg k3
    refine ⟨F,γ,x,k1,k2.left,e1,fun H1 F1 g1 => ?_⟩
    cases x with
    | true =>
      rw [if_pos rfl] at k3 ⊢
      exact ⟨F1,γ,r,g1.sub,k2.right.mono g1.ext,k3,fun H2 F2 g2=>w H2 F2 (g1.trans g2)⟩
    | false =>
      rw [if_neg Bool.false_ne_true] at k3 ⊢
      cases k3
      exact w H1 F1 g1
theorem Qjl (h1:TM X ms a t1) (h2:WM X ns (.BoolOp .Or (b :: rest) pos) t2):WM X (ms++ns) (.BoolOp .Or (a :: b :: rest) pos) (bOr t1 t2) :=
  PW.imp (pw_or h1 h2) fun σ H Q ⟨F,γ,r,k1,k2,k3,w⟩=>by
    obtain ⟨x,e1,k3⟩:=Qg k3
    refine ⟨F,γ,x,k1,k2.left,e1,fun H1 F1 g1 => ?_⟩
    cases x with
    | false =>
      rw [if_neg Bool.false_ne_true] at k3 ⊢
      exact ⟨F1,γ,r,g1.sub,k2.right.mono g1.ext,k3,fun H2 F2 g2=>w H2 F2 (g1.trans g2)⟩
    | true =>
      rw [if_pos rfl] at k3 ⊢
      cases k3
      exact w H1 F1 g1
theorem Qai (h:TM X ms a t1):TM X ms (.UnaryOp .Not a pos) (bNot t1) :=
  PT.imp (pt_not h) fun σ H Q ⟨F,γ,r,k1,k2,k3,w⟩=>by
    obtain ⟨x,e1,k3⟩:=Yv k3
    subst k3
    exact ⟨F,γ,x,k1,k2,e1,w⟩
noncomputable def tru:PV→Option Bool
  | .non=>some false
  | .bl b=>some b
  | .int i=>some (i != 0)
  | .str y=>if y.length≤LIM then some ((y.length:Int) != 0) else none
  | .tup xs=>some (!xs.isEmpty)
  | .lst xs=>some (!xs.isEmpty)
  | .obj _ _ _=>none
  | .opq _=>none
noncomputable def mTru (m:MEx):PEnv→Option Bool:=fun γ=>(m γ).bind tru
theorem Qdx {K:PySem.W.Frag} {F:Hp} {xs:List PV} {vs:List V} (h:RepL K F xs vs):vs.isEmpty=xs.isEmpty:=by
  have:=h.length
  cases vs <;> cases xs <;> simp_all
theorem tru_rep {K:PySem.W.Frag} {F H:Hp} {p:PV} {v:V} {k:Bool} (hs:Same F H) (h:Rep K F p v) (e:tru p=some k):TruV K v H k:=by
  cases p <;> unfold Rep at h
  · subst h;cases e;rfl
  · subst h;cases e;rfl
  · subst h;cases e;rfl
  · subst h
    rename_i y
    have e:(if y.length≤LIM then some ((y.length:Int) != 0) else none)=some k:=e
    obtain ⟨c,rfl⟩:=QS e
    exact ⟨Nat.le_trans c Yl,rfl⟩
  · obtain ⟨a,vs,rfl,k2,k3⟩:=h
    cases e
    exact .inr (.inl ⟨vs,hs.seqT k2,by rw [Qdx k3]⟩)
  · obtain ⟨a,vs,rfl,k2,k3⟩:=h
    cases e
    exact .inl ⟨vs,hs.seq k2,by rw [Qdx k3]⟩
  · cases e
  · cases e
theorem QB (h:EM X ms e m) (he:∀ whole,isTrue e X.env whole=(do let v ← whole;standAt e.pos;holding [v] (truthy v)):=by intro _;rfl):TM X ms e (mTru m) :=
  PT.imp (pt_truth h he) fun σ H Q ⟨F,γ,r,k1,k2,k3,w⟩=>by
    obtain ⟨p,e1,e2⟩:=Qg k3
    exact ⟨F,γ,p,k1,k2,e1,fun v H' F' g q=>⟨r,tru_rep g.sub q e2,w H' F' g⟩⟩
noncomputable def vAnd (m1 m2:MEx):MEx:=fun γ=>(m1 γ).bind fun x=>(isB x).bind fun k=>if k=true then m2 γ else some (.bl false)
theorem isB_rep {K:PySem.W.Frag} {F:Hp} {p:PV} {v:V} {k:Bool} (h:Rep K F p v) (e:isB p=some k):v = .bl k:=by
  cases p with
  | bl b=>unfold Rep at h;cases e;exact h
  | _=>cases e
theorem em_one {op} (h:EM X ms a m):EM X ms (.BoolOp op [a] pos) m:=pe_one h
theorem em_and (h1:EM X ms a m1) (h2:EM X ns (.BoolOp .And (b :: rest) pos) m2):EM X (ms++ns) (.BoolOp .And (a :: b :: rest) pos) (vAnd m1 m2) :=
  PE.imp (pe_and h1 h2) fun σ H Q ⟨F,γ,r,k1,k2,k3,w⟩=>by
    obtain ⟨x,e1,k3⟩:=Qg k3
    obtain ⟨k,e2,k3⟩:=Qg k3
    refine ⟨F,γ,x,k1,k2.left,e1,fun v H1 F1 g1 q=>⟨k,isB_rep q e2,?_⟩⟩
    cases k with
    | true =>
      rw [if_pos rfl] at k3 ⊢
      exact ⟨F1,γ,r,g1.sub,k2.right.mono g1.ext,k3,w.go g1⟩
    | false =>
      rw [if_neg Bool.false_ne_true] at k3 ⊢
      cases k3
      exact (w.go g1).here g1.sub (Yt _)
noncomputable def un1 (f:PV→Option PV) (m:MEx):MEx:=fun γ=>(m γ).bind f
noncomputable def pNeg:PV→Option PV
  | .int i=>some (.int (-i))
  | _=>none
noncomputable def pInv:PV→Option PV
  | .int i=>some (.int (Builtin.bitNot i))
  | _=>none
theorem QgU (h:EM X ms a m):EM X ms (.UnaryOp .USub a pos) (un1 pNeg m) :=
  PE.imp (pe_un un_neg h) fun σ H Q ⟨F,γ,r,k1,k2,k3,w⟩=>by
    obtain ⟨x,e1,k3⟩:=Qg k3
    refine ⟨F,γ,x,k1,k2,e1,fun v H1 F1 g1 q => ?_⟩
    cases x with
    | int i=>unfold Rep at q;cases k3;exact ⟨i,q,(w.go g1).here g1.sub (QZ _)⟩
    | _=>cases k3
theorem em_inv (h:EM X ms a m):EM X ms (.UnaryOp .Invert a pos) (un1 pInv m) :=
  PE.imp (pe_un un_inv h) fun σ H Q ⟨F,γ,r,k1,k2,k3,w⟩=>by
    obtain ⟨x,e1,k3⟩:=Qg k3
    refine ⟨F,γ,x,k1,k2,e1,fun v H1 F1 g1 q => ?_⟩
    cases x with
    | int i=>unfold Rep at q;cases k3;exact ⟨i,q,(w.go g1).here g1.sub (QZ _)⟩
    | _=>cases k3

variable {ma:PEnv→Option (List PV)}
noncomputable def aNil:PEnv→Option (List PV):=fun _=>some []
noncomputable def Qe (m:MEx) (ma:PEnv→Option (List PV)):PEnv→Option (List PV):=fun γ=>(m γ).bind fun x=>(ma γ).map (x :: ·)
theorem Qf:AM X [] [] aNil:=PA.imp QgK fun σ H Q ⟨F,γ,r,k1,k2,k3,w⟩=>by
  cases k3
  exact w [] H F (.refl k1) .nil
theorem Qb (h:EM X ms e m) (hr:AM X ns es ma) (hs:starEach (e :: es) X.env=(false,eval e X.env) :: starEach es X.env:=by rfl):AM X (ms++ns) (e :: es) (Qe m ma) :=
  PA.imp (QbM h hr hs) fun σ H Q ⟨F,γ,r,k1,k2,k3,w⟩=>by
    obtain ⟨x,e1,k3⟩:=Qg k3
    obtain ⟨xs,e2,k3⟩:=Yv k3
    subst k3
    refine ⟨F,γ,x,k1,k2.left,e1,fun v H1 F1 g1 q1=>⟨F1,γ,xs,g1.sub,k2.right.mono g1.ext,e2,fun vs H2 F2 g2 q2 => ?_⟩⟩
    exact w (v :: vs) H2 F2 (g1.trans g2) (.cons (q1.mono g2.ext) q2)
noncomputable def mLim (m:PEnv→Option (List PV)):PEnv→Option (List PV):=fun γ=>(m γ).bind fun xs=>if xs.length≤LIM then some xs else none
noncomputable def mTup (m:PEnv→Option (List PV)):MEx:=fun γ=>(m γ).bind fun xs=>if xs.length≤LIM then some (.tup xs) else none
theorem Yu {x1} (h:AM X ms es ma):EM X ms (.Tuple es x1 pos) (mTup ma) :=
  PE.imp (pe_tup h) fun σ H Q ⟨F,γ,r,k1,k2,k3,w⟩=>by
    obtain ⟨xs,e1,k3⟩:=Qg k3
    obtain ⟨c,rfl⟩:=QS k3
    refine ⟨F,γ,xs,k1,k2,e1,fun vs H1 F1 g1 q1=>⟨by rw [q1.length];exact Nat.le_trans c Yl,fun p hp => ?_⟩⟩
    refine w _ _ _ (g1.trans (.laid g1.sub hp)) ?_
    unfold Rep
    exact ⟨p,vs,rfl,.of Qv,q1.mono (Grow.laid g1.sub hp).ext⟩
theorem ZN (h:AM X ms es ma):EO X ms (.List es pos) (mLim ma) :=
  PE.imp (pe_lst h) fun σ H Q ⟨F,γ,r,k1,k2,k3,w⟩=>by
    obtain ⟨xs,e1,k3⟩:=Qg k3
    obtain ⟨c,rfl⟩:=QS k3
    refine ⟨F,γ,xs,k1,k2,e1,fun vs H1 F1 g1 q1=>⟨by rw [q1.length];exact Nat.le_trans c Yl,fun p hp => ?_⟩⟩
    exact w p vs _ F1 (g1.trans (.side g1.sub hp)) (g1.same.free hp) (g1.sub.free hp) Qv q1

noncomputable def rMA (K:PySem.W.Frag) (g:List PV→Option PV):List V→Hp→VK→Prop:=fun vs H Q=>∃ F ps r,Same F H∧RepL K F ps vs∧g ps=some r∧Wv K F H r Q
noncomputable def rMAO (K:PySem.W.Frag) (g:List PV→Option (List PV)):List V→Hp→VK→Prop:=fun vs H Q=>∃ F ps r,Same F H∧RepL K F ps vs∧g ps=some r∧Wo K F H r Q
noncomputable def Qjt (X:Cx) (f:Value) (g:List PV→Option PV):Prop:=Qac X f (rMA X.K g)
noncomputable def CallO (X:Cx) (f:Value) (g:List PV→Option (List PV)):Prop:=Qac X f (rMAO X.K g)
noncomputable def Qk (g:List PV→Option α) (ma:PEnv→Option (List PV)):PEnv→Option α:=fun γ=>(ma γ).bind g
theorem tCB_of {K:PySem.W.Frag} {g:List PV→Option PV} {σ:St} {H:Hp} {Q:VK} (h:tM K ms (Qk g ma) σ H Q):tCB (rMA K g) (tMA K ms ma) σ H Q:=by
  obtain ⟨F,γ,r,k1,k2,k3,w⟩:=h
  obtain ⟨xs,e1,k3⟩:=Qg k3
  exact ⟨F,γ,xs,k1,k2,e1,fun vs H1 F1 g1 q1=>⟨F1,xs,r,g1.sub,q1,k3,w.go g1⟩⟩
theorem tCBO_of {K:PySem.W.Frag} {g:List PV→Option (List PV)} {σ:St} {H:Hp} {Q:VK} (h:tMO K ms (Qk g ma) σ H Q):tCB (rMAO K g) (tMA K ms ma) σ H Q:=by
  obtain ⟨F,γ,r,k1,k2,k3,w⟩:=h
  obtain ⟨xs,e1,k3⟩:=Qg k3
  exact ⟨F,γ,xs,k1,k2,e1,fun vs H1 F1 g1 q1=>⟨F1,xs,r,g1.sub,q1,k3,w.go g1⟩⟩
variable {x:Str} {p:Pos} {id T:String}
theorem Yn {g:List PV→Option PV} (hc:Qjt X (.builtin id) g) (hg:Gl X x) (hm:X.mg x=none) (hv:bootBuiltins x=some (.builtin id)) (ha:AM X ms (e :: es) ma) (hn:x ≠ "__name__":=by decide) (hdb:(x==("__debug__":Str))=false:=by decide)
    (he:starEach (e :: es) X.env=(false,eval e X.env) :: starEach es X.env:=by rfl) (hpl:(backTo pos (starEach es X.env)).any (·.1)=false:=by rfl):EM X ms (.Call (.Name x p) (e :: es) [] pos) (Qk g ma) :=
  PE.imp (Qbp hc hg hm hv ha hn hdb he hpl) fun _ _ _ h=>tCB_of h
theorem QhY {g:List PV→Option (List PV)} (hc:CallO X (.builtin id) g) (hg:Gl X x) (hm:X.mg x=none) (hv:bootBuiltins x=some (.builtin id)) (ha:AM X ms (e :: es) ma) (hn:x ≠ "__name__":=by decide) (hdb:(x==("__debug__":Str))=false:=by decide)
    (he:starEach (e :: es) X.env=(false,eval e X.env) :: starEach es X.env:=by rfl) (hpl:(backTo pos (starEach es X.env)).any (·.1)=false:=by rfl):EO X ms (.Call (.Name x p) (e :: es) [] pos) (Qk g ma) :=
  PE.imp (Qbp hc hg hm hv ha hn hdb he hpl) fun _ _ _ h=>tCBO_of h
theorem YR {g:List PV→Option PV} (hc:Qjt X (.type T) g) (hg:Gl X x) (hm:X.mg x=none) (hv:bootBuiltins x=some (.type T)) (ha:AM X ms (e :: es) ma) (hn:x ≠ "__name__":=by decide) (hdb:(x==("__debug__":Str))=false:=by decide)
    (he:starEach (e :: es) X.env=(false,eval e X.env) :: starEach es X.env:=by rfl) (hpl:(backTo pos (starEach es X.env)).any (·.1)=false:=by rfl):EM X ms (.Call (.Name x p) (e :: es) [] pos) (Qk g ma) :=
  PE.imp (Qfz hc hg hm hv ha hn hdb he hpl) fun _ _ _ h=>tCB_of h
noncomputable def spM (K:PySem.W.Frag) (n:Nat) (g:List PV→Option PV):Sp:=fun vs H Q _=>vs.length=n∧rMA K g vs H Q
noncomputable def spO (K:PySem.W.Frag) (n:Nat) (g:List PV→Option (List PV)):Sp:=fun vs H Q _=>vs.length=n∧rMAO K g vs H Q
theorem tCall_of {K:PySem.W.Frag} {n:Nat} {g:List PV→Option PV} {E:XK} {σ:St} {H:Hp} {Q:VK} (hn:∀ ps r,g ps=some r→ps.length=n) (h:tM K ms (Qk g ma) σ H Q):QgV (spM K n g) [] E (tMA K ms ma) σ H Q:=by
  obtain ⟨F,γ,r,k1,k2,k3,w⟩:=h
  obtain ⟨xs,e1,k3⟩:=Qg k3
  refine ⟨F,γ,xs,k1,k2,e1,fun vs H1 F1 g1 q1 => ?_⟩
  dsimp only
  rw [List.append_nil]
  exact ⟨by rw [q1.length];exact hn _ _ k3,F1,xs,r,g1.sub,q1,k3,w.go g1⟩
theorem Qks {K:PySem.W.Frag} {n:Nat} {g:List PV→Option (List PV)} {E:XK} {σ:St} {H:Hp} {Q:VK} (hn:∀ ps r,g ps=some r→ps.length=n) (h:tMO K ms (Qk g ma) σ H Q):QgV (spO K n g) [] E (tMA K ms ma) σ H Q:=by
  obtain ⟨F,γ,r,k1,k2,k3,w⟩:=h
  obtain ⟨xs,e1,k3⟩:=Qg k3
  refine ⟨F,γ,xs,k1,k2,e1,fun vs H1 F1 g1 q1 => ?_⟩
  dsimp only
  rw [List.append_nil]
  exact ⟨by rw [q1.length];exact hn _ _ k3,F1,xs,r,g1.sub,q1,k3,w.go g1⟩
variable {CX:CXT} {k n:Nat} {f:Addr} {fd:FuncData} {ps:List Str}
theorem em_call {g:List PV→Option PV} (F:FnOk X.prog X.w X.K X.mg X.base CX0 k f fd ps (spM X.K n g)) (hn:∀ ps r,g ps=some r→ps.length=n) (hr:Room k X.A) (hg:Gl X x) (hm:X.mg x=some (.ref f)) (hk:PySem.W.keepIn X.K (.ref f)=true) (hb:YV X.K fd ps [])
    (ha:AM X ms (e :: es) ma) (hdb:(x==("__debug__":Str))=false:=by decide) (he:starEach (e :: es) X.env=(false,eval e X.env) :: starEach es X.env:=by rfl) (hpl:(backTo pos (starEach es X.env)).any (·.1)=false:=by rfl) :
    EM X ms (.Call (.Name x p) (e :: es) [] pos) (Qk g ma) :=
  PE.imp (Qgv (E:=E0) F hr hg hm hk hb .nil Qhb ha hdb he hpl) fun _ _ _ h=>tCall_of hn h
theorem eo_call {g:List PV→Option (List PV)} (F:FnOk X.prog X.w X.K X.mg X.base CX0 k f fd ps (spO X.K n g)) (hn:∀ ps r,g ps=some r→ps.length=n) (hr:Room k X.A) (hg:Gl X x) (hm:X.mg x=some (.ref f)) (hk:PySem.W.keepIn X.K (.ref f)=true) (hb:YV X.K fd ps [])
    (ha:AM X ms (e :: es) ma) (hdb:(x==("__debug__":Str))=false:=by decide) (he:starEach (e :: es) X.env=(false,eval e X.env) :: starEach es X.env:=by rfl) (hpl:(backTo pos (starEach es X.env)).any (·.1)=false:=by rfl) :
    EO X ms (.Call (.Name x p) (e :: es) [] pos) (Qk g ma) :=
  PE.imp (Qgv (E:=E0) F hr hg hm hk hb .nil Qhb ha hdb he hpl) fun _ _ _ h=>Qks hn h
end
end L2.PM

noncomputable section
namespace L2.PM
open PySem PySem.Spec PyProof.Rows

inductive Out where
  | nx (γ:PEnv) | rt (p:PV) | ro (xs:List PV) | bk (γ:PEnv) | ct (γ:PEnv)
noncomputable abbrev MSt:=PEnv→Option Out
noncomputable def flat:PV→Bool
  | .tup _=>false
  | .lst _=>false
  | .obj _ _ _=>false
  | _=>true
theorem Rep.flat {K:PySem.W.Frag} {F F':Hp} {p:PV} {v:V} (f:flat p=true) (h:Rep K F p v):Rep K F' p v:=by
  cases p <;> unfold Rep at h ⊢ <;> first | exact h | (cases f;done)
theorem RepL.flat {K:PySem.W.Frag} {F F':Hp}:∀ {ps:List PV} {vs:List V},ps.all PM.flat=true→RepL K F ps vs→RepL K F' ps vs
  | [],_,_,h=>by unfold RepL at h ⊢;exact h
  | p :: ps,_,f,h=>by
    rw [List.all_cons,Bool.and_eq_true] at f
    unfold RepL at h
    obtain ⟨v,r,rfl,h2,h3⟩:=h
    exact .cons (h2.flat f.1) (RepL.flat f.2 h3)

structure SR (K:PySem.W.Frag) (B F₀ F:Hp) (σ:St) (H:Hp) (γ:PEnv):Prop where
  sub:Same F H
  base:Same B H
  f0:Same F₀ F
  fb:∀ a o,F a=some o→F₀ a=some o∨B a=none
  len:σ.length=γ.length
  fz:∀ (i:Nat) p,γ[i]?=some (.fz p)→∃ v,σ[i]?=some (some v)∧Rep K F p v
  ow:∀ (i:Nat) xs,γ[i]?=some (.ow xs)→∃ a vs,σ[i]?=some (some (.ref a))∧H a=some (.lst vs)∧RepL K F xs vs∧F a=none∧B a=none
  dj:∀ (i j:Nat) xs ys a,i≠j→γ[i]?=some (.ow xs)→γ[j]?=some (.ow ys)→σ[i]?=some (some (.ref a))→σ[j]?≠some (some (.ref a))

noncomputable def frz1 (γ:PEnv) (i:Nat):PEnv:=match γ[i]? with
  | some (.ow xs)=>γ.set i (.fz (.lst xs))
  | _=>γ
noncomputable def frz (ms:List Nat) (γ:PEnv):PEnv:=ms.foldl frz1 γ
theorem QkV (γ:PEnv) (i j:Nat):getV (frz1 γ i) j=getV γ j:=by
  unfold frz1
  split
  · rename_i xs h
    unfold getV
    by_cases e:i=j
    · subst e
      have hi:i < γ.length:=(List.getElem?_eq_some_iff.mp h).1
      rw [List.getElem?_set_self hi,h]
      rfl
    · rw [List.getElem?_set_ne e]
  · rfl
theorem QeG:∀ (ms:List Nat) (γ:PEnv) (j:Nat),getV (frz ms γ) j=getV γ j
  | [],_,_=>rfl
  | i :: ms,γ,j=>by
    show getV (frz ms (frz1 γ i)) j=_
    rw [QeG ms,QkV]

section
variable {K:PySem.W.Frag} {B F₀ F F' H H':Hp} {σ:St} {γ:PEnv}
theorem SR.frz1 (S:SR K B F₀ F σ H γ) (i:Nat):∃ F1,SR K B F₀ F1 σ H (frz1 γ i)∧Same F F1:=by
  unfold PM.frz1
  split
  · rename_i xs h
    obtain ⟨a,vs,h1,h2,h3,h4,h5⟩:=S.ow i xs h
    have hi:i < γ.length:=(List.getElem?_eq_some_iff.mp h).1
    have gx:Same F (upd F a (.lst vs)):=fun b u q=>by rw [Qs (Qt q h4)];exact q
    refine ⟨upd F a (.lst vs),⟨fun b u q => ?_,S.base,S.f0.trans gx,fun b u q => ?_,by simpa using S.len,fun j p e => ?_,fun j ys e => ?_,fun j k ys zs c hjk e1 e2 e3 => ?_⟩,gx⟩
    · by_cases z:b=a
      · subst z;rw [Qv] at q;rw [h2];exact q
      · rw [Qs z] at q;exact S.sub b u q
    · by_cases z:b=a
      · subst z;exact .inr h5
      · rw [Qs z] at q;exact S.fb b u q
    · by_cases e':i=j
      · subst e'
        rw [List.getElem?_set_self hi] at e
        cases e
        refine ⟨.ref a,h1,?_⟩
        unfold Rep
        exact ⟨a,vs,rfl,.of Qv,h3.mono gx⟩
      · rw [List.getElem?_set_ne e'] at e
        obtain ⟨v,k1,k2⟩:=S.fz j p e
        exact ⟨v,k1,k2.mono gx⟩
    · by_cases e':i=j
      · subst e'
        rw [List.getElem?_set_self hi] at e
        cases e
      · rw [List.getElem?_set_ne e'] at e
        obtain ⟨c,us,k1,k2,k3,k4,k5⟩:=S.ow j ys e
        have hca:c≠a:=fun z=>by
          subst z
          exact S.dj i j xs ys c e' h e h1 k1
        exact ⟨c,us,k1,k2,k3.mono gx,by rw [Qs hca];exact k4,k5⟩
    · have f:∀ (n:Nat) (zs:List PV),(γ.set i (.fz (.lst xs)))[n]?=some (.ow zs)→γ[n]?=some (.ow zs):=fun n zs q=>by
        by_cases e':i=n
        · subst e'
          rw [List.getElem?_set_self hi] at q
          cases q
        · rw [List.getElem?_set_ne e'] at q;exact q
      exact S.dj j k ys zs c hjk (f j ys e1) (f k zs e2) e3
  · exact ⟨F,S,Same.refl _⟩
theorem SR.frz:∀ (ms:List Nat) {F:Hp} {γ:PEnv},SR K B F₀ F σ H γ→∃ F1,SR K B F₀ F1 σ H (frz ms γ)∧Same F F1
  | [],F,_,S=>⟨F,S,Same.refl _⟩
  | i :: ms,F,γ,S=>by
    obtain ⟨F1,S1,e1⟩:=S.frz1 i
    obtain ⟨F2,S2,e2⟩:=SR.frz ms S1
    exact ⟨F2,S2,e1.trans e2⟩
theorem QkX {γ:PEnv} {i j:Nat} (h:∀ xs,γ[j]?≠some (.ow xs)):∀ xs,(PM.frz1 γ i)[j]?≠some (.ow xs):=fun xs=>by
  unfold PM.frz1
  split
  · rename_i ys e
    by_cases e':i=j
    · subst e'
      exact absurd e (h ys)
    · rw [List.getElem?_set_ne e'];exact h xs
  · exact h xs
theorem QkW {γ:PEnv} {i:Nat}:∀ xs,(PM.frz1 γ i)[i]?≠some (.ow xs):=fun xs=>by
  unfold PM.frz1
  split
  · rename_i ys e
    have hi:i < γ.length:=(List.getElem?_eq_some_iff.mp e).1
    rw [List.getElem?_set_self hi]
    intro z;cases z
  · rename_i h
    exact h xs
theorem QhU:∀ (ms:List Nat) {γ:PEnv} {j:Nat},(∀ xs,γ[j]?≠some (.ow xs))→∀ xs,(PM.frz ms γ)[j]?≠some (.ow xs)
  | [],_,_,h=>h
  | i :: ms,γ,j,h=>QhU ms (γ:=PM.frz1 γ i) (QkX h)
theorem Qkf:∀ (ms:List Nat) {γ:PEnv} {j:Nat},j∈ms→∀ xs,(PM.frz ms γ)[j]?≠some (.ow xs)
  | [],_,_,h=>by cases h
  | i :: ms,γ,j,h=>by
    rcases List.mem_cons.mp h with rfl | h
    · exact QhU ms (γ:=PM.frz1 γ j) QkW
    · exact Qkf ms (γ:=PM.frz1 γ i) h
theorem SR.erep (S:SR K B F₀ F σ H γ) {ms:List Nat} (h:∀ i∈ms,∀ xs,γ[i]?≠some (.ow xs)):ERep K F σ γ ms:=fun i hi p e=>by
  unfold getV at e
  cases q:γ[i]? with
  | none=>rw [q] at e;cases e
  | some t =>
    cases t with
    | un=>rw [q] at e;cases e
    | fz p' =>
      rw [q] at e
      cases e
      exact S.fz i p q
    | ow xs=>exact absurd q (h i hi xs)
theorem SR.see (S:SR K B F₀ F σ H γ) (ms:List Nat):∃ F1,SR K B F₀ F1 σ H (PM.frz ms γ)∧Same F F1∧ERep K F1 σ γ ms:=by
  obtain ⟨F1,S1,e1⟩:=SR.frz ms S
  refine ⟨F1,S1,e1,fun i hi p e => ?_⟩
  exact S1.erep (ms:=ms) (fun j hj=>Qkf ms hj) i hi p (by rw [QeG];exact e)
theorem SR.same (S:SR K B F₀ F σ H γ) (e:Same H H'):SR K B F₀ F σ H' γ :=
  ⟨S.sub.trans e,S.base.trans e,S.f0,S.fb,S.len,S.fz,fun i xs h=>by
    obtain ⟨a,vs,h1,h2,h3⟩:=S.ow i xs h
    exact ⟨a,vs,h1,e _ _ h2,h3⟩,S.dj⟩
theorem SR.grow (S:SR K B F₀ F σ H γ) (g:Grow F H F' H'):SR K B F₀ F' σ H' γ:=by
  refine ⟨g.sub,S.base.trans g.same,S.f0.trans g.ext,fun a o e => ?_,S.len,fun i p h => ?_,fun i xs h => ?_,S.dj⟩
  · rcases g.new a o e with z | z
    · exact S.fb a o z
    · exact .inr (S.base.free z)
  · obtain ⟨v,h1,h2⟩:=S.fz i p h
    exact ⟨v,h1,h2.mono g.ext⟩
  · obtain ⟨a,vs,h1,h2,h3,h4,h5⟩:=S.ow i xs h
    refine ⟨a,vs,h1,g.same _ _ h2,h3.mono g.ext,?_,h5⟩
    cases q:F' a with
    | none=>rfl
    | some o =>
      rcases g.new a o q with z | z
      · rw [h4] at z;cases z
      · rw [h2] at z;cases z
theorem SR.setFz (S:SR K B F₀ F σ H γ) (i:Nat) {p:PV} {v:V} (r:Rep K F p v):SR K B F₀ F (σ.set i (some v)) H (γ.set i (.fz p)):=by
  have f:∀ (n:Nat) (zs:List PV),(γ.set i (.fz p))[n]?=some (.ow zs)→i≠n∧γ[n]?=some (.ow zs):=fun n zs q=>by
    by_cases e':i=n
    · subst e'
      by_cases hi:i < γ.length
      · rw [List.getElem?_set_self hi] at q;cases q
      · rw [List.getElem?_eq_none (by simpa using hi)] at q;cases q
    · rw [List.getElem?_set_ne e'] at q;exact ⟨e',q⟩
  refine ⟨S.sub,S.base,S.f0,S.fb,by simpa using S.len,fun j q e => ?_,fun j ys e => ?_,fun j k ys zs c hjk e1 e2 e3 => ?_⟩
  · by_cases e':i=j
    · subst e'
      by_cases hi:i < γ.length
      · rw [List.getElem?_set_self hi] at e
        cases e
        exact ⟨v,by rw [List.getElem?_set_self (by rw [S.len];exact hi)],r⟩
      · rw [List.getElem?_eq_none (by simpa using hi)] at e;cases e
    · rw [List.getElem?_set_ne e'] at e
      obtain ⟨u,h1,h2⟩:=S.fz j q e
      exact ⟨u,by rw [List.getElem?_set_ne e'];exact h1,h2⟩
  · obtain ⟨ne,e⟩:=f j ys e
    obtain ⟨a,vs,h1,h2⟩:=S.ow j ys e
    exact ⟨a,vs,by rw [List.getElem?_set_ne ne];exact h1,h2⟩
  · obtain ⟨n1,e1⟩:=f j ys e1
    obtain ⟨n2,e2⟩:=f k zs e2
    rw [List.getElem?_set_ne n1] at e3
    rw [List.getElem?_set_ne n2]
    exact S.dj j k ys zs c hjk e1 e2 e3
theorem SR.setOw (S:SR K B F₀ F σ H γ) (i:Nat) {xs:List PV} {a:Addr} {vs:List V} (hH:H a=some (.lst vs)) (r:RepL K F xs vs) (nF:F a=none) (nB:B a=none)
    (nd:∀ (j:Nat) ys,i≠j→γ[j]?=some (.ow ys)→σ[j]?≠some (some (.ref a))):SR K B F₀ F (σ.set i (some (.ref a))) H (γ.set i (.ow xs)):=by
  refine ⟨S.sub,S.base,S.f0,S.fb,by simpa using S.len,fun j q e => ?_,fun j ys e => ?_,fun j k ys zs c hjk e1 e2 e3 e4 => ?_⟩
  · by_cases e':i=j
    · subst e'
      by_cases hi:i < γ.length
      · rw [List.getElem?_set_self hi] at e;cases e
      · rw [List.getElem?_eq_none (by simpa using hi)] at e;cases e
    · rw [List.getElem?_set_ne e'] at e
      obtain ⟨u,h1,h2⟩:=S.fz j q e
      exact ⟨u,by rw [List.getElem?_set_ne e'];exact h1,h2⟩
  · by_cases e':i=j
    · subst e'
      by_cases hi:i < γ.length
      · rw [List.getElem?_set_self hi] at e
        cases e
        exact ⟨a,vs,by rw [List.getElem?_set_self (by rw [S.len];exact hi)],hH,r,nF,nB⟩
      · rw [List.getElem?_eq_none (by simpa using hi)] at e;cases e
    · rw [List.getElem?_set_ne e'] at e
      obtain ⟨b,us,h1,h2⟩:=S.ow j ys e
      exact ⟨b,us,by rw [List.getElem?_set_ne e'];exact h1,h2⟩
  · by_cases z1:i=j
    · subst z1
      by_cases hi:i < γ.length
      · rw [List.getElem?_set_self (by rw [S.len];exact hi)] at e3
        cases e3
        rw [List.getElem?_set_ne hjk] at e2 e4
        exact nd k zs hjk e2 e4
      · rw [List.getElem?_eq_none (by simpa using hi)] at e1;cases e1
    · rw [List.getElem?_set_ne z1] at e1 e3
      by_cases z2:i=k
      · subst z2
        by_cases hi:i < γ.length
        · rw [List.getElem?_set_self (by rw [S.len];exact hi)] at e4
          cases e4
          exact nd j ys z1 e1 e3
        · rw [List.getElem?_eq_none (by simpa using hi)] at e2;cases e2
      · rw [List.getElem?_set_ne z2] at e2 e4
        exact S.dj j k ys zs c hjk e1 e2 e3 e4
theorem SR.write (S:SR K B F₀ F σ H γ) {i:Nat} {xs ys:List PV} {a:Addr} {us:List V} (hi:γ[i]?=some (.ow xs)) (ha:σ[i]?=some (some (.ref a))) (r:RepL K F ys us) :
    SR K B F₀ F σ (upd H a (.lst us)) (γ.set i (.ow ys)):=by
  obtain ⟨a',vs,h1,h2,h3,h4,h5⟩:=S.ow i xs hi
  rw [ha] at h1
  cases h1
  have hil:i < γ.length:=(List.getElem?_eq_some_iff.mp hi).1
  have stay:∀ b o,H b=some o→b≠a→upd H a (.lst us) b=some o:=fun b o e n=>by rw [Qs n];exact e
  refine ⟨fun b o e=>stay b o (S.sub b o e) (Qt e h4),fun b o e=>stay b o (S.base b o e) (Qt e h5),S.f0,S.fb,by simpa using S.len,fun j q e => ?_,fun j zs e => ?_,fun j k ws zs c hjk e1 e2 e3 e4 => ?_⟩
  · by_cases e':i=j
    · subst e'
      rw [List.getElem?_set_self hil] at e;cases e
    · rw [List.getElem?_set_ne e'] at e;exact S.fz j q e
  · by_cases e':i=j
    · subst e'
      rw [List.getElem?_set_self hil] at e
      cases e
      exact ⟨a,us,ha,Qv,r,h4,h5⟩
    · rw [List.getElem?_set_ne e'] at e
      obtain ⟨b,ts,k1,k2,k3⟩:=S.ow j zs e
      have hb:b≠a:=fun z=>by
        subst z
        exact S.dj i j xs zs b e' hi e ha k1
      exact ⟨b,ts,k1,stay _ _ k2 hb,k3⟩
  · have f:∀ (n:Nat) (ws:List PV),(γ.set i (.ow ys))[n]?=some (.ow ws)→∃ ws',γ[n]?=some (.ow ws'):=fun n ws q=>by
      by_cases e':i=n
      · subst e';exact ⟨xs,hi⟩
      · rw [List.getElem?_set_ne e'] at q;exact ⟨ws,q⟩
    obtain ⟨ws',e1⟩:=f j ws e1
    obtain ⟨zs',e2⟩:=f k zs e2
    exact S.dj j k _ _ c hjk e1 e2 e3 e4
theorem SR.up (S:SR K B F₀ F σ H γ) {F1:Hp} (e1:Same F₀ F1) (e:Same F1 F):SR K B F1 F σ H γ :=
  ⟨S.sub,S.base,e,fun a o q=>(S.fb a o q).imp (fun z=>e1 a o z) id,S.len,S.fz,S.ow,S.dj⟩
theorem SR.down {F1:Hp} (S:SR K B F1 F σ H γ) (e1:Same F₀ F1) (fb1:∀ a o,F1 a=some o→F₀ a=some o∨B a=none):SR K B F₀ F σ H γ :=
  ⟨S.sub,S.base,e1.trans S.f0,fun a o q=>(S.fb a o q).elim (fun z=>fb1 a o z) .inr,S.len,S.fz,S.ow,S.dj⟩
theorem Grow.down {F1:Hp} (g:Grow F1 B F' H') (e1:Same F₀ F1) (fb1:∀ a o,F1 a=some o→F₀ a=some o∨B a=none):Grow F₀ B F' H' :=
  ⟨e1.trans g.ext,g.sub,g.same,fun a o q=>(g.new a o q).elim (fun z=>fb1 a o z) .inr⟩
theorem SR.gr (S:SR K B F₀ F σ H γ):Grow F₀ B F H:=⟨S.f0,S.sub,S.base,S.fb⟩
end

noncomputable def OutOk (K:PySem.W.Frag) (B F₀:Hp) (D:Ends):Out→Prop
  | .nx γ=>∀ σ H F,SR K B F₀ F σ H γ→D.nx σ H
  | .rt p=>∀ v H F,Grow F₀ B F H→Rep K F p v→D.rt v H
  | .ro xs=>∀ a vs H F,Grow F₀ B F H→B a=none→F a=none→H a=some (.lst vs)→RepL K F xs vs→D.rt (.ref a) H
  | .bk γ=>∀ σ H F,SR K B F₀ F σ H γ→D.bk σ H
  | .ct γ=>∀ σ H F,SR K B F₀ F σ H γ→D.ct σ H
noncomputable def tMS (K:PySem.W.Frag) (m:MSt):TS:=fun D σ H=>∃ B F₀ F γ o,SR K B F₀ F σ H γ∧m γ=some o∧OutOk K B F₀ D o
noncomputable def SM (X:Cx) (st:Stmt) (m:MSt):Prop:=PS X st (tMS X.K m)
noncomputable def SMs (X:Cx) (sts:List Stmt) (m:MSt):Prop:=PSs X sts (tMS X.K m)

section
variable {X:Cx} {e a b c:Expr} {st:Stmt} {sts:List Stmt} {ms ns ls:List Nat} {m m1 m2 m3:MEx} {s1 s2:MSt} {pos p2:Pos}
theorem _root_.L2.PSs.imp {t t':TS} (h:PSs X sts t) (i:∀ D σ H,t' D σ H→t D σ H):PSs X sts t':=fun pins s σ H D I q=>h pins s σ H D I (i D σ H q)
noncomputable def sNx:MSt:=fun γ=>some (.nx γ)
noncomputable def sSeq (s1 s2:MSt):MSt:=fun γ=>(s1 γ).bind fun o=>match o with
  | .nx γ'=>s2 γ'
  | o=>some o
theorem Zd:SMs X [] sNx:=PSs.imp pss_nil fun D σ H ⟨B,F₀,F,γ,o,S,e,ok⟩=>by
  cases e
  exact ok σ H F S
theorem Qm (h:SM X st s1):SMs X [st] s1:=QjQ h
theorem Qh (h:SM X st s1) (hr:SMs X sts s2):SMs X (st :: sts) (sSeq s1 s2):=PSs.imp (QhE h hr) fun D σ H ⟨B,F₀,F,γ,o,S,e,ok⟩=>by
  obtain ⟨o1,e1,e2⟩:=Qg e
  refine ⟨B,F₀,F,γ,o1,S,e1,?_⟩
  cases o1 with
  | nx γ'=>exact fun σ' H' F' S'=>⟨B,F₀,F',γ',o,S',e2,ok⟩
  | rt p=>cases e2;exact ok
  | ro xs=>cases e2;exact ok
  | bk γ'=>cases e2;exact ok
  | ct γ'=>cases e2;exact ok
noncomputable def sBk:MSt:=fun γ=>some (.bk γ)
noncomputable def sCt:MSt:=fun γ=>some (.ct γ)
noncomputable def sRet (m:MEx):MSt:=fun γ=>(m γ).map .rt
noncomputable def Qcl (m:PEnv→Option (List PV)):MSt:=fun γ=>(m γ).map .ro
noncomputable def QbH (i:Nat):MSt:=fun γ=>match γ[i]? with
  | some (.ow xs)=>some (.ro xs)
  | some (.fz p)=>some (.rt p)
  | _=>none
theorem QG (h:EM X ms e m):SM X (.Return (some e) pos) (sRet m):=PS.imp (Qjx h) fun D σ H ⟨B,F₀,F,γ,o,S,e,ok⟩=>by
  obtain ⟨r,e1,e2⟩:=Yv e
  subst e2
  obtain ⟨F1,S1,x1,er⟩:=S.see ms
  exact ⟨F1,γ,r,S1.sub,er,e1,fun v H' F' g q=>ok v H' F' (S1.grow g).gr q⟩
theorem Xq {m:PEnv→Option (List PV)} (h:EO X ms e m):SM X (.Return (some e) pos) (Qcl m):=PS.imp (Qjx h) fun D σ H ⟨B,F₀,F,γ,o,S,e,ok⟩=>by
  obtain ⟨r,e1,e2⟩:=Yv e
  subst e2
  obtain ⟨F1,S1,x1,er⟩:=S.see ms
  exact ⟨F1,γ,r,S1.sub,er,e1,fun a vs H' F' g n nF hH q=>ok a vs H' F' (S1.grow g).gr (S1.base.free n) nF hH q⟩
theorem QaE (i:Nat) {x:Str} (h:PE X (.Name x p2) (tVar i)):SM X (.Return (some (.Name x p2)) pos) (QbH i):=PS.imp (Qjx h) fun D σ H ⟨B,F₀,F,γ,o,S,e,ok⟩=>by
  unfold QbH at e
  split at e
  · rename_i xs h
    cases e
    obtain ⟨a,vs,h1,h2,h3,h4,h5⟩:=S.ow i xs h
    exact ⟨.ref a,h1,ok a vs H F S.gr h5 h4 h2 h3⟩
  · rename_i p h
    cases e
    obtain ⟨v,h1,h2⟩:=S.fz i p h
    exact ⟨v,h1,ok v H F S.gr h2⟩
  · cases e
noncomputable def sIf (t:PEnv→Option Bool) (s1 s2:MSt):MSt:=fun γ=>(t γ).bind fun k=>if k=true then s1 γ else s2 γ
theorem ZS {t:PEnv→Option Bool} {xs ys:List Stmt} (hc:TM X ms c t) (ha:SMs X xs s1) (hb:SMs X ys s2):SM X (.If c xs ys pos) (sIf t s1 s2):=PS.imp (ps_if hc ha hb) fun D σ H ⟨B,F₀,F,γ,o,S,e,ok⟩=>by
  obtain ⟨k,e1,e2⟩:=Qg e
  obtain ⟨F1,S1,x1,er⟩:=S.see ms
  refine ⟨F1,γ,k,S1.sub,er,e1,fun H' F' g => ?_⟩
  cases k with
  | true=>rw [if_pos rfl] at e2 ⊢;exact ⟨B,F₀,F,γ,o,S.same g.same,e2,ok⟩
  | false=>rw [if_neg Bool.false_ne_true] at e2 ⊢;exact ⟨B,F₀,F,γ,o,S.same g.same,e2,ok⟩
noncomputable def ZD (k:Bool) (ms:List Nat) (γ:PEnv):PEnv:=if k=true then γ else frz ms γ
noncomputable def sSet (ms:List Nat) (i:Nat) (m:MEx):MSt:=fun γ=>(m γ).map fun r => .nx ((ZD (flat r) ms γ).set i (.fz r))
noncomputable def YF (ms:List Nat) (i:Nat) (m:PEnv→Option (List PV)):MSt:=fun γ=>(m γ).map fun xs => .nx ((ZD (xs.all flat) ms γ).set i (.ow xs))
theorem SR.val {K:PySem.W.Frag} {B F₀ F F1 F' H H':Hp} {σ:St} {γ:PEnv} {r:PV} {v:V} (S:SR K B F₀ F σ H γ) (S1:SR K B F₀ F1 σ H (PM.frz ms γ)) (g:Grow F1 H F' H') (q:Rep K F' r v) :
    ∃ F2,SR K B F₀ F2 σ H' (ZD (flat r) ms γ)∧Rep K F2 r v:=by
  unfold ZD
  cases f:flat r with
  | true=>rw [if_pos rfl];exact ⟨F,S.same g.same,q.flat f⟩
  | false=>rw [if_neg Bool.false_ne_true];exact ⟨F',S1.grow g,q⟩
theorem SR.valO {K:PySem.W.Frag} {B F₀ F F1 F' H H':Hp} {σ:St} {γ:PEnv} {r:List PV} {vs:List V} (S:SR K B F₀ F σ H γ) (x1:Same F F1) (S1:SR K B F₀ F1 σ H (PM.frz ms γ)) (g:Grow F1 H F' H') (q:RepL K F' r vs) :
    ∃ F2,SR K B F₀ F2 σ H' (ZD (r.all flat) ms γ)∧RepL K F2 r vs∧Same F2 F':=by
  unfold ZD
  cases f:r.all flat with
  | true=>rw [if_pos rfl];exact ⟨F,S.same g.same,q.flat f,x1.trans g.ext⟩
  | false=>rw [if_neg Bool.false_ne_true];exact ⟨F',S1.grow g,q,Same.refl _⟩
theorem Qy {i:Nat} {x:Str} (hN:X.N.Nodup) (hi:X.N[i]?=some x) (hx:Loc X.env.scope x) (h:EM X ms e m) (hs:swapsWith e (some (.Name x p2)) pos.line X.env=pure false:=by rfl) (hf:X.fn x=true∨X.env.scope.names.lookup x=some .local:=by first | exact .inl rfl | exact .inr rfl | assumption) :
    SM X (.Assign [.Name x p2] e pos) (sSet ms i m):=PS.imp (ps_set hN hi hx h hs hf) fun D σ H ⟨B,F₀,F,γ,o,S,e,ok⟩=>by
  obtain ⟨r,e1,e2⟩:=Yv e
  subst e2
  obtain ⟨F1,S1,x1,er⟩:=S.see ms
  refine ⟨F1,γ,r,S1.sub,er,e1,fun v H' F' g q => ?_⟩
  obtain ⟨F2,S2,q2⟩:=S.val S1 g q
  exact ok _ _ F2 (S2.setFz i q2)
theorem SR.setNew {K:PySem.W.Frag} {B F₀ F F1 F' H H':Hp} {σ:St} {γ:PEnv} {r:List PV} {vs:List V} {a:Addr} (S:SR K B F₀ F σ H γ) (x1:Same F F1) (S1:SR K B F₀ F1 σ H (PM.frz ms γ)) (g:Grow F1 H F' H') (n:H a=none) (nF:F' a=none) (hH:H' a=some (.lst vs)) (q:RepL K F' r vs) (i:Nat) :
    ∃ F2,SR K B F₀ F2 (σ.set i (some (.ref a))) H' ((ZD (r.all flat) ms γ).set i (.ow r)):=by
  obtain ⟨F2,S2,q2,x2⟩:=S.valO x1 S1 g q
  have own:∀ (j:Nat) ys,(ZD (r.all flat) ms γ)[j]?=some (.ow ys)→σ[j]?≠some (some (.ref a)):=fun j ys e1 e2=>by
    have key:∀ {F:Hp} {γ:PEnv},SR K B F₀ F σ H γ→γ[j]?=some (.ow ys)→False:=fun {F γ} T e1=>by
      obtain ⟨b,us,h1,h2,_⟩:=T.ow j ys e1
      rw [e2] at h1
      cases h1
      rw [n] at h2;cases h2
    unfold ZD at e1
    split at e1
    · exact key S e1
    · exact key S1 e1
  exact ⟨F2,S2.setOw i hH q2 (x2.free nF) (S.base.free n) fun j ys _ e1=>own j ys e1⟩
theorem Xa {i:Nat} {x:Str} {m:PEnv→Option (List PV)} (hN:X.N.Nodup) (hi:X.N[i]?=some x) (hx:Loc X.env.scope x) (h:EO X ms e m) (hs:swapsWith e (some (.Name x p2)) pos.line X.env=pure false:=by rfl) (hf:X.fn x=true∨X.env.scope.names.lookup x=some .local:=by first | exact .inl rfl | exact .inr rfl | assumption) :
    SM X (.Assign [.Name x p2] e pos) (YF ms i m):=PS.imp (ps_set hN hi hx h hs hf) fun D σ H ⟨B,F₀,F,γ,o,S,e,ok⟩=>by
  obtain ⟨r,e1,e2⟩:=Yv e
  subst e2
  obtain ⟨F1,S1,x1,er⟩:=S.see ms
  refine ⟨F1,γ,r,S1.sub,er,e1,fun a vs H' F' g n nF hH q => ?_⟩
  obtain ⟨F2,S2⟩:=S.setNew x1 S1 g n nF hH q i
  exact ok _ _ F2 S2
end
end L2.PM

noncomputable section
namespace L2.PM
open PySem PySem.Spec PyProof.Rows

theorem _root_.L2.PG.imp {X:Cx} {e:Expr} {t t':TG} (h:PG X e t) (i:∀ v σ H Q,t' v σ H Q→t v σ H Q):PG X e t':=fun pins s σ H v u Q I r q=>h pins s σ H v u Q I r (i v σ H Q q)
theorem Qja (k:Bool) (ms:List Nat) (γ:PEnv) (j:Nat):getV (ZD k ms γ) j=getV γ j:=by
  unfold ZD
  split
  · rfl
  · exact QeG ms γ j
theorem ERep.of_getV {K:PySem.W.Frag} {F:Hp} {σ:St} {γ γ':PEnv} {ms:List Nat} (h:ERep K F σ γ ms) (e:∀ j,getV γ j=getV γ' j):ERep K F σ γ' ms:=fun i hi p hp=>h i hi p (by rw [e];exact hp)
theorem QfF:∀ (ms:List Nat) {γ:PEnv} {j:Nat},j∉ms→(frz ms γ)[j]?=γ[j]?
  | [],_,_,_=>rfl
  | i :: ms,γ,j,h=>by
    show (frz ms (frz1 γ i))[j]?=_
    rw [QfF ms (fun z=>h (List.mem_cons_of_mem _ z))]
    unfold frz1
    split
    · rw [List.getElem?_set_ne (fun z=>h (by simp [z]))]
    · rfl
theorem QfE {k:Bool} {ms:List Nat} {γ:PEnv} {i:Nat} {xs:List PV} (h:γ[i]?=some (.ow xs)) (c:(k || !ms.contains i)=true):(ZD k ms γ)[i]?=some (.ow xs):=by
  unfold ZD
  cases k with
  | true=>rw [if_pos rfl];exact h
  | false =>
    rw [if_neg Bool.false_ne_true]
    have:i∉ms:=by simpa using c
    rw [QfF ms this];exact h

section
variable {X:Cx} {e a b c:Expr} {st:Stmt} {sts:List Stmt} {ms ns ls:List Nat} {m m1 m2 m3 mi mv:MEx} {s1 s2:MSt} {pos p2 p3:Pos}

noncomputable def sAug (i:Nat) (f:PV→PV→Option PV) (m:MEx):MSt:=fun γ=>(getV γ i).bind fun x=>(m γ).bind fun y=>(f x y).bind fun r=>if flat r=true then some (.nx (γ.set i (.fz r))) else none
theorem sm_aug {i:Nat} {x:Str} {op:Operator} {f:PV→PV→Option PV} (hN:X.N.Nodup) (hi:X.N[i]?=some x) (hx:Loc X.env.scope x) (h:EM X ms e m) (ho:OpM X (inplaceOp op) f)
    (hf:X.fn x=true∨X.env.scope.names.lookup x=some .local:=by first | exact .inl rfl | exact .inr rfl | assumption):SM X (.AugAssign (.Name x p2) op e pos) (sAug i f m) :=
  PS.imp (ps_aug (ti:=rM2 X.K f) hN hi hx h ho hf) fun D σ H ⟨B,F₀,F,γ,o,S,e,ok⟩=>by
    obtain ⟨x,e1,e⟩:=Qg e
    obtain ⟨y,e2,e⟩:=Qg e
    obtain ⟨r,e3,e⟩:=Qg e
    obtain ⟨fl,rfl⟩:=QS e
    obtain ⟨F1,S1,x1,er⟩:=S.see (i :: ms)
    obtain ⟨xv,h1,h2⟩:=er i (by simp) x e1
    refine ⟨xv,h1,F1,γ,y,S1.sub,fun j hj=>er j (List.mem_cons_of_mem _ hj),e2,fun yv H' F' g q=>⟨F',x,y,r,g.sub,h2.mono g.ext,q,e3,fun zv H2 F2 g2 q2 => ?_⟩⟩
    exact ok _ _ F ((S.same (g.same.trans g2.same)).setFz i (q2.flat fl))

noncomputable def tMG (K:PySem.W.Frag) (ts:List Nat) (g:PV→PEnv→Option PEnv):TG:=fun v σ H Q=>∃ B F₀ F γ p γ',SR K B F₀ F σ H γ∧Rep K F p v∧g p γ=some γ' ∧
  ∀ σ',SR K B F₀ F σ' H γ'→σ'.length=σ.length→(∀ n,n∉ts→σ'[n]?=σ[n]?)→Q σ' H
noncomputable def GM (X:Cx) (ts:List Nat) (tg:Expr) (g:PV→PEnv→Option PEnv):Prop:=PG X tg (tMG X.K ts g)
noncomputable def gSet (i:Nat):PV→PEnv→Option PEnv:=fun p γ=>some (γ.set i (.fz p))
noncomputable def Qbj (i j:Nat):PV→PEnv→Option PEnv:=fun p γ=>match p with
  | .tup [x,y]=>some ((γ.set i (.fz x)).set j (.fz y))
  | _=>none
noncomputable def gSet3 (i j k:Nat):PV→PEnv→Option PEnv:=fun p γ=>match p with
  | .tup [x,y,z]=>some (((γ.set i (.fz x)).set j (.fz y)).set k (.fz z))
  | _=>none
theorem QK {i:Nat} {x:Str} (h:PG X (.Name x pos) (Qjq i)):GM X [i] (.Name x pos) (gSet i):=PG.imp h fun v σ H Q ⟨B,F₀,F,γ,p,γ',S,r,e,w⟩=>by
  cases e
  refine w _ (S.setFz i r) (by simp) fun n hn => ?_
  rw [List.getElem?_set_ne (fun z=>hn (by simp [z]))]
theorem QcV {i j:Nat} {x y:Expr} {kt:Nat} (h:PG X (.Tuple [x,y] kt pos) (gTup X.K 2 (gCons (Qjq i) (gCons (Qjq j) gNil)))):GM X [i,j] (.Tuple [x,y] kt pos) (Qbj i j) :=
  PG.imp h fun v σ H Q ⟨B,F₀,F,γ,p,γ',S,r,e,w⟩=>by
    unfold Qbj at e
    split at e
    · rename_i x y
      cases e
      unfold Rep at r
      obtain ⟨a,vs,rfl,k2,k3⟩:=r
      unfold RepL at k3
      obtain ⟨v1,r1,rfl,q1,k3⟩:=k3
      unfold RepL at k3
      obtain ⟨v2,r2,rfl,q2,k3⟩:=k3
      unfold RepL at k3
      subst k3
      refine ⟨a,_,rfl,S.sub.seqT k2,rfl,v1,_,rfl,v2,_,rfl,rfl,?_⟩
      refine w _ ((S.setFz i q1).setFz j q2) (by simp) fun n hn => ?_
      rw [List.getElem?_set_ne (fun z=>hn (by simp [z])),List.getElem?_set_ne (fun z=>hn (by simp [z]))]
    · cases e
noncomputable def sApp (ms:List Nat) (i:Nat) (m:MEx):MSt:=fun γ=>match γ[i]? with
  | some (.ow xs)=>(m γ).bind fun r=>if xs.length < LIM∧(flat r || !ms.contains i)=true then some (.nx ((ZD (flat r) ms γ).set i (.ow (xs++[r])))) else none
  | _=>none
theorem Qhw {K:PySem.W.Frag} {H:Hp} {a:Addr} {vs:List V} (h:SqL K H a vs):tyV K "list" (.ref a) H := .inl ⟨rfl,vs,h⟩
theorem QaY {i:Nat} {x:Str} {apos cpos:Pos} (hx:PE X (.Name x p2) (tVar i)) (h:EM X ms e m) (ps:PS X (.Expr (.Call (.Attribute (.Name x p2) "append" apos) [e] [] cpos) pos) (Qln (tBM X.K "list" QjP (tVar i) (tMA X.K ms (Qe m aNil))))) :
    SM X (.Expr (.Call (.Attribute (.Name x p2) "append" apos) [e] [] cpos) pos) (sApp ms i m):=PS.imp ps fun D σ H ⟨B,F₀,F,γ,o,S,e,ok⟩=>by
  unfold sApp at e
  split at e
  · rename_i xs hi
    obtain ⟨r,e1,e⟩:=Qg e
    obtain ⟨⟨hl,c⟩,rfl⟩:=QS e
    obtain ⟨a,vs,h1,h2,_⟩:=S.ow i xs hi
    obtain ⟨F1,S1,x1,er⟩:=S.see ms
    refine ⟨.ref a,h1,Qhw (.of h2),F1,γ,[r],S1.sub,er,by simp [Qe,aNil,e1],fun us H' F' g q => ?_⟩
    unfold RepL at q
    obtain ⟨v,t,rfl,q,qt⟩:=q
    unfold RepL at qt
    subst qt
    obtain ⟨F2,S2,q2⟩:=S.val S1 g q
    have hi2:=QfE (k:=flat r) hi c
    obtain ⟨a2,vs2,k1,k2,k3,_⟩:=S2.ow i xs hi2
    rw [h1] at k1
    cases k1
    refine ⟨a,vs2,v,rfl,rfl,k2,?_,?_⟩
    · rw [k3.length];exact Nat.lt_of_lt_of_le hl Yl
    · exact ok _ _ F2 (S2.write hi2 h1 (k3.snoc q2))
  · cases e
noncomputable def QdN (ms:List Nat) (i:Nat) (mv mi:MEx):MSt:=fun γ=>match γ[i]? with
  | some (.ow xs)=>(mv γ).bind fun r=>(mi γ).bind fun k=>match k with
    | .int j=>(ixN xs.length j).bind fun n=>if (flat r || !ms.contains i)=true then some (.nx ((ZD (flat r) ms γ).set i (.ow (xs.set n r)))) else none
    | _=>none
  | _=>none
theorem sm_setIx {i:Nat} {x:Str} (hx:PE X (.Name x p2) (tVar i)) (hv:EM X ms e mv) (hi:EM X ns b mi) (hs:swapsWithSole [.Subscript (.Name x p2) b p3] e pos.line X.env=pure false:=by rfl) (hw:swappedStores [.Subscript (.Name x p2) b p3] e X.env=pure none:=by rfl)
    (h1:(assignEach [.Subscript (.Name x p2) b p3] X.env).map (·.2)=[assign (.Subscript (.Name x p2) b p3) X.env]:=by rfl)
    (ha:∀ v,assign (.Subscript (.Name x p2) b p3) X.env v=(do
      let ov ← holding [v] (eval (.Name x p2) X.env)
      let iv ← holding [v,ov] (eval b X.env)
      standAt p3
      holding [v,ov,iv] (setItem ov iv v)
      release [v,ov,iv] []):=by intro _;rfl):SM X (.Assign [.Subscript (.Name x p2) b p3] e pos) (QdN ms i mv mi):=PS.imp (ps_asg hv (pg_sub hx hi set_list ha) hs hw h1) fun D σ H ⟨B,F₀,F,γ,o,S,e,ok⟩=>by
  unfold QdN at e
  split at e
  · rename_i xs hi
    obtain ⟨r,e1,e⟩:=Qg e
    obtain ⟨k,e2,e⟩:=Qg e
    split at e
    · rename_i j
      obtain ⟨n,e3,e⟩:=Qg e
      obtain ⟨c,rfl⟩:=QS e
      obtain ⟨F1,S1,x1,er⟩:=S.see ms
      refine ⟨F1,γ,r,S1.sub,er,e1,fun v H' F' g q => ?_⟩
      obtain ⟨F2,S2,q2⟩:=S.val S1 g q
      have hi2:=QfE (k:=flat r) hi c
      obtain ⟨a,vs,k1,_⟩:=S2.ow i xs hi2
      obtain ⟨F3,S3,x3,er3⟩:=S2.see ns
      refine ⟨.ref a,k1,F3,γ,.int j,S3.sub,er3.of_getV (Qja _ _ _),e2,fun kv H2 F4 g2 qk => ?_⟩
      unfold Rep at qk
      have S4:=S2.same g2.same
      obtain ⟨a4,vs4,l1,l2,l3,_⟩:=S4.ow i xs hi2
      rw [k1] at l1
      cases l1
      refine ⟨a,vs4,j,n,rfl,qk,l2,by rw [l3.length];exact e3,?_⟩
      exact ok _ _ F2 (S4.write hi2 k1 (l3.set n q2))
    · cases e
  · cases e

structure ItRep (K:PySem.W.Frag) (J:It) (F:Hp) (xs:List PV):Prop where
  go:∀ i H,i < xs.length→Same F H→J.go i H
  yld:∀ i H x H',i < xs.length→Same F H→J.yld i H x H'→∃ p,xs[i]?=some p∧∀ F1,Same F F1→Same F1 H→∃ F2,Grow F1 H F2 H'∧Rep K F2 p x
  stop:∀ H,Same F H→J.stop xs.length H
noncomputable def tMI (K:PySem.W.Frag) (ms:List Nat) (m:PEnv→Option (List PV)):TI:=fun σ H R=>∃ F γ xs,Same F H∧ERep K F σ γ ms∧m γ=some xs∧∀ J H' F',Grow F H F' H'→ItRep K J F' xs→R J H'
noncomputable def IM (X:Cx) (ms:List Nat) (tg iter:Expr) (m:PEnv→Option (List PV)):Prop:=PI X tg iter (tMI X.K ms m)
theorem _root_.L2.PI.imp {tg:Expr} {t t':TI} (h:PI X tg e t) (i:∀ σ H R,t' σ H R→t σ H R):PI X tg e t':=fun pins s σ H R I q=>h pins s σ H R I (i σ H R q)
noncomputable def iLst (m:MEx):PEnv→Option (List PV):=fun γ=>(m γ).bind fun p=>match p with
  | .lst xs=>some xs
  | _=>none
noncomputable def iTpl (m:MEx):PEnv→Option (List PV):=fun γ=>(m γ).bind fun p=>match p with
  | .tup xs=>some xs
  | _=>none
theorem Qak {tg:Expr} (h:EM X ms e m):IM X ms tg e (iLst m):=PI.imp (QjS h) fun σ H R ⟨F,γ,xs,h1,h2,h3,w⟩=>by
  obtain ⟨p,e1,e2⟩:=Qg h3
  refine ⟨F,γ,p,h1,h2,e1,fun v H' F' g q => ?_⟩
  cases p with
  | lst ys =>
    cases e2
    unfold Rep at q
    obtain ⟨a,vs,rfl,k2,k3⟩:=q
    refine ⟨a,rfl,⟨vs,g.sub.seq k2⟩,w _ _ _ g ?_⟩
    refine ⟨fun i H hi e => ?_,fun i H x H' hi e y => ?_,fun H e => ?_⟩
    · have hv:i < vs.length:=by rw [k3.length];exact hi
      exact ⟨vs,vs[i],e.seq k2,by simp [hv]⟩
    · obtain ⟨rfl,y⟩:=y
      obtain ⟨p,e2,e3⟩:=k3.back (y vs (e.seq k2))
      exact ⟨p,e2,fun F1 x1 x2=>⟨F1,.refl x2,e3.mono x1⟩⟩
    · exact ⟨vs,e.seq k2,by rw [k3.length];exact Nat.le_refl _⟩
  | _=>cases e2
theorem Qfl {tg:Expr} (h:EM X ms e m):IM X ms tg e (iTpl m):=PI.imp (pi_tup h) fun σ H R ⟨F,γ,xs,h1,h2,h3,w⟩=>by
  obtain ⟨p,e1,e2⟩:=Qg h3
  refine ⟨F,γ,p,h1,h2,e1,fun v H' F' g q => ?_⟩
  cases p with
  | tup ys =>
    cases e2
    unfold Rep at q
    obtain ⟨a,vs,rfl,k2,k3⟩:=q
    refine ⟨a,rfl,⟨vs,g.sub.seqT k2⟩,w _ _ _ g ?_⟩
    refine ⟨fun i H hi e => ?_,fun i H x H' hi e y => ?_,fun H e => ?_⟩
    · have hv:i < vs.length:=by rw [k3.length];exact hi
      exact ⟨vs,vs[i],e.seqT k2,by simp [hv]⟩
    · obtain ⟨rfl,y⟩:=y
      obtain ⟨p,e2,e3⟩:=k3.back (y vs (e.seqT k2))
      exact ⟨p,e2,fun F1 x1 x2=>⟨F1,.refl x2,e3.mono x1⟩⟩
    · exact ⟨vs,e.seqT k2,by rw [k3.length];exact Nat.le_refl _⟩
  | _=>cases e2
noncomputable def rngL (lo hi:Int):List PV:=(List.range (hi - lo).toNat).map fun k => .int (lo + (k:Nat))
theorem Qez (lo hi:Int):(rngL lo hi).length=(hi - lo).toNat:=by simp [rngL]
theorem Qkc {K:PySem.W.Frag} {F:Hp} (lo hi:Int):ItRep K (Itr lo (hi - lo).toNat) F (rngL lo hi):=by
  refine ⟨fun i H hi' e => ?_,fun i H x H' hi' e y => ?_,fun H e => ?_⟩
  · rw [Qez] at hi';exact hi'
  · obtain ⟨rfl,rfl⟩:=y
    rw [Qez] at hi'
    exact ⟨.int (lo + i),by simp [rngL,hi'],fun F1 x1 x2=>⟨F1,.refl x2,QZ _⟩⟩
  · show (hi - lo).toNat≤_
    rw [Qez];exact Nat.le_refl _
noncomputable def rOk (j:Int):Bool:=cls (-(2 ^ 62)≤j∧j < 2 ^ 62)
theorem QbL {j:Int} (h:rOk j=true) : -(2 ^ 62)≤j∧j < 2 ^ 62:=QcX h
theorem Qjw {j:Int} (h1 : -(2 ^ 62)≤j) (h2:j < 2 ^ 62):rOk j=true:=Qfp ⟨h1,h2⟩
noncomputable def iRg1 (m:MEx):PEnv→Option (List PV):=fun γ=>(m γ).bind fun p=>match p with
  | .int j=>if rOk j=true then some (rngL 0 j) else none
  | _=>none
theorem Xo {tg:Expr} (hg:Gl X "range") (hm:X.mg "range"=none) (ha:AM X ms [a] (Qe m aNil)) (hs:starEach [a] X.env=[(false,eval a X.env)]:=by rfl):IM X ms tg (.Call (.Name "range" p2) [a] [] pos) (iRg1 m) :=
  PI.imp (Qfy hg hm ha hs) fun σ H R ⟨F,γ,xs,h1,h2,h3,w⟩=>by
    obtain ⟨p,e1,e2⟩:=Qg h3
    refine ⟨F,γ,[p],h1,h2,by simp [Qe,aNil,e1],fun vs H' F' g q => ?_⟩
    unfold RepL at q
    obtain ⟨v,t,rfl,q,qt⟩:=q
    unfold RepL at qt
    subst qt
    cases p with
    | int j =>
      obtain ⟨c,rfl⟩:=QS e2
      obtain ⟨c1,c2⟩:=QbL c
      unfold Rep at q
      subst q
      refine ⟨j,rfl,c1,c2,w _ _ _ g ?_⟩
      have:=Qkc (K:=X.K) (F:=F') 0 j
      simpa using this
    | _=>cases e2
noncomputable def forL (g:PV→PEnv→Option PEnv) (b:MSt):List PV→PEnv→Option Out
  | [],γ=>some (.nx γ)
  | x :: xs,γ=>(g x γ).bind fun γ1=>(b γ1).bind fun o=>match o with
    | .nx γ2=>forL g b xs γ2
    | .ct γ2=>forL g b xs γ2
    | .bk γ2=>some (.nx γ2)
    | .rt p=>some (.rt p)
    | .ro ys=>some (.ro ys)
noncomputable def sFor (ms:List Nat) (mi:PEnv→Option (List PV)) (g:PV→PEnv→Option PEnv) (b:MSt):MSt:=fun γ=>(mi γ).bind fun xs=>forL g b xs (frz ms γ)
theorem QhV {K:PySem.W.Frag} {g:PV→PEnv→Option PEnv} {ts:List Nat} {sb:MSt} {D:Ends} {B F₀ F' H':Hp} {J:It} {xs:List PV} {γ1:PEnv} {σ:St} {o:Out} (S1:SR K B F₀ F' σ H' γ1) (it:ItRep K J F' xs) (e2:forL g sb xs γ1=some o) (ok:OutOk K B F₀ D o) :
    ∃ W:Nat→Nat→St→Hp→Prop,(∃ m,W 0 m σ H')∧∀ i m σ H,W i m σ H →
      (J.stop i H∧D.nx σ H)∨(J.go i H∧∃ N:St→Hp→Prop,(∀ σ' H',N σ' H'→∃ m',m' < m∧W (i + 1) m' σ' H')∧∀ x H',J.yld i H x H'→tMG K ts g x σ H' fun σ2 H2=>tMS K sb { D with nx:=N,ct:=N,bk:=D.nx } σ2 H2):=by
  refine ⟨fun i m σ H=>m=xs.length - i∧i≤xs.length∧∃ F γ,SR K B F₀ F σ H γ∧Same F' F∧forL g sb (xs.drop i) γ=some o,⟨xs.length,by simp,Nat.zero_le _,F',γ1,S1,Same.refl _,by simpa using e2⟩,?_⟩
  rintro i m σ2 H2 ⟨rfl,hi,F2,γ2,S2,x2,e2⟩
  by_cases hlt:i < xs.length
  · refine .inr ⟨it.go i H2 hlt (x2.trans S2.sub),fun σ H=>∃ F γ,SR K B F₀ F σ H γ∧Same F' F∧forL g sb (xs.drop (i + 1)) γ=some o,fun σ' H' q=>⟨xs.length - (i + 1),by omega,rfl,hlt,q⟩,fun x H3 y => ?_⟩
    obtain ⟨p,e3,hy⟩:=it.yld i H2 x H3 hlt (x2.trans S2.sub) y
    obtain ⟨F3,g3,r3⟩:=hy F2 x2 S2.sub
    have S3:=S2.grow g3
    have ed:xs.drop i=p :: xs.drop (i + 1):=by
      have q:=(List.getElem?_eq_some_iff.mp e3)
      obtain ⟨q1,q2⟩:=q
      rw [← q2]
      exact List.drop_eq_getElem_cons q1
    rw [ed] at e2
    unfold forL at e2
    obtain ⟨γ4,e4,e2⟩:=Qg e2
    obtain ⟨ob,e5,e2⟩:=Qg e2
    refine ⟨B,F₀,F3,γ2,p,γ4,S3,r3,e4,fun σ4 S4 _ _ => ?_⟩
    have x3:Same F' F3:=x2.trans g3.ext
    refine ⟨B,F',F3,γ4,ob,S4.up S1.f0 x3,e5,?_⟩
    cases ob with
    | nx γ5=>exact fun σ H F S=>⟨F,γ5,S.down S1.f0 S1.fb,S.f0,e2⟩
    | ct γ5=>exact fun σ H F S=>⟨F,γ5,S.down S1.f0 S1.fb,S.f0,e2⟩
    | bk γ5 =>
      cases e2
      exact fun σ H F S=>ok σ H F (S.down S1.f0 S1.fb)
    | rt p =>
      cases e2
      exact fun v H F gr r=>ok v H F (gr.down S1.f0 S1.fb) r
    | ro ys =>
      cases e2
      exact fun a vs H F gr n nF hH r=>ok a vs H F (gr.down S1.f0 S1.fb) n nF hH r
  · have e:i=xs.length:=by omega
    subst e
    rw [List.drop_length] at e2
    cases e2
    exact .inl ⟨it.stop H2 (x2.trans S2.sub),ok σ2 H2 F2 S2⟩
theorem QbU {tg iter:Expr} {ts:List Nat} {mi:PEnv→Option (List PV)} {g:PV→PEnv→Option PEnv} {sb:MSt} {body:List Stmt} (hp:PassesOwn (model X.prog X.w) X.A X.env X.xe) (hc:X.calm=true) (hi:IM X ms tg iter mi) (hg:GM X ts tg g) (hb:SMs X body sb)
    (hs:∀ x,foldedSetIterable iter X.env x=pure x:=by intro _;rfl):SM X (.For tg iter body [] pos) (sFor ms mi g sb):=PS.imp (Qjy hp hc hi hg hb hs) fun D σ H ⟨B,F₀,F,γ,o,S,e,ok⟩=>by
  obtain ⟨xs,e1,e2⟩:=Qg e
  obtain ⟨F1,S1,x1,er⟩:=S.see ms
  exact ⟨F1,γ,xs,S1.sub,er,e1,fun J H' F' gr it=>QhV (S1.grow gr) it e2 ok⟩
noncomputable def QgX (mi:PEnv→Option (List PV)) (g:PV→PEnv→Option PEnv) (b:MSt):MSt:=fun γ=>(mi γ).bind fun xs=>forL g b xs γ
noncomputable def IMR (X:Cx) (ms:List Nat) (tg iter:Expr) (m:PEnv→Option (List PV)):Prop:=PI X tg iter fun σ H R=>∃ F γ xs,Same F H∧ERep X.K F σ γ ms∧m γ=some xs∧∀ J H',Same H H'→(∀ F,ItRep X.K J F xs)→R J H'
theorem Qet {tg iter:Expr} {ts:List Nat} {mi:PEnv→Option (List PV)} {g:PV→PEnv→Option PEnv} {sb:MSt} {body:List Stmt} (hp:PassesOwn (model X.prog X.w) X.A X.env X.xe) (hc:X.calm=true) (hi:IMR X ms tg iter mi) (hg:GM X ts tg g) (hb:SMs X body sb)
    (hs:∀ x,foldedSetIterable iter X.env x=pure x:=by intro _;rfl):SM X (.For tg iter body [] pos) (QgX mi g sb):=PS.imp (Qjy hp hc hi hg hb hs) fun D σ H ⟨B,F₀,F,γ,o,S,e,ok⟩=>by
  obtain ⟨xs,e1,e2⟩:=Qg e
  obtain ⟨F1,S1,x1,er⟩:=S.see ms
  exact ⟨F1,γ,xs,S1.sub,er,e1,fun J H' sm it=>QhV (S.same sm) (it F) e2 ok⟩
theorem Qcb {tg:Expr} (hg:Gl X "range") (hm:X.mg "range"=none) (ha:AM X ms [a] (Qe m aNil)) (hs:starEach [a] X.env=[(false,eval a X.env)]:=by rfl):IMR X ms tg (.Call (.Name "range" p2) [a] [] pos) (iRg1 m) :=
  PI.imp (Qfy hg hm ha hs) fun σ H R ⟨F,γ,xs,h1,h2,h3,w⟩=>by
    obtain ⟨p,e1,e2⟩:=Qg h3
    refine ⟨F,γ,[p],h1,h2,by simp [Qe,aNil,e1],fun vs H' F' g q => ?_⟩
    unfold RepL at q
    obtain ⟨v,t,rfl,q,qt⟩:=q
    unfold RepL at qt
    subst qt
    cases p with
    | int j =>
      obtain ⟨c,rfl⟩:=QS e2
      obtain ⟨c1,c2⟩:=QbL c
      unfold Rep at q
      subst q
      refine ⟨j,rfl,c1,c2,w _ _ g.same fun F => ?_⟩
      have:=Qkc (K:=X.K) (F:=F) 0 j
      simpa using this
    | _=>cases e2
noncomputable def QaX (t:PEnv→Option Bool) (b:MSt):Nat→PEnv→Option Out
  | 0,_=>none
  | n + 1,γ=>(t γ).bind fun k=>if k=true then (b γ).bind fun o=>match o with
      | .nx γ2=>QaX t b n γ2
      | .ct γ2=>QaX t b n γ2
      | .bk γ2=>some (.nx γ2)
      | .rt p=>some (.rt p)
      | .ro ys=>some (.ro ys)
    else some (.nx γ)
noncomputable def Qfg (N:Nat) (t:PEnv→Option Bool) (b:MSt):MSt:=QaX t b N
theorem Qhy (N:Nat) {t:PEnv→Option Bool} {sb:MSt} {body:List Stmt} (hp:PassesOwn (model X.prog X.w) X.A X.env X.xe) (hc:TM X ms c t) (hb:SMs X body sb):SM X (.While c body [] pos) (Qfg N t sb):=PS.imp (ps_while hp hc hb) fun D σ H ⟨B,F₀,F,γ,o,S,e,ok⟩=>by
  refine ⟨fun n σ H=>∃ F γ,SR X.K B F₀ F σ H γ∧QaX t sb n γ=some o,⟨N,F,γ,S,e⟩,?_⟩
  rintro n σ1 H1 ⟨F1,γ1,S1,e1⟩
  cases n with
  | zero=>cases e1
  | succ n =>
    unfold QaX at e1
    obtain ⟨k,e2,e1⟩:=Qg e1
    obtain ⟨F2,S2,x2,er⟩:=S1.see ms
    refine ⟨F2,γ1,k,S2.sub,er,e2,fun H' F' g => ?_⟩
    cases k with
    | true =>
      rw [if_pos rfl] at e1 ⊢
      obtain ⟨ob,e3,e1⟩:=Qg e1
      refine ⟨fun σ H=>∃ F γ,SR X.K B F₀ F σ H γ∧QaX t sb n γ=some o,fun σ' H' q=>⟨n,Nat.lt_succ_self n,q⟩,B,F₀,F1,γ1,ob,S1.same g.same,e3,?_⟩
      cases ob with
      | nx γ5=>exact fun σ H F S=>⟨F,γ5,S,e1⟩
      | ct γ5=>exact fun σ H F S=>⟨F,γ5,S,e1⟩
      | bk γ5=>cases e1;exact ok
      | rt p=>cases e1;exact ok
      | ro ys=>cases e1;exact ok
    | false =>
      rw [if_neg Bool.false_ne_true] at e1 ⊢
      cases e1
      exact ok σ1 H' F1 (S1.same g.same)
end
end L2.PM

noncomputable section
namespace L2.PM
open PySem PySem.Spec PyProof.Rows

noncomputable def capS (γ:PEnv) (j:Nat):Slot:=match getV γ j with
  | some p => .fz p
  | none => .un
noncomputable def blkG (nt:Nat) (caps:List Nat) (γ:PEnv):PEnv:=List.replicate nt .un++caps.map (capS γ)
noncomputable def Xy (g:PV→PEnv→Option PEnv) (t:PEnv→Option Bool) (e:MEx) (γ:PEnv):List PV→Option (List PV)
  | []=>some []
  | x :: xs=>(g x γ).bind fun γ1=>(t γ1).bind fun k=>if k=true then (e γ1).bind fun y=>(Xy g t e γ xs).map (y :: ·) else Xy g t e γ xs
noncomputable def YT (mi:PEnv→Option (List PV)) (nt:Nat) (caps:List Nat) (g:PV→PEnv→Option PEnv) (t:PEnv→Option Bool) (e:MEx):PEnv→Option (List PV) :=
  fun γ=>(mi γ).bind fun xs=>if xs.length≤LIM then Xy g t e (blkG nt caps γ) xs else none
noncomputable def XE:PEnv→Option Bool:=fun _=>some true
noncomputable def IfM (X:Cx) (ms:List Nat) (ifs:List Expr) (t:PEnv→Option Bool):Prop:=PIfs X ifs (tMT X.K ms t)
theorem Qal {X:Cx}:IfM X [] [] XE:=fun pins s σ H Q I ⟨F,γ,r,h1,h2,h3,w⟩=>pifs_nil pins s σ H Q I (by
  cases h3
  exact w H F (.refl h1))
theorem QdT {X:Cx} {ms:List Nat} {c:Expr} {t:PEnv→Option Bool} (h:TM X ms c t):IfM X ms [c] t:=pifs_one h

theorem blk_sr {K:PySem.W.Frag} {F H:Hp} {σ:St} {γ:PEnv} {nt:Nat} {caps:List Nat} (h:Same F H) (er:ERep K F σ γ caps):SR K H F F (XN nt caps σ) H (blkG nt caps γ):=by
  have key:∀ (i:Nat) (t:Slot),(blkG nt caps γ)[i]?=some t→t = .un∨∃ j p,caps[i - nt]?=some j∧nt≤i∧getV γ j=some p∧t = .fz p:=fun i t e=>by
    unfold blkG at e
    by_cases hi:i < nt
    · rw [List.getElem?_append_left (by simpa using hi),List.getElem?_replicate,if_pos hi] at e
      exact .inl (Option.some.inj e).symm
    · rw [List.getElem?_append_right (by simpa using hi),List.length_replicate,List.getElem?_map] at e
      cases q:caps[i - nt]? with
      | none=>rw [q] at e;cases e
      | some j =>
        rw [q] at e
        have e:capS γ j=t:=Option.some.inj e
        unfold capS at e
        split at e
        · rename_i p hp
          exact .inr ⟨j,p,rfl,by omega,hp,e.symm⟩
        · exact .inl e.symm
  refine ⟨h,Same.refl _,Same.refl _,fun a o e => .inl e,by simp [XN,blkG],fun i p e => ?_,fun i xs e => ?_,fun i j xs ys a _ e => ?_⟩
  · rcases key i _ e with z | ⟨j,p',e1,hi,e2,z⟩
    · cases z
    · cases z
      obtain ⟨v,h1,h2⟩:=er j (List.mem_of_getElem? e1) p e2
      refine ⟨v,?_,h2⟩
      unfold XN
      rw [List.getElem?_append_right (by simpa using hi),List.length_replicate,List.getElem?_map,e1]
      show some ((σ[j]?).getD none)=some (some v)
      rw [h1]
      rfl
  · rcases key i _ e with z | ⟨j,p',e1,hi,e2,z⟩ <;> cases z
  · rcases key i _ e with z | ⟨j',p',e1,hi,e2,z⟩ <;> cases z
theorem QeE {γ:PEnv} {i:Nat} {p:PV} (h:∀ (j:Nat) xs,γ[j]?≠some (.ow xs)):∀ (j:Nat) xs,(γ.set i (.fz p))[j]?≠some (.ow xs):=fun j xs e=>by
  by_cases z:i=j
  · subst z
    by_cases hi:i < γ.length
    · rw [List.getElem?_set_self hi] at e;cases e
    · rw [List.getElem?_eq_none (by simpa using hi)] at e;cases e
  · rw [List.getElem?_set_ne z] at e;exact h j xs e
theorem noOw_blk {nt:Nat} {caps:List Nat} {γ:PEnv}:∀ (j:Nat) xs,(blkG nt caps γ)[j]?≠some (.ow xs):=fun j xs e=>by
  unfold blkG at e
  by_cases hi:j < nt
  · rw [List.getElem?_append_left (by simpa using hi),List.getElem?_replicate,if_pos hi] at e;cases e
  · rw [List.getElem?_append_right (by simpa using hi),List.length_replicate,List.getElem?_map] at e
    cases q:caps[j - nt]? with
    | none=>rw [q] at e;cases e
    | some k =>
      rw [q] at e
      have e:capS γ k = .ow xs:=Option.some.inj e
      unfold capS at e
      split at e <;> cases e
noncomputable def NoOw (g:PV→PEnv→Option PEnv):Prop:=∀ p γ γ',g p γ=some γ'→(∀ (j:Nat) xs,γ[j]?≠some (.ow xs))→∀ (j:Nat) xs,γ'[j]?≠some (.ow xs)
theorem Zc (i:Nat):NoOw (gSet i):=fun p γ γ' e h=>by cases e;exact QeE h
theorem Qed (i j:Nat):NoOw (Qbj i j):=fun p γ γ' e h=>by
  unfold Qbj at e
  split at e
  · cases e;exact QeE (QeE h)
  · cases e

section
variable {X:Cx} {pins:List (Addr×Obj)} {scope:Scope} {N':List Str} {nt:Nat} {caps:List Nat} {tg iter elt:Expr} {ifs:List Expr} {pos:Pos} {ms ns ls:List Nat} {ts:List Nat}
  {mi:PEnv→Option (List PV)} {g:PV→PEnv→Option PEnv} {t:PEnv→Option Bool} {m:MEx}
theorem QfV {K:PySem.W.Frag} {F1 H1:Hp} {J:It} {σ:St} {γ:PEnv} {xs ys:List PV} {Qd:Addr→Hp→Prop} (hts:∀ i∈ts,i < nt) (hno:NoOw g) (h1:Same F1 H1) (er:ERep K F1 σ γ caps) (it:ItRep K J F1 xs) (hl:xs.length≤LIM) (e:Xy g t m (blkG nt caps γ) xs=some ys)
    (w:∀ D vs H2 F2,Grow F1 H1 F2 H2→H1 D=none→F2 D=none→H2 D=some (.lst vs)→RepL K F2 ys vs→Qd D H2) :
    Qfs J nt caps (tMG K ts g) (tMT K ns t) (tM K ls m) σ H1 Qd:=by
  intro D hD
  have nF1:F1 D=none:=h1.free hD
  refine ⟨fun i k acc H=>k=xs.length - i∧i≤xs.length∧∃ F ps rest,Grow F1 H1 F H∧F D=none∧H D=some (.lst acc)∧RepL K F ps acc∧Xy g t m (blkG nt caps γ) (xs.drop i)=some rest∧ps++rest=ys∧ps.length≤i,
    ⟨xs.length,by simp,Nat.zero_le _,F1,[],ys,.side h1 hD,nF1,Qv,.nil,by simpa using e,rfl,Nat.le_refl _⟩,?_⟩
  rintro i k acc H ⟨rfl,hi,F,ps,rest,gr,nF,hH,rp,e,ey,hpl⟩
  by_cases hlt:i < xs.length
  · refine .inr ⟨it.go i H hlt (gr.ext.trans gr.sub),fun x H3 y => ?_⟩
    obtain ⟨p,e3,hy⟩:=it.yld i H x H3 hlt (gr.ext.trans gr.sub) y
    obtain ⟨F3,g3,r3⟩:=hy F gr.ext gr.sub
    have ed:xs.drop i=p :: xs.drop (i + 1):=by
      obtain ⟨q1,q2⟩:=List.getElem?_eq_some_iff.mp e3
      rw [← q2]
      exact List.drop_eq_getElem_cons q1
    rw [ed] at e
    unfold Xy at e
    obtain ⟨γ4,e4,e⟩:=Qg e
    obtain ⟨b,e5,e⟩:=Qg e
    have g13:=gr.trans g3
    have S3:=blk_sr (nt:=nt) g3.sub (er.mono g13.ext)
    refine ⟨H3,F3,F3,_,p,γ4,S3,r3,e4,fun σ4 S4 l4 k4=>⟨⟨l4,fun n v hv => ?_⟩,?_⟩⟩
    · by_cases hn:n∈ts
      · have hn':=hts n hn
        unfold XN at hv
        rw [List.getElem?_append_left (by simpa using hn'),List.getElem?_replicate,if_pos hn'] at hv
        cases hv
      · rw [k4 n hn];exact hv
    · have no4:=hno p _ γ4 e4 noOw_blk
      refine ⟨F3,γ4,b,g3.sub,S4.erep fun j _=>no4 j,e5,fun H5 F5 g5 => ?_⟩
      have nD:∀ {F' H':Hp},Grow F H F' H'→F' D=none:=fun {F' H'} gg=>by
        cases q:F' D with
        | none=>rfl
        | some o =>
          rcases gg.new D o q with z | z
          · rw [nF] at z;cases z
          · rw [hH] at z;cases z
      dsimp only
      cases b with
      | true =>
        rw [if_pos rfl] at e ⊢
        obtain ⟨yv,e6,e⟩:=Qg e
        obtain ⟨rest',e7,e8⟩:=Yv e
        refine ⟨F5,γ4,yv,g5.sub,(S4.erep fun j _=>no4 j).mono g5.ext,e6,fun v H6 F6 g6 q6 => ?_⟩
        have gg:=g3.trans (g5.trans g6)
        have hD6:H6 D=some (.lst acc):=gg.same _ _ hH
        have nF6:=nD gg
        refine ⟨hD6,?_,xs.length - (i + 1),by omega,rfl,hlt,F6,ps++[yv],rest',?_,nF6,Qv,(rp.mono gg.ext).snoc q6,e7,?_,?_⟩
        · rw [rp.length]
          exact Nat.lt_of_lt_of_le (by omega) Yl
        · have g16:=gr.trans gg
          refine ⟨g16.ext,fun a o q => ?_,fun a o q => ?_,g16.new⟩
          · rw [Qs (Qt q nF6)];exact g16.sub a o q
          · rw [Qs (Qt q hD)];exact g16.same a o q
        · rw [List.append_assoc,List.singleton_append,e8];exact ey
        · rw [List.length_append,List.length_singleton];omega
      | false =>
        rw [if_neg Bool.false_ne_true] at e ⊢
        have gg:=g3.trans g5
        exact ⟨xs.length - (i + 1),by omega,rfl,hlt,F5,ps,rest,gr.trans gg,nD gg,gg.same _ _ hH,rp.mono gg.ext,e,ey,by omega⟩
  · have e':i=xs.length:=by omega
    subst e'
    rw [List.drop_length] at e
    cases e
    rw [List.append_nil] at ey
    subst ey
    exact .inl ⟨it.stop H (gr.ext.trans gr.sub),w D acc H F gr hD nF hH rp⟩
theorem Xr (hc:X.calm=true) (ck:CompOk X.N X.env.scope scope N' nt caps) (hts:∀ i∈ts,i < nt) (hno:NoOw g) (hi:IM X ms tg iter mi)
    (hg:∀ pins cl C s H fp,GM (QaD X pins N' (Zp X.env.scope scope) cl C s H fp) ts tg g)
    (ht:∀ pins cl C s H fp,IfM (QaD X pins N' (Zp X.env.scope scope) cl C s H fp) ns ifs t)
    (he:∀ pins cl C s H fp,EM (QaD X pins N' (Zp X.env.scope scope) cl C s H fp) ls elt m)
    (hs:∀ x,foldedSetIterable iter X.env x=pure x:=by intro _;rfl) (hrel:relabel scope X.env=Zp X.env.scope scope:=by rfl) :
    EO X (ms++caps) (.ListComp elt [⟨tg,iter,ifs,0⟩] scope pos) (YT mi nt caps g t m) :=
  PE.imp (pe_comp (g:=tMG X.K ts g) (tc:=tMT X.K ns t) (te:=tM X.K ls m) hc ck hi hg ht he hs hrel) fun σ H Q ⟨F,γ,ys,h1,h2,h3,w⟩=>by
    obtain ⟨xs,e1,h3⟩:=Qg h3
    have hl:xs.length≤LIM:=by
      by_cases c:xs.length≤LIM
      · exact c
      · rw [if_neg c] at h3;cases h3
    rw [if_pos hl] at h3
    refine ⟨F,γ,xs,h1,h2.left,e1,fun J H1 F1 g1 it => ?_⟩
    exact QfV hts hno g1.sub (h2.right.mono g1.ext) it hl h3 fun D vs H2 F2 g2 n nF hH q=>w D vs H2 F2 (g1.trans g2) (g1.same.free n) nF hH q
theorem QgW {i:Nat} {y:Str} {py spos:Pos} (hN:X.N.Nodup) (hi':X.N[i]?=some y) (hy:X.env.scope.names.lookup y=some .local) (hc:X.calm=true) (ck:CompOkC X.N X.env.scope scope N' nt caps) (hts:∀ i∈ts,i < nt) (hno:NoOw g) (hi:IM X ms tg iter mi)
    (hg:∀ pins cl C s H fp,GM (Xp X (ownC scope) pins N' (Zp X.env.scope scope) cl C s H fp) ts tg g)
    (ht:∀ pins cl C s H fp,IfM (Xp X (ownC scope) pins N' (Zp X.env.scope scope) cl C s H fp) ns ifs t)
    (he:∀ pins cl C s H fp,EM (Xp X (ownC scope) pins N' (Zp X.env.scope scope) cl C s H fp) ls elt m)
    (hsw:swapsWith (.ListComp elt [⟨tg,iter,ifs,0⟩] scope pos) (some (.Name y py)) spos.line X.env=pure true:=by rfl)
    (hs:∀ x,foldedSetIterable iter X.env x=pure x:=by intro _;rfl) (hrel:relabel scope X.env=Zp X.env.scope scope:=by rfl) :
    SM X (.Assign [.Name y py] (.ListComp elt [⟨tg,iter,ifs,0⟩] scope pos) spos) (YF (ms++caps) i (YT mi nt caps g t m)) :=
  PS.imp (Qha (g:=tMG X.K ts g) (tc:=tMT X.K ns t) (te:=tM X.K ls m) hN hi' hy hc ck hi hg ht he hsw hs hrel) fun D σ H ⟨B,F₀,F,γ,o,S,e,ok⟩=>by
    obtain ⟨ys,h3,e2⟩:=Yv e
    subst e2
    obtain ⟨xs,e1,h3⟩:=Qg h3
    have hl:xs.length≤LIM:=by
      by_cases c:xs.length≤LIM
      · exact c
      · rw [if_neg c] at h3;cases h3
    rw [if_pos hl] at h3
    obtain ⟨F1,S1,x1,er⟩:=S.see (ms++caps)
    refine ⟨F1,γ,xs,S1.sub,er.left,e1,fun J H1 F2 g1 it => ?_⟩
    refine QfV hts hno g1.sub (er.right.mono g1.ext) it hl h3 fun D vs H2 F3 g2 n nF hH q => ?_
    obtain ⟨F4,S4⟩:=S.setNew x1 S1 (g1.trans g2) (g1.same.free n) nF hH q i
    exact ok _ _ F4 S4
theorem Yo {i:Nat} {y:Str} {py spos:Pos} (hN:X.N.Nodup) (hi':X.N[i]?=some y) (hy:X.env.scope.names.lookup y=some .local) (hc:X.calm=true) (ck:CompOk X.N X.env.scope scope N' nt caps) (hts:∀ i∈ts,i < nt) (hno:NoOw g) (hi:IM X ms tg iter mi)
    (hg:∀ pins cl C s H fp,GM (QaD X pins N' (Zp X.env.scope scope) cl C s H fp) ts tg g)
    (ht:∀ pins cl C s H fp,IfM (QaD X pins N' (Zp X.env.scope scope) cl C s H fp) ns ifs t)
    (he:∀ pins cl C s H fp,EM (QaD X pins N' (Zp X.env.scope scope) cl C s H fp) ls elt m)
    (hsw:swapsWith (.ListComp elt [⟨tg,iter,ifs,0⟩] scope pos) (some (.Name y py)) spos.line X.env=pure true:=by rfl)
    (hs:∀ x,foldedSetIterable iter X.env x=pure x:=by intro _;rfl) (hrel:relabel scope X.env=Zp X.env.scope scope:=by rfl) :
    SM X (.Assign [.Name y py] (.ListComp elt [⟨tg,iter,ifs,0⟩] scope pos) spos) (YF (ms++caps) i (YT mi nt caps g t m)):=QgW hN hi' hy hc ck.C hts hno hi (by rw [ck.eqC];exact hg) (by rw [ck.eqC];exact ht) (by rw [ck.eqC];exact he) hsw hs hrel
end

noncomputable def ZM (n:Nat) (ps:List PV):PEnv:=ps.map .fz++List.replicate (n - ps.length) .un
noncomputable def outV:Out→Option PV
  | .nx _=>some .non
  | .rt p=>some p
  | .ro xs=>some (.lst xs)
  | _=>none
noncomputable def outO:Out→Option (List PV)
  | .ro xs=>some xs
  | _=>none
noncomputable def runV (N n:Nat) (m:MSt) (ps:List PV):Option PV:=if ps.length=n then (m (ZM N ps)).bind outV else none
noncomputable def runO (N n:Nat) (m:MSt) (ps:List PV):Option (List PV):=if ps.length=n then (m (ZM N ps)).bind outO else none
theorem Qw {N n:Nat} {m:MSt}:∀ ps r,runV N n m ps=some r→ps.length=n:=fun ps r h=>by
  unfold runV at h
  by_cases c:ps.length=n
  · exact c
  · rw [if_neg c] at h;cases h
theorem Qbo {N n:Nat} {m:MSt}:∀ ps r,runO N n m ps=some r→ps.length=n:=fun ps r h=>by
  unfold runO at h
  by_cases c:ps.length=n
  · exact c
  · rw [if_neg c] at h;cases h
theorem QcD {K:PySem.W.Frag} {F H:Hp} {N:List Str} {ps:List PV} {vs:List V} (h:Same F H) (r:RepL K F ps vs):SR K H F F (Qab N vs) H (ZM N.length ps):=by
  have key:∀ (i:Nat) (t:Slot),(ZM N.length ps)[i]?=some t→t = .un∨∃ p,ps[i]?=some p∧t = .fz p:=fun i t e=>by
    unfold ZM at e
    by_cases hi:i < ps.length
    · rw [List.getElem?_append_left (by simpa using hi),List.getElem?_map] at e
      cases q:ps[i]? with
      | none=>rw [q] at e;cases e
      | some p=>rw [q] at e;exact .inr ⟨p,rfl,(Option.some.inj e).symm⟩
    · rw [List.getElem?_append_right (by simpa using hi),List.getElem?_replicate] at e
      split at e
      · exact .inl (Option.some.inj e).symm
      · cases e
  refine ⟨h,Same.refl _,Same.refl _,fun a o e => .inl e,?_,fun i p e => ?_,fun i xs e => ?_,fun i j xs ys a _ e => ?_⟩
  · unfold Qab ZM
    rw [List.length_append,List.length_append,List.length_map,List.length_map,List.length_replicate,List.length_replicate,r.length]
  · rcases key i _ e with z | ⟨p',e1,z⟩
    · cases z
    · cases z
      obtain ⟨v,h1,h2⟩:=r.get e1
      refine ⟨v,?_,h2⟩
      unfold Qab
      have hi:i < vs.length:=(List.getElem?_eq_some_iff.mp h1).1
      rw [List.getElem?_append_left (by simpa using hi),List.getElem?_map,h1]
      rfl
  · rcases key i _ e with z | ⟨p',e1,z⟩ <;> cases z
  · rcases key i _ e with z | ⟨p',e1,z⟩ <;> cases z
section
variable {P:Program} {w:World} {K:PySem.W.Frag} {mg:Str→Option Value} {base:Heap}
theorem fnM {x qual:Str} {st:Stmt} {f:Addr} {fd:FuncData} {N ps:List Str} {k n:Nat} {m:MSt} (Fn:Fun K x qual st f fd) (Sc:FnScope N ps (Qc st)) (hn:ps.length=n)
    (hbody:∀ (cdv:Value) (A:Around) (outer:List Env) (s:Shared) (H:Hp) (E:XK),Room k (A.deeper (envOfC qual (Qc st) s.heap.objs.size f cdv)) →
      SMs (cxOf CX0 P w K mg base N qual (Qc st) f cdv A outer s H E).nox (Ql st) m):FnOk P w K mg base CX0 (k + 1) f fd ps (spM K n (runV N.length n m)):=by
  refine Fn.ok Sc (fun vs H Q E h=>by rw [h.1,hn]) fun cdv A outer s H vs Q E hr h => ?_
  refine ⟨_,hbody cdv A outer s H E hr,?_⟩
  obtain ⟨hl,F,qs,r,h1,h2,h3,wv⟩:=h
  unfold runV at h3
  have hq:qs.length=n:=by rw [← h2.length];exact hl
  rw [if_pos hq] at h3
  obtain ⟨o,e1,e2⟩:=Qg h3
  refine ⟨H,F,F,_,o,QcD h1 h2,e1,?_⟩
  cases o with
  | nx γ=>cases e2;exact fun σ' H' F' S=>wv .non H' F' S.gr QjO
  | rt p=>cases e2;exact fun v H' F' g q=>wv v H' F' g q
  | ro xs=>cases e2;exact fun a vs H' F' g n nF hH q=>wv.of_lst a vs H' F' g n nF hH q
  | bk γ=>cases e2
  | ct γ=>cases e2
theorem fnO {x qual:Str} {st:Stmt} {f:Addr} {fd:FuncData} {N ps:List Str} {k n:Nat} {m:MSt} (Fn:Fun K x qual st f fd) (Sc:FnScope N ps (Qc st)) (hn:ps.length=n)
    (hbody:∀ (cdv:Value) (A:Around) (outer:List Env) (s:Shared) (H:Hp) (E:XK),Room k (A.deeper (envOfC qual (Qc st) s.heap.objs.size f cdv)) →
      SMs (cxOf CX0 P w K mg base N qual (Qc st) f cdv A outer s H E).nox (Ql st) m):FnOk P w K mg base CX0 (k + 1) f fd ps (spO K n (runO N.length n m)):=by
  refine Fn.ok Sc (fun vs H Q E h=>by rw [h.1,hn]) fun cdv A outer s H vs Q E hr h => ?_
  refine ⟨_,hbody cdv A outer s H E hr,?_⟩
  obtain ⟨hl,F,qs,r,h1,h2,h3,wv⟩:=h
  unfold runO at h3
  have hq:qs.length=n:=by rw [← h2.length];exact hl
  rw [if_pos hq] at h3
  obtain ⟨o,e1,e2⟩:=Qg h3
  refine ⟨H,F,F,_,o,QcD h1 h2,e1,?_⟩
  cases o with
  | ro xs=>cases e2;exact fun a vs H' F' g n nF hH q=>wv a vs H' F' g n nF hH q
  | nx γ=>cases e2
  | rt p=>cases e2
  | bk γ=>cases e2
  | ct γ=>cases e2
theorem _root_.L2.FnOk.sw {k n:Nat} {f:Addr} {fd:FuncData} {ps:List Str} {g g':List PV→Option PV} (F:FnOk P w K mg base CX0 k f fd ps (spM K n g)) (h:∀ qs r,g' qs=some r→g qs=some r):FnOk P w K mg base CX0 k f fd ps (spM K n g') :=
  F.imp fun vs H Q E ⟨hl,F,qs,r,h1,h2,h3,wv⟩=>⟨hl,F,qs,r,h1,h2,h qs r h3,wv⟩
end
end L2.PM

noncomputable section
namespace L2.PM
open PySem PySem.Spec PyProof.Rows

section
variable {X:Cx} {e a b c:Expr} {es:List Expr} {ms ns ls:List Nat} {m m1 m2 m3:MEx} {pos p p2 p3:Pos} {x:Str} {id T:String}

noncomputable def tyName:PV→String
  | .non => "NoneType"
  | .bl _ => "bool"
  | .int _ => "int"
  | .str _ => "str"
  | .tup _ => "tuple"
  | .lst _ => "list"
  | .obj _ _ _ => "object"
  | .opq _ => "object"
noncomputable def isO:PV→Bool
  | .obj _ _ _=>true
  | .opq _=>true
  | _=>false
noncomputable def isInt:PV→Bool
  | .int _=>true
  | .bl _=>true
  | _=>false
noncomputable def isBl:PV→Bool
  | .bl _=>true
  | _=>false
noncomputable def isStr:PV→Bool
  | .str _=>true
  | _=>false
noncomputable def isTup:PV→Bool
  | .tup _=>true
  | _=>false
noncomputable def isLst:PV→Bool
  | .lst _=>true
  | _=>false
noncomputable def Isi (T:String) (f:PV→Bool):Prop:=∀ (p:PV) (K:PySem.W.Frag),isO p=false→PySem.W.kitOne K (.type (tyName p)) (.type T)=some (f p)
theorem isi_str:Isi "str" isStr:=fun p K ho=>by cases p <;> first | (cases ho;done) | kernel_rfl
theorem isi_lst:Isi "list" isLst:=fun p K ho=>by cases p <;> first | (cases ho;done) | kernel_rfl
theorem QiU {pins:List (Addr×Obj)} {σ:St} {H F:Hp} {s:Shared} {A:Around} {E:Value→Shared→Prop} {Q:Value→Shared→Prop} {v:V} {u:Value} {q:PV} {f:PV→Bool} (I:Inv X pins σ H s) (hF:Same F H) (hi:Isi T f) (r:Rep X.K F q v) (rv:RelV v u)
    (ho:isO q=false) (h:∀ tk,Q (.bool (f q)) { s with toks:=tk }):wpAny (model X.prog X.w) A (call (.builtin "isinstance") [u,.type T]) Q E s:=by
  have e:=hi q X.K ho
  cases q with
  | non=>unfold Rep at r;subst r;cases rv;exact PySem.W.kia_one PySem.W.kitx_none I.kIn True.intro e (fun z=>nomatch z) h
  | bl y=>unfold Rep at r;subst r;cases rv;exact PySem.W.kia_one PySem.W.kitx_bool I.kIn True.intro e (fun z=>nomatch z) h
  | int y=>unfold Rep at r;subst r;obtain ⟨t,rfl⟩:=rv;exact PySem.W.kia_one PySem.W.kitx_int I.kIn True.intro e (fun z=>nomatch z) h
  | str y=>unfold Rep at r;subst r;obtain ⟨t,rfl⟩:=rv;exact PySem.W.kia_one PySem.W.kitx_str I.kIn True.intro e (fun z=>nomatch z) h
  | tup ys =>
    unfold Rep at r
    obtain ⟨a,vs,rfl,k2,_⟩:=r
    cases rv
    obtain ⟨its,_,⟨o,ho,hc,_⟩,_⟩:=I.tuple (hF.seqT k2)
    exact PySem.W.kia_one PySem.W.kitx_tuple I.kIn ⟨o,ho,hc⟩ e (fun z=>nomatch z) h
  | lst ys =>
    unfold Rep at r
    obtain ⟨a,vs,rfl,k2,_⟩:=r
    cases rv
    obtain ⟨its,_,⟨o,n,ho,hc,_⟩,_⟩:=I.list (hF.seq k2)
    exact PySem.W.kia_one PySem.W.kitx_list I.kIn ⟨o,ho,hc⟩ e (fun z=>nomatch z) h
  | obj=>cases ho
  | opq=>cases ho
theorem Qhs {f:PV→Bool} (hi:Isi T f):Qac X (.builtin "isinstance") (fun vs H Q=>∃ F v q,vs=[v,.ty T]∧Same F H∧Rep X.K F q v∧isO q=false∧Q (.bl (f q)) H):=by
  intro pins s σ H vs us Q I rs h
  obtain ⟨F,v,q,rfl,h1,h2,ho,h3⟩:=h
  obtain ⟨u,w,rfl,ru,rw'⟩:=vals2 rs
  obtain rfl:w=Value.type T:=rw'
  exact QiU I h1 hi h2 ru ho fun tk=>⟨.bl (f q),H,I.tok tk,rfl,h3⟩
noncomputable def isiK (f:PV→Bool) (q:PV):Option PV:=if isO q=false then some (.bl (f q)) else none
noncomputable def mIsi (f:PV→Bool) (m:MEx):MEx:=fun γ=>(m γ).bind (isiK f)
theorem QfJ {f:PV→Bool} (hi:Isi T f) (h:EM X ms e m) (hg:Gl X "isinstance") (hm:X.mg "isinstance"=none) (hgT:Gl X x) (hmT:X.mg x=none) (hvT:bootBuiltins x=some (.type T))
    (hn:x ≠ "__name__":=by decide) (hdb:(x==("__debug__":Str))=false:=by decide)
    (hs1:starEach (e :: [.Name x p3]) X.env=(false,eval e X.env) :: starEach [.Name x p3] X.env:=by rfl) (hs2:starEach [.Name x p3] X.env=(false,eval (.Name x p3) X.env) :: starEach [] X.env:=by rfl) (hpl:(backTo pos (starEach [.Name x p3] X.env)).any (·.1)=false:=by rfl) :
    EM X ms (.Call (.Name "isinstance" p2) [e,.Name x p3] [] pos) (mIsi f m) :=
  PE.imp (Qbp (Qhs hi) hg hm (by kernel_rfl) (QbM h (QbM (pe_bltn (v := .ty T) hgT hmT hvT rfl hn hdb) QgK hs2) hs1) (by decide) (by decide) hs1 hpl) fun σ H Q ⟨F,γ,r,k1,k2,k3,w⟩=>by
    obtain ⟨q,e1,e2⟩:=Qg k3
    obtain ⟨ho,e2⟩:=QS (show (if isO q=false then some (PV.bl (f q)) else none)=some r from e2)
    subst e2
    exact ⟨F,γ,q,k1,k2,e1,fun v H1 F1 g1 q1=>⟨F1,v,q,rfl,g1.sub,q1,ho,(w.go g1).here g1.sub (Yt _)⟩⟩

noncomputable def pLen:List PV→Option PV
  | [.lst xs]=>some (.int xs.length)
  | [.tup xs]=>some (.int xs.length)
  | [.str z]=>if z.length≤LIM then some (.int z.length) else none
  | _=>none
theorem Qbc:Qjt X (.builtin "len") pLen:=by
  intro pins s σ H vs us Q I rs h
  obtain ⟨F,ps,r,h1,h2,h3,w⟩:=h
  refine call_len pins s σ H vs us Q I rs ?_
  unfold pLen at h3
  split at h3
  · cases h3
    unfold RepL at h2
    obtain ⟨v,t,rfl,h2,ht⟩:=h2
    unfold RepL at ht
    subst ht
    unfold Rep at h2
    obtain ⟨a,us,rfl,k2,k3⟩:=h2
    exact ⟨.ref a,_,rfl,.inl ⟨us,h1.seq k2,k3.length.symm⟩,w.here h1 (QZ _)⟩
  · cases h3
    unfold RepL at h2
    obtain ⟨v,t,rfl,h2,ht⟩:=h2
    unfold RepL at ht
    subst ht
    unfold Rep at h2
    obtain ⟨a,us,rfl,k2,k3⟩:=h2
    exact ⟨.ref a,_,rfl,.inr ⟨us,h1.seqT k2,k3.length.symm⟩,w.here h1 (QZ _)⟩
  · rename_i z
    obtain ⟨c,rfl⟩:=QS h3
    unfold RepL at h2
    obtain ⟨v,t,rfl,h2,ht⟩:=h2
    unfold RepL at ht
    subst ht
    unfold Rep at h2
    subst h2
    exact ⟨.str z,_,rfl,⟨Nat.le_trans c Yl,rfl⟩,w.here h1 (QZ _)⟩
  · cases h3
noncomputable def XF:List PV→Option PV
  | [.lst xs]=>some (.tup xs)
  | [.tup xs]=>some (.tup xs)
  | _=>none
theorem Xx:Qjt X (.type "tuple") XF:=by
  intro pins s σ H vs us Q I rs h
  obtain ⟨F,ps,r,h1,h2,h3,w⟩:=h
  refine Qfe pins s σ H vs us Q I rs ?_
  unfold XF at h3
  split at h3
  · cases h3
    unfold RepL at h2
    obtain ⟨v,t,rfl,h2,ht⟩:=h2
    unfold RepL at ht
    subst ht
    unfold Rep at h2
    obtain ⟨a,us,rfl,k2,k3⟩:=h2
    refine ⟨a,us,rfl,.inl ⟨h1.seq k2,fun l hl=>w _ _ _ (.laid h1 hl) ?_⟩⟩
    unfold Rep
    exact ⟨l,us,rfl,.of Qv,k3.mono (Grow.laid h1 hl).ext⟩
  · cases h3
    unfold RepL at h2
    obtain ⟨v,t,rfl,h2,ht⟩:=h2
    unfold RepL at ht
    subst ht
    obtain ⟨a,us,rfl,k2,k3⟩:=(by unfold Rep at h2;exact h2:∃ a us,v = .ref a∧SqT X.K F a us∧RepL X.K F _ us)
    exact ⟨a,us,rfl,.inr ⟨h1.seqT k2,w.here h1 h2⟩⟩
  · cases h3
end
end L2.PM

noncomputable section
namespace L2.PM
open PySem PySem.Spec PyProof.Rows

noncomputable def Qbi:List PV→Option (List Int)
  | []=>some []
  | .int i :: xs=>(Qbi xs).map (i :: ·)
  | _ :: _=>none
noncomputable def strs?:List PV→Option (List Str)
  | []=>some []
  | .str i :: xs=>(strs? xs).map (i :: ·)
  | _ :: _=>none
theorem QkP (ns:List Int):Qbi (ns.map .int)=some ns:=by
  induction ns with
  | nil=>rfl
  | cons n ns ih=>simp [Qbi,ih]
theorem strs?_map (ns:List Str):strs? (ns.map .str)=some ns:=by
  induction ns with
  | nil=>rfl
  | cons n ns ih=>simp [strs?,ih]
theorem Qdl:∀ {xs:List PV} {ns:List Int},Qbi xs=some ns→xs=ns.map .int
  | [],ns,h=>by cases h;rfl
  | x :: xs,ns,h=>by
    cases x with
    | int i =>
      unfold Qbi at h
      cases e:Qbi xs with
      | none=>rw [e] at h;cases h
      | some ms=>rw [e] at h;cases h;rw [Qdl e];rfl
    | _=>cases h
theorem Qdd:∀ {xs:List PV} {ns:List Str},strs? xs=some ns→xs=ns.map .str
  | [],ns,h=>by cases h;rfl
  | x :: xs,ns,h=>by
    cases x with
    | str i =>
      unfold strs? at h
      cases e:strs? xs with
      | none=>rw [e] at h;cases h
      | some ms=>rw [e] at h;cases h;rw [Qdd e];rfl
    | _=>cases h
theorem Qdf {K:PySem.W.Frag} {F:Hp}:∀ {ns:List Int} {vs:List V},RepL K F (ns.map .int) vs→vs=ns.map V.int
  | [],vs,h=>by rw [List.map_nil] at h;unfold RepL at h;exact h
  | n :: ns,vs,h=>by
    rw [List.map_cons] at h
    unfold RepL at h
    obtain ⟨v,r,rfl,h2,h3⟩:=h
    unfold Rep at h2
    rw [h2,Qdf h3]
    rfl
theorem Qau {K:PySem.W.Frag} {F:Hp}:∀ (ns:List Int),RepL K F (ns.map .int) (ns.map V.int)
  | [] => .nil
  | n :: ns => .cons (QZ n) (Qau ns)
theorem Qde {K:PySem.W.Frag} {F:Hp}:∀ {ns:List Str} {vs:List V},RepL K F (ns.map .str) vs→vs=ns.map V.str
  | [],vs,h=>by rw [List.map_nil] at h;unfold RepL at h;exact h
  | n :: ns,vs,h=>by
    rw [List.map_cons] at h
    unfold RepL at h
    obtain ⟨v,r,rfl,h2,h3⟩:=h
    unfold Rep at h2
    rw [h2,Qde h3]
    rfl
theorem Qeb {K:PySem.W.Frag} {F:Hp}:∀ (ns:List Str),RepL K F (ns.map .str) (ns.map V.str)
  | [] => .nil
  | n :: ns => .cons (QcQ n) (Qeb ns)
theorem QbY:∀ {ns:List Str} {us:List Value},Vals (ns.map V.str) us→StrsAre us ns
  | [],us,r=>by rw [List.map_nil] at r;cases r;exact .nil
  | n :: ns,us,r=>by
    rw [List.map_cons] at r
    cases r with
    | cons r1 r2 =>
      obtain ⟨t,e⟩:=r1
      subst e
      exact .cons n t (QbY r2)
theorem Qft:∀ {vs:List Value} {ns:List Str},StrsAre vs ns→Vals (ns.map V.str) vs
  | _,_,.nil => .nil
  | _,_,.cons n t h => .cons ⟨t,rfl⟩ (Qft h)

section
variable {X:Cx} {e a b c:Expr} {es:List Expr} {ms ns ls:List Nat} {m m1 m2 m3:MEx} {pos p p2 p3:Pos} {x:Str} {id T:String}
noncomputable def XJ (ns:List Int):List Int:=ns.mergeSort fun a b=>decide (a≤b)
theorem Yq (ns:List Int):(XJ ns).Perm ns:=List.mergeSort_perm _ _
theorem QhR (ns:List Int):(XJ ns).Pairwise (· ≤ ·):=by
  have:=List.pairwise_mergeSort (le:=fun (a b:Int)=>decide (a≤b)) (fun a b c h1 h2=>by simp at h1 h2 ⊢;omega) (fun a b=>by simp;omega) ns
  exact this.imp fun h=>by simpa using h
theorem QhS {ns ms:List Int} (hp:ms.Perm ns) (hs:ms.Pairwise (· ≤ ·)):ms=XJ ns :=
  List.Perm.eq_of_pairwise (fun x y _ _ h1 h2=>Int.le_antisymm h1 h2) hs (QhR ns) (hp.trans (Yq ns).symm)
noncomputable def sLe (a b:Str):Bool := !decide (b.cps.toList < a.cps.toList)
noncomputable def QcZ (ns:List Str):List Str:=ns.mergeSort sLe
theorem lt_tri (a b:List Nat) (h1:¬ a < b) (h2:¬ b < a):a=b:=by
  have h3:b≤a:=h1
  have h4:a≤b:=h2
  exact List.le_antisymm h4 h3
theorem Qfx (a b c:Str) (h1:sLe a b=true) (h2:sLe b c=true):sLe a c=true:=by
  unfold sLe at *
  simp only [Bool.not_eq_true',decide_eq_false_iff_not] at *
  have h3:a.cps.toList≤b.cps.toList:=h1
  have h4:b.cps.toList≤c.cps.toList:=h2
  exact List.le_trans h3 h4
theorem Qkw (a b:Str):(sLe a b||sLe b a)=true:=by
  unfold sLe
  rw [Bool.or_eq_true]
  simp only [Bool.not_eq_true',decide_eq_false_iff_not]
  rcases List.le_total a.cps.toList b.cps.toList with h | h
  · exact .inl h
  · exact .inr h
theorem sLe_anti {a b:Str} (h1:sLe a b=true) (h2:sLe b a=true):a=b:=by
  unfold sLe at *
  simp only [Bool.not_eq_true',decide_eq_false_iff_not] at *
  have e:=lt_tri _ _ h2 h1
  obtain ⟨a⟩:=a
  obtain ⟨b⟩:=b
  have e':a=b:=by simpa using e
  rw [e']
theorem Qas (ns:List Str):(QcZ ns).Perm ns:=List.mergeSort_perm _ _
theorem ssort_le (ns:List Str):(QcZ ns).Pairwise (fun a b=>sLe a b=true):=List.pairwise_mergeSort (le:=sLe) Qfx Qkw ns
theorem ssort_eq {ns ms:List Str} (hp:ms.Perm ns) (hs:ms.Pairwise (fun a b=>sLe a b=true)):ms=QcZ ns :=
  List.Perm.eq_of_pairwise (fun x y _ _ h1 h2=>sLe_anti h1 h2) hs (ssort_le ns) (hp.trans (Qas ns).symm)

theorem Qam:∀ (l:List Str) (x:Str),risingS x l=true→(x :: l).Pairwise (fun a b=>sLe a b=true)
  | [],x,_=>by simp
  | y :: l,x,h=>by
    unfold risingS at h
    rw [Bool.and_eq_true,ltCps_eq] at h
    have ih:=Qam l y h.2
    have h1:sLe x y=true:=h.1
    rw [List.pairwise_cons] at ih ⊢
    refine ⟨fun z hz => ?_,by rw [List.pairwise_cons];exact ih⟩
    rcases List.mem_cons.mp hz with rfl | hz
    · exact h1
    · exact Qfx _ _ _ h1 (ih.1 z hz)
theorem QdC (l:List Str) (h:sortedS l=true):l.Pairwise (fun a b=>sLe a b=true):=by
  cases l with
  | nil=>simp
  | cons x l=>exact Qam l x h
noncomputable def Qhc:List PV→Option (List PV)
  | [.lst xs]=>match Qbi xs with
    | some ns=>if ns.length < 64 then some ((XJ ns).map .int) else none
    | none=>match strs? xs with
      | some ss=>if ss.length < 64 then some ((QcZ ss).map .str) else none
      | none=>none
  | _=>none
theorem QfW:CallO X (.builtin "sorted") Qhc:=by
  intro pins s σ H vs us Q I rs h
  obtain ⟨F,ps,r,h1,h2,h3,w⟩:=h
  unfold Qhc at h3
  split at h3
  · rename_i xs
    unfold RepL at h2
    obtain ⟨v,t,rfl,h2,ht⟩:=h2
    unfold RepL at ht
    subst ht
    unfold Rep at h2
    obtain ⟨a,ws,rfl,k2,k3⟩:=h2
    obtain ⟨u,rfl,ru⟩:=QcY rs
    cases ru
    obtain ⟨its,rv,pl,_⟩:=I.list (h1.seq k2)
    have lay:∀ (out:Array Value) (ys:List V) (zs:List PV),Vals ys out.toList→ys.length≤sizeLine→RepL X.K F zs ys→zs=r→EP X pins σ Q (.ref (s.heap.objs.size + 1)) { s with heap:=sortedAll s.heap its out }:=fun out ys zs hv hz hr e=>by
      subst e
      obtain ⟨k,he⟩:=sortedAll_at s.heap its out
      have hn:H (s.heap.objs.size + 1)=none:=I.hok.fresh (Nat.le_succ _)
      refine ⟨.ref (s.heap.objs.size + 1),upd H (s.heap.objs.size + 1) (.lst ys),I.laid (t':=s.toks) (fun b o q=>sortedAll_old q) (Nat.le_succ _) ⟨hz,out.toList,k,hv,?_⟩,rfl,?_⟩
      · simpa [seqObj] using he
      · exact w _ ys _ F (.side h1 hn) hn (h1.free hn) Qv hr
    split at h3
    · rename_i ns hns
      obtain ⟨c,rfl⟩:=QS h3
      have e2:=Qdl hns
      subst e2
      have e3:=Qdf k3
      subst e3
      have hl:=rv.length
      rw [List.length_map] at hl
      refine sorted_ints pl.isList (Qeg rv) (by omega) fun out ns' a1 a2 a3 => ?_
      have e4:=QhS a2 a3
      refine lay out (ns'.map V.int) (ns'.map .int) (Qbv a1) ?_ (Qau ns') (by rw [e4])
      rw [List.length_map,a2.length_eq]
      exact Nat.le_of_lt (Nat.lt_trans c (by decide))
    · split at h3
      · rename_i ss hss
        obtain ⟨c,rfl⟩:=QS h3
        have e2:=Qdd hss
        subst e2
        have e3:=Qde k3
        subst e3
        have hl:=rv.length
        rw [List.length_map] at hl
        refine sorted_strs pl.isList (QbY rv) (by omega) fun out ns' a1 a2 a3 => ?_
        have e4:=ssort_eq a2 (QdC _ a3)
        refine lay out (ns'.map V.str) (ns'.map .str) (Qft a1) ?_ (Qeb ns') (by rw [e4])
        rw [List.length_map,a2.length_eq]
        exact Nat.le_of_lt (Nat.lt_trans c (by decide))
      · cases h3
  · cases h3
noncomputable def rMt (K:PySem.W.Frag) (g:PV→List PV→Option PV):V→List V→Hp→VK→Prop:=fun x vs H Q=>∃ F p ps r,Same F H∧Rep K F p x∧RepL K F ps vs∧g p ps=some r∧Wv K F H r Q
noncomputable def tyOk (T:String):PV→Bool
  | .str _=>T == "str"
  | .int _=>T == "int"
  | .lst _=>T == "list"
  | _=>false
noncomputable def mMt (T:String) (g:PV→List PV→Option α) (m:MEx) (ma:PEnv→Option (List PV)):PEnv→Option α:=fun γ=>(m γ).bind fun p=>if tyOk T p=true then (ma γ).bind fun ps=>g p ps else none
theorem QjL {K:PySem.W.Frag} {F H:Hp} {p:PV} {v:V} (h:Same F H) (r:Rep K F p v) (t:tyOk T p=true):tyV K T v H:=by
  cases p with
  | str z=>unfold Rep at r;subst r;exact eq_of_beq t
  | int z=>unfold Rep at r;subst r;exact eq_of_beq t
  | lst xs=>unfold Rep at r;obtain ⟨a,vs,rfl,k2,_⟩:=r;exact .inl ⟨eq_of_beq t,vs,h.seq k2⟩
  | _=>cases t
variable {o:Expr} {ma:PEnv→Option (List PV)}
theorem em_mt {g:PV→List PV→Option PV} (h:EM X ms o m) (ha:AM X ns (e :: es) ma) {name:Str} {apos cpos:Pos}
    (hp:PE X (.Call (.Attribute o name apos) (e :: es) [] cpos) (tBM X.K T (rMt X.K g) (tM X.K ms m) (tMA X.K ns ma))):EM X (ms++ns) (.Call (.Attribute o name apos) (e :: es) [] cpos) (mMt T g m ma) :=
  PE.imp hp fun σ H Q ⟨F,γ,r,k1,k2,k3,w⟩=>by
    obtain ⟨p,e1,k3⟩:=Qg k3
    have c:tyOk T p=true:=by
      by_cases c:tyOk T p=true
      · exact c
      · rw [if_neg c] at k3;cases k3
    rw [if_pos c] at k3
    obtain ⟨ps,e2,k3⟩:=Qg k3
    refine ⟨F,γ,p,k1,k2.left,e1,fun v H1 F1 g1 q1=>⟨QjL g1.sub q1 c,F1,γ,ps,g1.sub,k2.right.mono g1.ext,e2,fun vs H2 F2 g2 q2 => ?_⟩⟩
    exact ⟨F2,p,ps,r,g2.sub,q1.mono g2.ext,q2,k3,w.go (g1.trans g2)⟩
noncomputable def mMt0 (T:String) (g:PV→List PV→Option α) (m:MEx):PEnv→Option α:=fun γ=>(m γ).bind fun p=>if tyOk T p=true then g p [] else none
theorem em_mt0 {g:PV→List PV→Option PV} (h:EM X ms o m) {name:Str} {apos cpos:Pos}
    (hp:PE X (.Call (.Attribute o name apos) [] [] cpos) (tBM0 X.K T (rMt X.K g) (tM X.K ms m))):EM X ms (.Call (.Attribute o name apos) [] [] cpos) (mMt0 T g m) :=
  PE.imp hp fun σ H Q ⟨F,γ,r,k1,k2,k3,w⟩=>by
    obtain ⟨p,e1,k3⟩:=Qg k3
    have c:tyOk T p=true:=by
      by_cases c:tyOk T p=true
      · exact c
      · rw [if_neg c] at k3;cases k3
    rw [if_pos c] at k3
    refine ⟨F,γ,p,k1,k2,e1,fun v H1 F1 g1 q1=>⟨QjL g1.sub q1 c,F1,p,[],r,g1.sub,q1,.nil,k3,w.go g1⟩⟩
noncomputable def Qhd:PV→List PV→Option PV
  | .int i,[]=>some (.int (Builtin.Int.intBits i))
  | _,_=>none
theorem mm_bits:MtR X "int.bit_length" (rMt X.K Qhd):=by
  intro pins s σ H x xs v us Q I rx rs h
  obtain ⟨F,p,ps,r,h1,h2,h3,h4,w⟩:=h
  unfold Qhd at h4
  split at h4
  · cases h4
    unfold Rep at h2
    subst h2
    obtain ⟨t,rfl⟩:=rx
    unfold RepL at h3
    subst h3
    cases rs
    exact call_int_bit_length ⟨.int _,H,I.tok _,⟨_,rfl⟩,w.here h1 (QZ _)⟩
  · cases h4
theorem em_bits {apos cpos:Pos} (h:EM X ms o m) (hbase:attributeBase o "bit_length" X.env (eval o X.env)=eval o X.env:=by rfl) (hline:(apos.endLine==cpos.line)=true:=by rfl):EM X ms (.Call (.Attribute o "bit_length" apos) [] [] cpos) (mMt0 "int" Qhd m) :=
  em_mt0 h (pe_bm0 PySem.F.plainAttrs_int slot_int_bit_length type_int_bit_length mm_bits h hbase hline)
noncomputable def Qgg:PV→List PV→Option PV
  | .str x,[.lst xs]=>match strs? xs with
    | some ys=>if (ys.map (·.length)).sum + ys.length * x.length≤LIM then some (.str (Txt.join x ys)) else none
    | none=>none
  | _,_=>none
theorem mm_join:MtR X "str.join" (rMt X.K Qgg):=by
  intro pins s σ H x xs v us Q I rx rs h
  obtain ⟨F,p,ps,r,h1,h2,h3,h4,w⟩:=h
  unfold Qgg at h4
  split at h4
  · rename_i sep zs
    split at h4
    · rename_i ys hys
      obtain ⟨c,rfl⟩:=QS h4
      unfold Rep at h2
      subst h2
      obtain ⟨t,rfl⟩:=rx
      unfold RepL at h3
      obtain ⟨v1,r1,rfl,h3,ht⟩:=h3
      unfold RepL at ht
      subst ht
      unfold Rep at h3
      obtain ⟨a,ws,rfl,k2,k3⟩:=h3
      obtain ⟨u,rfl,ru⟩:=QcY rs
      cases ru
      have e2:=Qdd hys
      subst e2
      have e3:=Qde k3
      subst e3
      obtain ⟨its,rv,pl,_⟩:=I.list (h1.seq k2)
      refine join_list pl.isList (by simpa using QbY rv) (Nat.le_trans c (by decide)) fun t' k=>⟨.str _,H,I.tok _,⟨_,rfl⟩,w.here h1 (QcQ _)⟩
    · cases h4
  · cases h4
theorem QgD {apos cpos:Pos} (h:EM X ms o m) (ha:AM X ns (e :: es) ma) (hbase:attributeBase o "join" X.env (eval o X.env)=eval o X.env:=by rfl)
    (hfew:((backTo cpos (starEach (e :: es) X.env)).all (fun x => !x.1)&&(backToKw cpos (keywordEach [] X.env)).all (fun x=>x.1.isSome)
      && decide ((e :: es).length + ([]:List Keyword).length + (if ([]:List Keyword).isEmpty then 0 else 1) < 30))=true:=by rfl)
    (hline:(apos.endLine==cpos.line)=true:=by rfl) (hs:starEach (e :: es) X.env=(false,eval e X.env) :: starEach es X.env:=by rfl) (hplain:(backTo cpos (starEach es X.env)).any (·.1)=false:=by rfl) :
    EM X (ms++ns) (.Call (.Attribute o "join" apos) (e :: es) [] cpos) (mMt "str" Qgg m ma) :=
  em_mt h ha (Qda PySem.F.plainAttrs_str PySem.F.slot_str_join PySem.F.type_str_join mm_join h ha hbase hfew hline hs hplain)

noncomputable def rSlS:V→Option Int→Option Int→Hp→VK→Prop:=fun x lo hi H Q=>∃ z,x = .str z∧z.length≤sizeLine∧Q (.str (Txt.slice z lo hi)) H
theorem QiV {h:Heap} {a:Addr} {vl vu:Value} {lo hi:Option Int} (hs:h.IsSliceOf a vl vu .none) (pl:IsPart vl lo) (pu:IsPart vu hi):∃ l u,h.IsSlice a l u none∧l.map (·.1)=lo∧u.map (·.1)=hi:=by
  cases pl with
  | none =>
    cases pu with
    | none=>exact ⟨none,none,hs,rfl,rfl⟩
    | int j t=>exact ⟨none,some (j,t),hs,rfl,rfl⟩
  | int i t' =>
    cases pu with
    | none=>exact ⟨some (i,t'),none,hs,rfl,rfl⟩
    | int j t=>exact ⟨some (i,t'),some (j,t),hs,rfl,rfl⟩
theorem sl_str:SlR X rSlS:=by
  intro pins s σ H x v vl vu lo hi sl Q I rx hs pl pu h
  obtain ⟨z,rfl,hz,q⟩:=h
  obtain ⟨t,rfl⟩:=rx
  obtain ⟨l,u,hsl,rfl,rfl⟩:=QiV hs pl pu
  refine ⟨"str",_,PySem.F.slot_str_getitem.lookup,typeIs_str _ _ _,wpAny_getItem_str_slice (l:=l) (u:=u) (st:=none) hsl rfl ?_⟩
  exact post_val_or_str ⟨Nat.le_trans (Txt.slice_le z _ _) hz,fun t' k=>⟨.str _,H,I.tok _,⟨_,rfl⟩,q⟩⟩
noncomputable def pCutS:PV→Option Int→Option Int→Option PV
  | .str z,lo,hi=>if z.length≤LIM then some (.str (Txt.slice z lo hi)) else none
  | _,_,_=>none
variable {lo hi:Option Expr} {ml mh:PEnv→Option (Option Int)}
theorem em_cutS (he:EM X ms e m) (hl:OM X ns lo ml) (hh:OM X ls hi mh):EM X (ms++(ns++ls)) (.Subscript e (.Slice lo hi none p2) pos) (sl3 pCutS m ml mh):=by
  refine PE.imp (QhF sl_str he hl hh) fun σ H Q ⟨F,γ,r,h1,h2,h3,w⟩ => ?_
  obtain ⟨x,e1,h3⟩:=Qg h3
  obtain ⟨l,e2,h3⟩:=Qg h3
  obtain ⟨h,e3,h3⟩:=Qg h3
  refine ⟨F,γ,x,h1,h2.left,e1,fun vx H1 F1 g1 r1=>⟨F1,γ,l,g1.sub,h2.right.left.mono g1.ext,e2,fun H2 F2 g2=>⟨F2,γ,h,g2.sub,h2.right.right.mono (g1.ext.trans g2.ext),e3,fun H3 F3 g3 => ?_⟩⟩⟩
  have g:=g1.trans (g2.trans g3)
  cases x with
  | str z =>
    have h3:(if z.length≤LIM then some (PV.str (Txt.slice z l h)) else none)=some r:=h3
    obtain ⟨c,rfl⟩:=QS h3
    unfold Rep at r1
    exact ⟨z,r1,Nat.le_trans c Yl,(w.go g).here g.sub (QcQ _)⟩
  | _=>cases h3
end
end L2.PM

noncomputable section
namespace L2.PM
open PySem PySem.Spec PyProof.Rows

section
variable {X:Cx} {e a b c:Expr} {es:List Expr} {ms ns ls:List Nat} {m m1 m2 m3:MEx} {pos p p1 p2 p3 pos':Pos} {x:Str} {id T:String}
end
end L2.PM

noncomputable section
namespace L2.PM
open PySem PySem.Spec PyProof.Rows

noncomputable def QgE (N:List Str) (osc scope:Scope) (N':List Str) (nt:Nat) (caps:List Nat):Bool :=
  (scope.kind == .function)&&scope.names.all (fun x=>x.2 != NameKind.cell)&&scope.names.all (fun x=>x.2 != NameKind.local||scope.names.lookup x.1==some .local) &&
  scope.names.all (fun x=>x.2 != NameKind.free||(osc.names.lookup x.1==some .cell||osc.names.lookup x.1==some .free))&&(N'.length==nt + caps.length) &&
  (caps.zip (N'.drop nt)).all (fun p=>N[p.1]?==some p.2&&scope.names.lookup p.2==some NameKind.free)
theorem Qlf {N:List Str} {osc scope:Scope} {N':List Str} {nt:Nat} {caps:List Nat} (h:QgE N osc scope N' nt caps=true):CompOk N osc scope N' nt caps:=by
  unfold QgE at h
  simp only [Bool.and_eq_true,List.all_eq_true,Bool.or_eq_true,bne_iff_ne,beq_iff_eq,ne_eq] at h
  obtain ⟨⟨⟨⟨⟨h1,h2⟩,h3⟩,h4⟩,h5⟩,h6⟩:=h
  refine ⟨h1,h2,fun x hx e => ?_,fun x hx e => ?_,h5,h6⟩
  · rcases h3 x hx with z | z
    · exact absurd e z
    · exact z
  · rcases h4 x hx with z | z
    · exact absurd e z
    · exact z
theorem XL {X:Cx} {N:List Str} {osc scope:Scope} {N':List Str} {nt:Nat} {caps:List Nat} (h1:X.N=N) (h2:X.env.scope=osc) (h:QgE N osc scope N' nt caps=true):CompOk X.N X.env.scope scope N' nt caps:=by
  rw [h1,h2];exact Qlf h
noncomputable def Cal (P:Program) (w:World) (K:PySem.W.Frag) (mg:Str→Option Value) (base:Heap) (k:Nat) (x:Str) (n:Nat) (g:List PV→Option PV):Prop :=
  ∃ f fd ps,FnOk P w K mg base CX0 k f fd ps (spM K n g)∧mg x=some (.ref f)∧PySem.W.keepIn K (.ref f)=true∧YV K fd ps []
noncomputable def CalO (P:Program) (w:World) (K:PySem.W.Frag) (mg:Str→Option Value) (base:Heap) (k:Nat) (x:Str) (n:Nat) (g:List PV→Option (List PV)):Prop :=
  ∃ f fd ps,FnOk P w K mg base CX0 k f fd ps (spO K n g)∧mg x=some (.ref f)∧PySem.W.keepIn K (.ref f)=true∧YV K fd ps []
section
variable {X:Cx} {e:Expr} {es:List Expr} {ms:List Nat} {ma:PEnv→Option (List PV)} {x:Str} {p pos:Pos} {k j n:Nat}
theorem Qn {g:List PV→Option PV} (c:Cal X.prog X.w X.K X.mg X.base k x n g) (hn:∀ ps r,g ps=some r→ps.length=n) (hr:Room k X.A) (hg:Gl X x)
    (ha:AM X ms (e :: es) ma) (hdb:(x==("__debug__":Str))=false:=by decide) (he:starEach (e :: es) X.env=(false,eval e X.env) :: starEach es X.env:=by rfl) (hpl:(backTo pos (starEach es X.env)).any (·.1)=false:=by rfl) :
    EM X ms (.Call (.Name x p) (e :: es) [] pos) (Qk g ma):=by
  obtain ⟨f,fd,ps,F,hm,hk,hb⟩:=c
  exact em_call F hn hr hg hm hk hb ha hdb he hpl
theorem eo_cal {g:List PV→Option (List PV)} (c:CalO X.prog X.w X.K X.mg X.base k x n g) (hn:∀ ps r,g ps=some r→ps.length=n) (hr:Room k X.A) (hg:Gl X x)
    (ha:AM X ms (e :: es) ma) (hdb:(x==("__debug__":Str))=false:=by decide) (he:starEach (e :: es) X.env=(false,eval e X.env) :: starEach es X.env:=by rfl) (hpl:(backTo pos (starEach es X.env)).any (·.1)=false:=by rfl) :
    EO X ms (.Call (.Name x p) (e :: es) [] pos) (Qk g ma):=by
  obtain ⟨f,fd,ps,F,hm,hk,hb⟩:=c
  exact eo_call F hn hr hg hm hk hb ha hdb he hpl
theorem YB {m:MEx} (h:EM X ms e m) (hs:starEach [e] X.env=(false,eval e X.env) :: starEach [] X.env:=by rfl):PA X [e] (tMA X.K ms (Qe m aNil)):=by
  have z:=Qb h Qf hs
  unfold AM at z
  rw [List.append_nil] at z
  exact z
theorem law_sp {K:PySem.W.Frag} {H:Hp} {a:Addr} {ns:List Int} {g:List PV→Option PV} {E:XK} (h:∀ ns:List Int,ns.length≤63→g [.lst (ns.map .int)]=some (.bl true)) (hl:ns.length≤63) (hS:SqL K H a (ns.map V.int)) :
    spM K 1 g [.ref a] H (fun v _=>v = .bl true) E:=by
  refine ⟨rfl,H,[.lst (ns.map .int)],.bl true,Same.refl _,.cons ?_ .nil,h ns hl,fun v H' F' _ r => ?_⟩
  · unfold Rep
    exact ⟨a,ns.map V.int,rfl,hS,Qau ns⟩
  · unfold Rep at r
    exact r
end
end L2.PM

noncomputable section
namespace L2.PM
open PySem PySem.Spec PyProof.Rows
noncomputable def pN (n:Nat):PV := .int (n:Int)
noncomputable def mN (n:Nat):MEx:=mC (pN n)
noncomputable def QgM:List PV→Option (List PV)
  | [.lst xs]=>some (xs.zipIdx.map fun x => .tup [pN x.2,x.1])
  | _=>none
noncomputable def Qfj:List PV→Option (List PV)
  | [.tup xs]=>some (xs.zipIdx.map fun x => .tup [pN x.2,x.1])
  | _=>none
noncomputable def iSeq (m:MEx):PEnv→Option (List PV):=fun γ=>(m γ).bind fun p=>match p with
  | .lst xs=>some xs
  | .tup xs=>some xs
  | _=>none
noncomputable def pRev:List PV→Option (List PV)
  | [.lst xs]=>some xs.reverse
  | _=>none
noncomputable def once {α:Type} [BEq α]:List α→List α
  | []=>[]
  | x :: xs=>x :: (once xs).filter fun y => !(y==x)
noncomputable def Qbq:List PV→Option (List PV)
  | [.lst xs]=>match Qbi xs with
    | some ns=>if ns.length < 1000∧(once ns).length < 64 then some ((XJ (once ns)).map .int) else none
    | none=>none
  | _=>none
end L2.PM

noncomputable section
namespace L2.PM
open PySem PySem.Spec PyProof.Rows
noncomputable def Up (xs:Array Nat):Prop:=xs.toList.Pairwise (· < ·)
theorem Up.get {xs:Array Nat} (h:Up xs) {i k:Nat} {x y:Nat} (hik:i < k) (hx:xs[i]?=some x) (hy:xs[k]?=some y):x < y:=by
  unfold Up at h
  rw [List.pairwise_iff_getElem] at h
  obtain ⟨hi,rfl⟩:=Array.getElem?_eq_some_iff.mp hx
  obtain ⟨hk,rfl⟩:=Array.getElem?_eq_some_iff.mp hy
  have:=h i k (by simpa using hi) (by simpa using hk) hik
  simpa using this
theorem QeO {xs:Array Nat} {j:Nat} (up:Up xs):∀ (fuel lo hi:Nat),hi - lo≤fuel→lo≤hi→hi≤xs.size→(∀ i x,i < lo→xs[i]?=some x→x < j)→(∀ i x,hi≤i→xs[i]?=some x→j≤x) →
    SetTable.below.go xs j fuel lo hi≤xs.size∧(∀ i x,i < SetTable.below.go xs j fuel lo hi→xs[i]?=some x→x < j)∧(∀ i x,SetTable.below.go xs j fuel lo hi≤i→xs[i]?=some x→j≤x)
  | 0,lo,hi,hf,hl,hh,h1,h2=>by
    have:lo=hi:=by omega
    subst this
    exact ⟨hh,h1,h2⟩
  | fuel + 1,lo,hi,hf,hl,hh,h1,h2=>by
    unfold SetTable.below.go
    by_cases hlt:lo < hi
    · rw [if_pos hlt]
      dsimp only
      have hm:(lo + hi) / 2 < xs.size:=by omega
      have hg:xs[(lo + hi) / 2]?=some xs[(lo + hi) / 2]:=Array.getElem?_eq_getElem hm
      have hd:xs.getD ((lo + hi) / 2) j=xs[(lo + hi) / 2]:=by simp [Array.getD,hm]
      by_cases hc:xs.getD ((lo + hi) / 2) j < j
      · rw [if_pos hc]
        refine QeO up fuel _ hi (by omega) (by omega) hh (fun i x hi' hx => ?_) h2
        rcases Nat.lt_or_ge i ((lo + hi) / 2) with z | z
        · have:=up.get z hx hg
          omega
        · have:i=(lo + hi) / 2:=by omega
          subst this
          rw [hg] at hx
          cases hx
          omega
      · rw [if_neg hc]
        refine QeO up fuel lo _ (by omega) (by omega) (by omega) h1 fun i x hi' hx => ?_
        rcases Nat.lt_or_ge ((lo + hi) / 2) i with z | z
        · have:=up.get z hg hx
          omega
        · have:i=(lo + hi) / 2:=by omega
          subst this
          rw [hg] at hx
          cases hx
          omega
    · rw [if_neg hlt]
      have:lo=hi:=by omega
      subst this
      exact ⟨hh,h1,h2⟩
theorem Qax {xs:Array Nat} (up:Up xs) (j:Nat):SetTable.below xs j≤xs.size∧(∀ i x,i < SetTable.below xs j→xs[i]?=some x→x < j)∧(∀ i x,SetTable.below xs j≤i→xs[i]?=some x→j≤x) :=
  QeO up xs.size 0 xs.size (by omega) (by omega) (Nat.le_refl _) (fun i x h _=>by omega) (fun i x h e=>by
    have:=(Array.getElem?_eq_some_iff.mp e).1
    omega)
theorem below_at {xs:Array Nat} (up:Up xs) {i j:Nat} (h:xs[i]?=some j):SetTable.below xs j=i:=by
  obtain ⟨h1,h2,h3⟩:=Qax up j
  rcases Nat.lt_trichotomy (SetTable.below xs j) i with z | z | z
  · have hi:=(Array.getElem?_eq_some_iff.mp h).1
    have hg:xs[SetTable.below xs j]?=some xs[SetTable.below xs j]:=Array.getElem?_eq_getElem (by omega)
    have a:=h3 _ _ (Nat.le_refl _) hg
    have b:=up.get z hg h
    omega
  · exact z
  · have:=h2 i j z h
    omega
theorem Qjj {xs:Array Nat} (up:Up xs) {i j:Nat} (h:xs[i]?=some j):SetTable.below xs (j + 1)=i + 1:=by
  obtain ⟨h1,h2,h3⟩:=Qax up (j + 1)
  have hi:=(Array.getElem?_eq_some_iff.mp h).1
  rcases Nat.lt_trichotomy (SetTable.below xs (j + 1)) (i + 1) with z | z | z
  · have:=h3 i j (by omega) h
    omega
  · exact z
  · have hg:xs[i + 1]?=some xs[i + 1]:=Array.getElem?_eq_getElem (by omega)
    have a:=h2 _ _ z hg
    have b:=up.get (Nat.lt_succ_self i) h hg
    omega
theorem Qji {xs:Array Nat} (up:Up xs):SetTable.below xs 0=0:=by
  obtain ⟨h1,h2,h3⟩:=Qax up 0
  rcases Nat.eq_zero_or_pos (SetTable.below xs 0) with z | z
  · exact z
  · have hg:xs[0]?=some xs[0]:=Array.getElem?_eq_getElem (by omega)
    have:=h2 0 _ z hg
    omega
theorem Qfc {α:Type} (xs:Array α) (p:Nat) (x:α):(SetTable.insertAt xs p x).toList=xs.toList.take p++x :: xs.toList.drop p:=by
  unfold SetTable.insertAt
  simp [Array.toList_extract,List.extract_eq_take_drop]
  exact List.take_of_length_le (by simp)
theorem Qkn {xs:Array Nat} (up:Up xs) {j:Nat} (hn:j∉xs.toList):Up (SetTable.insertAt xs (SetTable.below xs j) j):=by
  obtain ⟨h1,h2,h3⟩:=Qax up j
  unfold Up
  rw [Qfc,List.pairwise_append,List.pairwise_cons]
  have lo:∀ y∈xs.toList.take (SetTable.below xs j),y < j:=fun y hy=>by
    obtain ⟨i,hi,rfl⟩:=List.mem_take_iff_getElem.mp hy
    exact h2 i _ (by omega) (by
      rw [Array.getElem?_eq_some_iff]
      exact ⟨by simp at hi;omega,by simp⟩)
  have hi:∀ y∈xs.toList.drop (SetTable.below xs j),j < y:=fun y hy=>by
    have hm:y∈xs.toList:=List.mem_of_mem_drop hy
    obtain ⟨i,hi,rfl⟩:=List.mem_drop_iff_getElem.mp hy
    have:=h3 (SetTable.below xs j + i) _ (by omega) (by
      rw [Array.getElem?_eq_some_iff]
      exact ⟨by simp at hi;omega,rfl⟩)
    have ne:j≠xs.toList[SetTable.below xs j + i]:=fun e=>hn (by rw [e];exact hm)
    simp at ne
    simp
    omega
  refine ⟨List.Pairwise.sublist (List.take_sublist _ _) up,⟨fun y hy=>hi y hy,List.Pairwise.sublist (List.drop_sublist _ _) up⟩,fun a ha b hb => ?_⟩
  rcases List.mem_cons.mp hb with e | e
  · rw [e];exact lo a ha
  · exact Nat.lt_trans (lo a ha) (hi b e)
theorem Qhz {t:SetTable} (up:Up t.place) {j:Nat} (h:∀ i,t.slot j ≠ .live i):j∉t.place.toList:=by
  intro hm
  obtain ⟨i,hi,e⟩:=List.mem_iff_getElem.mp hm
  have hg:t.place[i]?=some j:=by
    rw [Array.getElem?_eq_some_iff]
    exact ⟨by simpa using hi,by simpa using e⟩
  have hb:=below_at up hg
  refine h i ?_
  unfold SetTable.slot
  dsimp only
  rw [hb,hg,if_pos (by simp)]
theorem QeA {t:SetTable} {ha:Nat→Int} {h:Int}:∀ (fuel:Nat) (p:SetTable.Probe) (j:Nat) (d:Option Nat),(∀ q,p.dummy=some q→t.slot q = .dummy)→SetTable.probe.go t ha h fuel p=some (.empty j d)→t.slot j = .empty∧∀ q,d=some q→t.slot q = .dummy
  | 0,p,j,d,_,e=>by cases e
  | fuel + 1,p,j,d,hp,e=>by
    unfold SetTable.probe.go at e
    split at e
    · rename_i hs
      cases e
      exact ⟨hs,hp⟩
    · rename_i hs
      refine QeA fuel _ j d (fun q hq => ?_) e
      have hq:(t.advance { p with dummy:=some p.j }).dummy=some q:=hq
      have hd:(t.advance { p with dummy:=some p.j }).dummy=some p.j:=by
        unfold SetTable.advance
        split <;> rfl
      rw [hd] at hq
      cases hq
      exact hs
    · split at e
      · cases e
      · refine QeA fuel _ j d (fun q hq=>hp q ?_) e
        have hd:(t.advance p).dummy=p.dummy:=by
          unfold SetTable.advance
          split <;> rfl
        rw [hd] at hq
        exact hq
theorem Qgq {t:SetTable} (up:Up t.place) {h:Int} {j:Nat} {b:Bool} (e:t.freeSlot h=some (j,b)):j∉t.place.toList:=by
  unfold SetTable.freeSlot at e
  split at e
  · rename_i i d hq
    obtain ⟨h1,h2⟩:=QeA _ _ _ _ (fun q hq=>by cases hq) hq
    cases e
    cases d with
    | none =>
      refine Qhz up fun k z => ?_
      have h1:t.slot i = .empty:=h1
      rw [show ((none:Option Nat).getD i)=i from rfl,h1] at z
      cases z
    | some q =>
      refine Qhz up fun k z => ?_
      have h2:=h2 q rfl
      rw [show ((some q).getD i)=q from rfl,h2] at z
      cases z
  · cases e
theorem up_range (n:Nat):Up (Array.range n):=by
  unfold Up
  rw [Array.toList_range]
  exact List.pairwise_lt_range
theorem Qgh {α:Type} (f:Nat→Option α) (n:Nat):(((List.range n).filterMap fun j=>(f j).map (j,·)).map (·.1)).Pairwise (· < ·):=by
  have key:∀ l:List Nat,l.Pairwise (· < ·)→(((l.filterMap fun j=>(f j).map (j,·)).map (·.1)).Pairwise (· < ·))∧∀ x∈((l.filterMap fun j=>(f j).map (j,·)).map (·.1)),x∈l:=by
    intro l
    induction l with
    | nil=>intro _;exact ⟨by simp,by simp⟩
    | cons y l ih =>
      intro hp
      rw [List.pairwise_cons] at hp
      obtain ⟨i1,i2⟩:=ih hp.2
      cases hf:f y with
      | none =>
        rw [List.filterMap_cons_none (by rw [hf];rfl)]
        exact ⟨i1,fun x hx=>List.mem_cons_of_mem _ (i2 x hx)⟩
      | some z =>
        rw [List.filterMap_cons_some (b:=(y,z)) (by rw [hf];rfl),List.map_cons]
        refine ⟨List.pairwise_cons.mpr ⟨fun x hx=>hp.1 x (i2 x hx),i1⟩,fun x hx => ?_⟩
        rcases List.mem_cons.mp hx with e | e
        · rw [e];exact List.mem_cons_self
        · exact List.mem_cons_of_mem _ (i2 x e)
  exact (key _ List.pairwise_lt_range).1
noncomputable def Kept (L:Bool) (t:SetTable):Prop:=t.led=L∧Up t.place
theorem Xd {L:Bool} {t:SetTable} (k:Kept L t) (n:Nat):Kept L (t.standIn n):=⟨k.1,up_range n⟩
theorem QiT {L:Bool} {t:SetTable} (k:Kept L t) (b:Bool):Kept L { t with plain:=b }:=k
theorem Qhm {L:Bool} {t:SetTable} (k:Kept L t) (es:Array (Int×Value)) (h:Int) (x:Value):Kept L (layNew t es h x).2.1:=by
  unfold layNew
  split
  · rename_i j b e
    dsimp only
    unfold SetTable.orStandIn
    have k2:Kept L (t.put j).1:=⟨k.1,Qkn k.2 (Qgq k.2 e)⟩
    split
    · exact k2
    · exact Xd k2 _
  · exact Xd k _
theorem QiS {L:Bool} {t:SetTable} (k:Kept L t) (es:Array (Int×Value)) (n:Nat):Kept L (relayAll t es n).2.1:=by
  unfold relayAll
  split
  · rename_i t' order e
    dsimp only
    split
    · unfold SetTable.relaid SetTable.laid at e
      cases hl:SetTable.layClean (SetTable.sizeAbove n - 1) (es.map (·.1)) with
      | none=>rw [hl] at e;cases e
      | some owner =>
        rw [hl] at e
        cases e
        refine ⟨k.1,?_⟩
        unfold Up
        rw [List.toList_toArray]
        exact Qgh (fun j=>owner.getD j none) _
    · exact Xd k _
  · exact Xd k _
end L2.PM

noncomputable section
namespace L2.PM
open PySem PySem.Spec PyProof.Rows
section
variable {prog:Program} {w:World} {A:Around} {E:Value→Shared→Prop} {s:Shared}
noncomputable def SetL (prog:Program) (w:World) (L:Bool) (h:Heap) (a:Addr) (M:List Int):Prop :=
  ∃ o es ep t,h.get? a=some o∧o.ExactSet∧o.data = .set es ep t∧ElemsOf (intKind prog w) es.toList∧(∀ k,k∈M↔∃ e∈es.toList,(intKind prog w).is k e.2=true) ∧
    es.size < scanBound∧t.fits es.size=true∧es.size=M.length∧M.Nodup∧Kept L t
theorem SetL.at {L:Bool} {h h':Heap} {a:Addr} {M:List Int} (x:SetL prog w L h a M) (e:∀ o,h.get? a=some o→h'.get? a=some o):SetL prog w L h' a M:=by
  obtain ⟨o,es,ep,t,ho,r⟩:=x
  exact ⟨o,es,ep,t,e o ho,r⟩
noncomputable def more (M:List Int) (k:Int):List Int:=if k∈M then M else M++[k]
theorem Qca {M:List Int} (h:M.Nodup) (k:Int):(more M k).Nodup:=by
  unfold more
  split
  · exact h
  · rename_i hk
    rw [List.nodup_append]
    exact ⟨h,by simp,fun a ha b hb=>by
      rw [List.mem_singleton] at hb
      subst hb
      exact fun e=>hk (e ▸ ha)⟩
theorem put_at {h:Heap} {a:Addr} {o:Obj} {es:Array (Int×Value)} {ep:Nat} {t:SetTable} (ho:h.get? a=some o) (hd:o.data = .set es ep t) (es':Array (Int×Value)) (t':SetTable) :
    (h.update a (Obj.putSet es' t')).get? a=some { o with data := .set es' (ep + 1) t' }:=by
  have e:=putSet_of es' t' hd
  have z:=Heap.get?_update_self (Obj.putSet es' t') ho (by rw [e];rfl)
  rw [e] at z
  exact z
theorem Qdt {M:List Int} {k:Int} {v:Value} {l l':List (Int×Value)} (hk:(intKind prog w).is k v=true) (hm:∀ k,k∈M↔∃ e∈l,(intKind prog w).is k e.2=true) (hn:k∉M) (p:l'.Perm (l++[((intKind prog w).hash k,v)])) (j:Int) :
    j∈more M k↔∃ e∈l',(intKind prog w).is j e.2=true:=by
  unfold more
  rw [if_neg hn,List.mem_append,List.mem_singleton]
  constructor
  · rintro (z | rfl)
    · obtain ⟨e,he,q⟩:=(hm j).mp z
      exact ⟨e,p.mem_iff.mpr (List.mem_append_left _ he),q⟩
    · exact ⟨_,p.mem_iff.mpr (List.mem_append_right _ (List.mem_singleton_self _)),hk⟩
  · rintro ⟨e,he,q⟩
    rcases List.mem_append.mp (p.mem_iff.mp he) with z | z
    · exact .inl ((hm j).mpr ⟨e,z,q⟩)
    · rw [List.mem_singleton.mp z] at q
      exact .inr ((intKind prog w).inj v j k q hk)
theorem add_L {L:Bool} {a:Addr} {M:List Int} {k:Int} {tk:Tok} {Q:Bool→Shared→Prop} (hS:SetL prog w L s.heap a M) (room:M.length + 1 < scanBound)
    (fin:∀ b h',Heap.SameBut a s.heap h'→SetL prog w L h' a (more M k)→Q b { s with heap:=h' }):wpAny (model prog w) A (setAddHashed a (.int k tk) ((intKind prog w).hash k)) Q E s:=by
  obtain ⟨o,es,ep,t,ho,hex,hd,hel,hm,hb,hf,hn,hnd,hkp⟩:=hS
  have hk:(intKind prog w).is k (.int k tk)=true:=intKind_is _ _ _ _
  have hsc:(Value.int k tk).scannable=true:=rfl
  have tail:∀ (g:Bool→Sem Unit),(∀ (b:Bool) (s₁:Shared) (R:Unit→Shared→Prop),R () s₁→wpAny (model prog w) A (g b) R E s₁)→∀ (eA:Array (Int×Value)) (tB:SetTable) (wd:Bool) (R:Option Bool→Shared→Prop),
      ElemsOf (intKind prog w) eA.toList→(∀ j,j∈more M k↔∃ e∈eA.toList,(intKind prog w).is j e.2=true)→eA.size < scanBound→tB.fits eA.size=true→eA.size=(more M k).length→Kept L tB →
      (∀ h',Heap.SameBut a s.heap h'→SetL prog w L h' a (more M k)→R (some true) { s with heap:=h' }) →
      wpAny (model prog w) A (do
        storeSet a eA tB
        if (!wd&&tB.tooFull)=true then do
            g (relayAll tB eA (SetTable.grown eA.size)).2.2
            storeSet a (relayAll tB eA (SetTable.grown eA.size)).1 (relayAll tB eA (SetTable.grown eA.size)).2.1
            pure (some true)
          else pure (some true)) R E s:=by
    intro g hg eA tB wd R h1 h2 h3 h4 h5 h6 hR
    have at1:=put_at ho hd eA tB
    refine wpAny_bind (wpAny_storeSet_of ho hd ?_ (fits_of_scanBound h3))
    have sb1:=Heap.SameBut.update s.heap a (Obj.putSet eA tB)
    split
    · have p:=relayAll_perm tB eA (SetTable.grown eA.size)
      have ff:=relayAll_fits tB eA (SetTable.grown eA.size)
      have kk:=QiS h6 eA (SetTable.grown eA.size)
      generalize relayAll tB eA (SetTable.grown eA.size)=rl at p ff kk ⊢
      obtain ⟨es2,t3,gave⟩:=rl
      have sz:es2.size=eA.size:=by
        have:=p.length_eq
        simpa using this
      refine wpAny_bind (hg _ _ _ (wpAny_bind (wpAny_storeSet_of at1 rfl ?_ (fits_of_scanBound (by show es2.size < _;rw [sz];exact h3)))))
      have at2:=put_at at1 rfl es2 t3
      refine wpAny_pure (hR _ (sb1.trans (Heap.SameBut.update _ a _)) ⟨_,es2,_,t3,at2,hex,rfl,h1.perm p,fun j=>(h2 j).trans ⟨fun ⟨e,he,q⟩=>⟨e,p.mem_iff.mpr he,q⟩,fun ⟨e,he,q⟩=>⟨e,p.mem_iff.mp he,q⟩⟩,by rw [sz];exact h3,ff,by rw [sz];exact h5,Qca hnd k,kk⟩)
    · exact wpAny_pure (hR _ sb1 ⟨_,eA,_,tB,at1,hex,rfl,h1,h2,h3,h4,h5,Qca hnd k,h6⟩)
  unfold setAddHashed setAddHashedIn
  refine wpAny_holding (wpAny_bind (wpAny_setState_of ho hd hf ?_))
  dsimp only
  rw [byScan_of hsc hb hel,if_pos rfl]
  unfold setAddByScan
  refine wpAny_bind (wpAny_bind (wpAny_rule (wpAny_bind (wpAny_setScan_of hk ho hd hf hel ?_))))
  cases hr:List.findIdx? (fun e=>(intKind prog w).is k e.2) es.toList with
  | some j =>
    obtain ⟨hj,pj,_⟩:=List.findIdx?_eq_some_iff_getElem.mp hr
    have hkM:k∈M:=(hm k).mpr ⟨_,List.getElem_mem hj,pj⟩
    refine wpAny_pure (wpAny_pure ?_)
    have z:=fin false s.heap (Heap.SameBut.refl a s.heap) (by
      unfold more
      rw [if_pos hkM]
      exact ⟨o,es,ep,t,ho,hex,hd,hel,hm,hb,hf,hn,hnd,hkp⟩)
    exact z
  | none =>
    have hkM:k∉M:=fun z=>by
      obtain ⟨e,he,q⟩:=(hm k).mp z
      rw [List.findIdx?_eq_none_iff.mp hr e he] at q
      cases q
    have gw:∀ (b:Bool) (s₁:Shared) (R:Unit→Shared→Prop),R () s₁→wpAny (model prog w) A (match b with | true=>rule "set.scan.the-table-gave-way" | false=>pure ()) R E s₁:=fun b s₁ R hq=>by
      cases b
      · exact wpAny_pure hq
      · exact wpAny_rule hq
    have pm:=layNew_perm t es ((intKind prog w).hash k) (.int k tk)
    have fi:=layNew_fits t es ((intKind prog w).hash k) (.int k tk)
    have kp:=Qhm hkp es ((intKind prog w).hash k) (.int k tk)
    dsimp only
    generalize layNew t es ((intKind prog w).hash k) (.int k tk)=ly at pm fi kp ⊢
    obtain ⟨eA,t1,wd,gave⟩:=ly
    dsimp only at pm fi kp ⊢
    rw [Array.toList_push] at pm
    have sz:eA.size=es.size + 1:=by
      have:=pm.length_eq
      simpa using this
    have szM:eA.size=(more M k).length:=by
      unfold more
      rw [if_neg hkM,sz,hn]
      simp
    refine wpAny_bind (gw _ _ _ ?_)
    have done:∀ h',Heap.SameBut a s.heap h'→SetL prog w L h' a (more M k)→wpAny (model prog w) A (match some true with | some added=>pure added | none=>setAddHashedIn a (.int k tk) ((intKind prog w).hash k) 99999) Q E { s with heap:=h' }:=fun h' sb z=>wpAny_pure (fin true h' sb z)
    split
    · refine wpAny_bind ?_
      rw [hashByValue_scannable 8 hsc]
      refine wpAny_pure (tail _ gw eA _ wd _ ((hel.push hk hsc).perm pm) (Qdt hk hm hkM pm) (by omega) ?_ szM ?_ done)
      · split
        · exact fi
        · exact SetTable.fits_plain_off fi
      · split
        · exact kp
        · exact QiT kp _
    · refine wpAny_bind (wpAny_pure ?_)
      rw [if_pos rfl]
      exact tail _ gw eA _ wd _ ((hel.push hk hsc).perm pm) (Qdt hk hm hkM pm) (by omega) fi szM kp done
end
end L2.PM

noncomputable section
namespace L2.PM
open PySem PySem.Spec PyProof.Rows
noncomputable def byT (w:World):Bool:=w.params.followText "set-order"
noncomputable def seen (val:Nat→Int) (i:Nat):List Int:=((List.range i).map val).foldl more []
theorem Qfw (val:Nat→Int) (i:Nat):seen val (i + 1)=more (seen val i) (val i):=by
  unfold seen
  rw [List.range_succ,List.map_append,List.foldl_append]
  rfl
theorem more_len (M:List Int) (k:Int):(more M k).length≤M.length + 1:=by
  unfold more
  split
  · omega
  · simp
theorem QhA (val:Nat→Int):∀ i,(seen val i).length≤i
  | 0=>Nat.le_refl _
  | i + 1=>by
    rw [Qfw]
    have:=more_len (seen val i) (val i)
    have:=QhA val i
    omega
section
variable {prog:Program} {w:World} {A:Around} {E:Value→Shared→Prop} {s:Shared}
theorem QjK {R:Result→Shared→Prop} {I:Addr} {fp wr:List Addr} {G:Array GenState→Array GenState→Prop} {n:Nat} {P:Nat→Value→Prop} {St:Nat→Shared→Prop} {L:Bool}
    (W:WalksS prog w A.in1 I fp wr G n P St) (D:Addr) (out:D∉fp) (val:Nat→Int) (hval:∀ i v,P i v→∃ t,v = .int (val i) t) (small:n + 1 < scanBound) :
    ∀ (k i:Nat) (s:Shared),n - i=k→i≤n→St i s→SetL prog w L s.heap D (seen val i) →
      (∀ s',Moved (D :: wr) G s s'→SetL prog w L s'.heap D (seen val n)→R (.ok (.ret .none)) s')→codeAny (model prog w) A (.builtin "set.update.loop" ⟨[.ref D,.ref I],[]⟩) R s
  | 0,i,s,hk,hi,st,hS,fin=>by
    obtain rfl:i=n:=by omega
    have dw:D∉wr:=fun z=>out (W.sub _ z)
    refine codeAny_builtin PyProof.Rows.F.entry_set_update_loop ?_
    rw [Around.under_plainId PyProof.Rows.F.plain_set_update_loop _]
    show wpAny _ A.in1 (pyNext (.ref I) >>= _) _ _ s
    refine wpAny_bind (W.done s _ _ st fun s' mv => ?_)
    show wpAny _ A.in1 (ret Value.none) _ _ s'
    exact wpAny_pure (fin s' (mv.mono fun b hb=>List.mem_cons_of_mem _ hb) (hS.at fun o e=>mv.heap D o dw e))
  | k + 1,i,s,hk,hi,st,hS,fin=>by
    have dw:D∉wr:=fun z=>out (W.sub _ z)
    refine codeAny_builtin PyProof.Rows.F.entry_set_update_loop ?_
    rw [Around.under_plainId PyProof.Rows.F.plain_set_update_loop _]
    show wpAny _ A.in1 (pyNext (.ref I) >>= _) _ _ s
    refine wpAny_bind (W.item i s _ _ (by omega) st fun v s' hp st' mv => ?_)
    obtain ⟨t,rfl⟩:=hval i v hp
    show wpAny _ A.in1 (holding [Value.int (val i) t] (setAdd D (.int (val i) t)) >>= _) _ _ s'
    refine wpAny_bind (wpAny_holding ?_)
    unfold setAdd
    refine wpAny_holding (wpAny_bind ((intKind prog w).pyHash (k:=val i) (intKind_is _ _ _ _) ?_))
    have sl:=QhA val i
    refine add_L (s:={ s' with toks:=s'.toks + 1 }) (hS.at fun o e=>mv.heap D o dw e) (by omega) fun b h' sb z => ?_
    rw [← Qfw] at z
    refine wpAny_pure ⟨plainId_quiet PyProof.Rows.F.plain_set_update_loop _,QjK W D out val hval small k (i + 1) _ (by omega) (by omega) (W.frame _ s' _ _ st' (Nat.le_succ _) fun b hb o e => ?_) z fun s'' mv2 z2 => ?_⟩
    · exact (sb.2 b fun q=>out (q ▸ hb)).trans e
    · refine fin s'' (Moved.trans W.gtrans ((mv.mono fun b hb=>List.mem_cons_of_mem _ hb).then_heap (Nat.le_succ _) fun b o hb e => ?_) mv2) z2
      exact (sb.2 b fun q=>hb (q ▸ List.mem_cons_self)).trans e
theorem setNew (v:Value) {Q₁:Value→Shared→Prop} (fin:Q₁ (.ref s.heap.objs.size) { s with heap:=s.heap.push { cls := .type "set",dict:=none,data := .set #[] 0 (.fresh 0 0 (!byT w)) } }) :
    codeAny (model prog w) A (.call (.builtin "set.__new__") ⟨[.type "set",v],[]⟩) (wants Q₁ E) s:=by
  refine codeAny_of_tree ?_
  show wpAny _ A.in1 (do checkBuiltinCall "set.__new__" ⟨[.type "set",v],[]⟩;again (.builtin "set.__new__" ⟨[.type "set",v],[]⟩)) _ _ s
  refine wpAny_bind (wpAny_of_eq (PySem.F.newCall_set_1 v) (wpAny_pure ⟨plainId_quiet PySem.F.plain_set_new _,codeAny_builtin PySem.F.entry_set_new ?_⟩))
  rw [Around.under_plainId PySem.F.plain_set_new _]
  unfold Builtin.«set.__new__» Builtin.Frozenset.newClass
  have sub:=sub_set_self
  obtain ⟨hp,g,d,tk,os⟩:=s
  dsimp only
  wp_walk
  refine wpAny_askSetting (wpAny_pure ?_)
  dsimp only
  simp only [newObj]
  refine wpAny_bind (wpAny_alloc (wpAny_pure ?_))
  exact wpAny_pure fin
end
end L2.PM

noncomputable section
namespace L2.PM
open PySem PySem.Spec PyProof.Rows
section
variable {prog:Program} {w:World} {A:Around} {E:Value→Shared→Prop} {s:Shared}
theorem fresh_L {h:Heap} {a:Addr} (e:h.get? a=some { cls := .type "set",dict:=none,data := .set #[] 0 (.fresh 0 0 (!byT w)) }):SetL prog w (!byT w) h a [] :=
  ⟨_,#[],0,_,e,⟨rfl,rfl,rfl⟩,rfl,fun e he=>by simp at he,fun k=>by simp,by decide,by rfl,rfl,.nil,rfl,by unfold Up;simp [SetTable.fresh]⟩
set_option maxHeartbeats 3200000 in
theorem Qlh {l:Addr} {its:Array Value} {ns:List Int} {Q:Value→Shared→Prop} (calm:A.handled=none) (hl:s.heap.IsList l its) (hi:IntsAre its.toList ns) (hb:its.size + 1 < scanBound)
    (fin:∀ (h':Heap) (tk:Nat),SetL prog w (!byT w) h' s.heap.objs.size (seen (fun i=>ns.getD i 0) its.size)→(∀ b o,b < s.heap.objs.size→s.heap.get? b=some o→h'.get? b=some o)→Q (.ref s.heap.objs.size) { s with heap:=h',toks:=tk }) :
    wpAny (model prog w) A (call (.type "set") [.ref l]) Q E s:=by
  obtain ⟨c,tl,hmro⟩:=PySem.F.called_set.mro
  have hmade:=PySem.F.called_set.made
  have hsub:=PySem.F.called_set.sub
  refine wpAny_call (codeAny_of_tree ?_)
  show wpAny _ _ (callAny (.type "set") _) _ _ _
  refine wpAny_pure ⟨Code.quiet_builtin _ (by decide +kernel),codeAny_builtin PySem.F.entry_type_call ?_⟩
  rw [Around.under_plain (weight_type_call_type "set" [.ref l] []) rfl]
  have h1:=PySem.F.called_set.notType
  have h2:=PySem.F.called_set.canCreate
  have hct:=PySem.F.typeCall_set_1 (.ref l)
  repeat (any_goals (first | assumption | wp_step))
  refine codeAny_mono (setNew (.ref l) (E:=E) (Q₁:=fun obj s₁=>obj = .ref s.heap.objs.size∧s₁={ s with heap:=s.heap.push { cls := .type "set",dict:=none,data := .set #[] 0 (.fresh 0 0 (!byT w)) } }) ⟨rfl,rfl⟩) fun r s₁ hr => ?_
  cases r with
  | error e=>exact hr
  | ok fl =>
    cases fl with
    | ret obj =>
      obtain ⟨rfl,rfl⟩:=hr
      have at0:(s.heap.push { cls := .type "set",dict:=none,data := .set #[] 0 (.fresh 0 0 (!byT w)) }).get? s.heap.objs.size=some { cls := .type "set",dict:=none,data := .set #[] 0 (.fresh 0 0 (!byT w)) }:=Heap.get?_push_size _ rfl
      have hT:Shared.TypeIs { s with heap:=s.heap.push { cls := .type "set",dict:=none,data := .set #[] 0 (.fresh 0 0 (!byT w)) } } (.ref s.heap.objs.size) "set":=⟨_,at0,rfl⟩
      have hli:=PySem.F.called_set.init.lookup
      have hbi:=PySem.F.called_set.init.bind (.ref s.heap.objs.size)
      repeat (any_goals (first | assumption | wp_step))
      refine codeAny_mono (codeAny_call_builtin (R:=wants (fun r s₂=>r = .none∧∃ h' tk,s₂={ s with heap:=h',toks:=tk }∧SetL prog w (!byT w) h' s.heap.objs.size (seen (fun i=>ns.getD i 0) its.size) ∧
          (∀ b o,b < s.heap.objs.size→s.heap.get? b=some o→h'.get? b=some o)) E) PySem.F.called_set.init.plain PySem.F.entry_set_init (check_set_init_1 hT ?_)) fun r₂ s₂ hr₂ => ?_
      · obtain ⟨ol,hol,hcl,nl,hdl⟩:=hl
        obtain ⟨ocls,odict,odata,oslots⟩:=ol
        simp only at hcl hdl
        subst hcl;subst hdl
        have lold:(s.heap.push { cls := .type "set",dict:=none,data := .set #[] 0 (.fresh 0 0 (!byT w)) }).get? l=some { cls := .type "list",dict:=odict,data := .seq its nl,slots:=oslots }:=Heap.get?_push_of_some _ hol
        have hsls:=PySem.F.sub_list_set
        have hslf:=PySem.F.sub_list_frozenset
        have hne:(Value.type "list"==Value.type "dict")=false:=by decide
        have lis:(s.heap.push { cls := .type "set",dict:=none,data := .set #[] 0 (.fresh 0 0 (!byT w)) }).IsList l its:=⟨_,lold,rfl,nl,rfl⟩
        unfold Builtin.«set.__init__» noKeywords Builtin.Frozenset.updateFrom
        generalize hPI:pyIter=PI
        wp_walk
        subst hPI
        refine wpAny_pyIter_list lis (wpAny_bind (wpAny_runValue ?_))
        have llt:l < s.heap.objs.size:=Heap.lt_size hol
        have calm3:A.in1.in1.in1.handled=none:=by simp [calm]
        have ne1:l≠(s.heap.push { cls := .type "set",dict:=none,data := .set #[] 0 (.fresh 0 0 (!byT w)) }).objs.size:=by
          rw [Heap.size_push]
          exact Nat.ne_of_lt (Nat.lt_succ_of_lt llt)
        have nin:s.heap.objs.size∉[(s.heap.push { cls := .type "set",dict:=none,data := .set #[] 0 (.fresh 0 0 (!byT w)) }).objs.size,l]:=by
          rw [Heap.size_push]
          intro z
          rcases List.mem_cons.mp z with z | z
          · exact absurd z (Nat.ne_of_lt (Nat.lt_succ_self _))
          · rw [List.mem_singleton] at z
            exact absurd z (Nat.ne_of_gt llt)
        have hval:∀ (i:Nat) (v:Value),its[i]?=some v→∃ t,v = .int ((fun i=>ns.getD i 0) i) t:=fun i v hv=>IntsAre.int_at hi i v (by rw [Array.getElem?_toList];exact hv)
        refine QjK (L := !byT w) ((Walks.list calm3 _ l ne1 its).toS) s.heap.objs.size nin (fun i=>ns.getD i 0) hval hb (its.size - 0) 0 _ (by omega) (Nat.zero_le _) ⟨⟨_,Heap.get?_push_size _ rfl,rfl,rfl⟩,lis.push _⟩ ?Qab ?fin
        case Qab=>exact fresh_L (Heap.get?_push_of_some _ at0)
        case fin =>
          intro s' hm z
          obtain ⟨h',g',d',tk',os'⟩:=s'
          obtain rfl:g'=s.gens:=hm.gens
          obtain rfl:d'=s.drawn:=hm.drawn
          obtain rfl:os'=s.os:=hm.os
          show wpAny _ _ _ _ _ _
          refine wpAny_pure ?_
          show wpAny _ _ (ret Value.none) _ _ _
          refine wpAny_pure ⟨rfl,h',tk',rfl,z,fun b o hb e => ?_⟩
          refine hm.heap b o (fun q => ?_) (Heap.get?_push_of_some _ (Heap.get?_push_of_some _ e))
          rw [Heap.size_push] at q
          rcases List.mem_cons.mp q with q | q
          · exact absurd q (Nat.ne_of_lt hb)
          · rw [List.mem_singleton] at q
            exact absurd q (Nat.ne_of_lt (Nat.lt_succ_of_lt hb))
      · cases r₂ with
        | error e=>exact hr₂
        | ok fl₂ =>
          cases fl₂ with
          | ret r =>
            obtain ⟨rfl,h',tk,rfl,z,k⟩:=hr₂
            repeat (any_goals (first | assumption | wp_step))
            exact fin _ _ z k
          | _=>exact hr₂.elim
    | _=>exact hr.elim
end
end L2.PM

noncomputable section
namespace L2.PM
open PySem PySem.Spec PyProof.Rows
namespace SF
theorem own_si:Manifest.owners.lookup (String.ofList ['r','o','t','a','r','e','t','i','_','t','e','s'].reverse)=some Manifest.sig_set_iterator:=by kernel_rfl
theorem si_next:PySem.Slot "set_iterator" "__next__" "set_iterator.__next__" := .of (owner := "set_iterator") (n := "__next__") (by rw [typeLookup_type,builtinLookup_eq_fast];kernel_rfl) (by decide +kernel) (by decide +kernel) (by decide +kernel) (by first | exact .inl (by decide +kernel) | exact .inr (by decide +kernel)) (by rw [isSubtype_type];kernel_rfl)
theorem si_entry:entryFor table "set_iterator.__next__"=some Builtin.«set_iterator.__next__»:=entryFor_of_tree (by kernel_rfl)
theorem si_args (a:Value):argsOk "set_iterator.__next__" ⟨[a],[]⟩:=by
  unfold argsOk;rw [signature?_of (id := "set_iterator.__next__") (n:=['_','_','t','x','e','n','_','_']) (o:=['r','o','t','a','r','e','t','i','_','t','e','s']) (by kernel_rfl) own_si];kernel_rfl
theorem set_iter:entryFor table "set.__iter__"=some Builtin.«frozenset.__iter__»:=entryFor_alias (id' := "frozenset.__iter__") (by kernel_rfl) rfl (by decide +kernel) (by kernel_rfl)
end SF
theorem Qcc {α:Type}:∀ {l:List α} {i:Nat} (h:i < l.length),(l[i] :: l.eraseIdx i).Perm l
  | x :: l,0,_ => .refl _
  | x :: l,i + 1,h=>by
    have ih:=Qcc (l:=l) (i:=i) (by simpa using h)
    simp only [List.getElem_cons_succ,List.eraseIdx_cons_succ]
    exact (List.Perm.swap _ _ _).trans (ih.cons x)
theorem QjR {α:Type} (f:Nat→Nat):∀ (fuel k:Nat) (l:List α) (out:Array α),l.length=fuel→(pickOrder.go f fuel k l out).toList.Perm (out.toList++l)
  | 0,k,l,out,h=>by
    rw [List.length_eq_zero_iff.mp h,List.append_nil]
    exact .refl _
  | fuel + 1,k,l,out,h=>by
    have hp:0 < l.length:=by omega
    have hlt:f k % l.length < l.length:=Nat.mod_lt _ hp
    unfold pickOrder.go
    rw [List.getElem?_eq_getElem hlt]
    dsimp only
    refine (QjR f fuel (k + 1) _ _ (by rw [List.length_eraseIdx,if_pos hlt];omega)).trans ?_
    rw [Array.toList_push,List.append_assoc]
    refine List.Perm.append_left _ ?_
    exact Qcc hlt
theorem Qdh {α:Type} (f:Nat→Nat) (xs:Array α):(pickOrder f xs).toList.Perm xs.toList:=by
  have:=QjR f xs.size 0 xs.toList #[] (by simp)
  simpa [pickOrder] using this
section
variable {prog:Program} {w:World} {A:Around} {E:Value→Shared→Prop} {s:Shared}
theorem Qjf {src:Source} {n:Nat} {Q:Nat→Shared→Prop} (hn:n≠0) (h:∀ i d,i < n→Q i { s with drawn:=d }):wpAny (model prog w) A (choose src n) Q E s:=fun Γ p _=>by
  show Sem.wp (model prog w) Γ (.choose src n .pure) _ _ p s
  rw [Sem.wp_choose]
  exact ⟨hn,by rw [Sem.wp_pure];exact h _ _ (Nat.mod_lt _ (Nat.pos_of_ne_zero hn))⟩
theorem Qic {α:Type}:∀ (n:Nat) (xs:List α) (s:Shared) (Q:List α→Shared→Prop),xs.length=n→(∀ ys d,ys.Perm xs→Q ys { s with drawn:=d })→wpAny (model prog w) A (drawOrder n xs) Q E s
  | 0,xs,s,Q,hn,h=>by
    unfold drawOrder
    rw [List.length_eq_zero_iff.mp hn] at h
    exact wpAny_pure (h [] s.drawn (.refl _))
  | n + 1,[],s,Q,hn,h=>by simp at hn
  | n + 1,x :: xs,s,Q,hn,h=>by
    unfold drawOrder
    refine wpAny_bind (Qjf (by simp) fun i d hi => ?_)
    rw [List.getElem?_eq_getElem hi]
    dsimp only
    refine wpAny_bind (Qic n _ _ _ (by rw [List.length_eraseIdx,if_pos hi];simp at hn ⊢;omega) fun ys d' p => ?_)
    exact wpAny_pure (h _ _ ((List.Perm.cons _ p).trans (Qcc hi)))
end
end L2.PM

noncomputable section
namespace L2.PM
open PySem PySem.Spec PyProof.Rows
noncomputable def SIt (h:Heap) (I D:Addr) (first:Value) (i n ep:Nat):Prop:=∃ o,h.get? I=some o∧o.cls = .type "set_iterator"∧o.data = .fields #[first,rawInt i,.ref D,rawInt n,rawInt ep]
noncomputable def SetC (h:Heap) (D:Addr) (es:Array (Int×Value)) (ep:Nat) (t:SetTable):Prop:=∃ o,h.get? D=some o∧o.ExactSet∧o.data = .set es ep t∧t.fits es.size=true
section
variable {prog:Program} {w:World} {A:Around} {E:Value→Shared→Prop} {s:Shared} {I D:Addr} {es:Array (Int×Value)} {ep:Nat} {t:SetTable} {i:Nat}
theorem SIt.typeIs {first:Value} {n:Nat} (x:SIt s.heap I D first i n ep):s.TypeIs (.ref I) "set_iterator":=let ⟨o,ho,hc,_⟩:=x;⟨o,ho,hc⟩
theorem SIt.at {h h':Heap} {first:Value} {n:Nat} (x:SIt h I D first i n ep) (e:∀ o,h.get? I=some o→h'.get? I=some o):SIt h' I D first i n ep:=let ⟨o,ho,r⟩:=x;⟨o,e _ ho,r⟩
theorem SetC.at {h h':Heap} (x:SetC h D es ep t) (e:∀ o,h.get? D=some o→h'.get? D=some o):SetC h' D es ep t:=let ⟨o,ho,r⟩:=x;⟨o,e _ ho,r⟩
theorem Qbt {h:Heap} {o:Obj} {vs:Array Value} {j:Nat} {x:Value} (ho:h.get? I=some o) (hd:o.data = .fields vs):∃ o',(h.update I (Obj.mapFields (·.setIfInBounds j x))).get? I=some o'∧o'.cls=o.cls∧o'.data = .fields (vs.setIfInBounds j x) :=
  ⟨_,Heap.get?_update_self _ ho (Obj.isFreed_of_fields (Obj.data_mapFields hd _)),Obj.cls_mapFields ..,Obj.data_mapFields hd _⟩
theorem QjM {slot next:Nat} {v:Value} {Q:Option Value→Shared→Prop} (hit:SIt s.heap I D (rawInt slot) i es.size ep) (hS:SetC s.heap D es ep t)
    (hnx:∀ (A':Around) (E':Value→Shared→Prop) (R:Option (Value×Nat)→Shared→Prop),R (some (v,next)) s→wpAny (model prog w) A' (setNext D slot i ep) R E' s)
    (fin:∀ h',SIt h' I D (rawInt next) (i + 1) es.size ep→Heap.SameBut I s.heap h'→Q (some v) { s with heap:=h' }):wpAny (model prog w) A (pyNext (.ref I)) Q E s:=by
  obtain ⟨o,ho,hc,hd⟩:=id hit
  obtain ⟨oS,hoS,hex,hdS,hf⟩:=hS
  unfold pyNext
  refine wpAny_bind (wpAny_attempt (wpAny_callSpecial?_slot (name:=Str.ofString "__next__") hit.typeIs SF.si_next (wpAny_call_entry SF.si_next hit.typeIs SF.si_entry ?_ (SF.si_args _))))
  unfold Builtin.«set_iterator.__next__»
  refine wpAny_bind (wpAny_of_eq (a:=(Value.ref I,[])) rfl (wpAny_bind (wpAny_fieldsOf ho hd ?_)))
  dsimp only [rawInt]
  refine wpAny_bind (wpAny_setEntries_of hoS hdS hf ?_)
  rw [if_neg (by simp)]
  refine wpAny_bind (hnx _ _ _ ?_)
  dsimp only
  obtain ⟨o1,at1,c1,d1⟩:=Qbt (j:=0) (x:=Value.int (next:Int) 0) ho hd
  refine wpAny_bind (wpAny_setField ho hd (by simp) (wpAny_bind (wpAny_setField at1 d1 (by simp) ?_)))
  obtain ⟨o2,at2,c2,d2⟩:=Qbt (j:=1) (x:=Value.int ((i:Int) + 1) 0) at1 d1
  exact wpAny_pure ⟨v,rfl,wpAny_pure (fin _ ⟨o2,at2,c2.trans (c1.trans hc),by rw [d2];simp [rawInt]⟩ ((Heap.SameBut.update _ I _).trans (Heap.SameBut.update _ I _)))⟩
theorem Qhx {h1:Heap} {Q:Option Value→Shared→Prop} (calm:A.handled=none) (fin:∀ h',(∀ b o,h1.get? b=some o→h'.get? b=some o)→Q none { s with heap:=h' }) :
    wpAny (model prog w) A.in1 (newExc (.type "StopIteration") [] >>= fun e=>(raiseNew e:Sem PySem.Fin)) (fun fin s'=>∃ v,fin=Fin.done (Flow.ret v)∧wpAny (model prog w) A (pure (some v)) Q E s')
      (fun e s'=>wpAny (model prog w) A (do let b ← isInstance e (.type "StopIteration");if b=true then pure none else throw e) Q E s') { s with heap:=h1 }:=by
  refine wpAny_bind ?_
  simp only [newExc,newTuple]
  refine wpAny_bind (wpAny_newObj_type ?_ (by size_fits))
  refine wpAny_bind (m:=firstArgMember _ _) (wpAny_of_eq (a:=Value.none) (by first | rfl | (simp only [firstArgMember];rfl)) (wpAny_newObj_type ?_ (by size_fits)))
  simp only [raiseNew]
  refine wpAny_bind (wpAny_handled ?_)
  rw [show A.in1.handled=none from calm]
  refine wpAny_bind (wpAny_pure (wpAny_throw ?stop))
  case stop =>
  have ty:∀ (o:Obj) (h2:Heap),o.cls = .type "StopIteration"→o.isFreed=false→Shared.TypeIs { s with heap:=h2.push o } (.ref h2.objs.size) "StopIteration":=fun o h2 hc hf=>⟨o,Heap.get?_push_size _ hf,hc⟩
  refine wpAny_bind (wpAny_isInstance (T := "StopIteration") (b:=true) (ty _ _ rfl rfl) isSubtype_stop ?_)
  exact wpAny_pure (fin _ fun b o e=>Heap.get?_push_of_some _ (Heap.get?_push_of_some _ e))
theorem QjN {slot:Nat} {Q:Option Value→Shared→Prop} (calm:A.handled=none) (hit:SIt s.heap I D (rawInt slot) i es.size ep) (hS:SetC s.heap D es ep t)
    (hnx:∀ (A':Around) (E':Value→Shared→Prop) (R:Option (Value×Nat)→Shared→Prop),R none s→wpAny (model prog w) A' (setNext D slot i ep) R E' s)
    (fin:∀ h',(∀ b o,b≠I→s.heap.get? b=some o→h'.get? b=some o)→Q none { s with heap:=h' }):wpAny (model prog w) A (pyNext (.ref I)) Q E s:=by
  obtain ⟨o,ho,hc,hd⟩:=id hit
  obtain ⟨oS,hoS,hex,hdS,hf⟩:=hS
  unfold pyNext
  refine wpAny_bind (wpAny_attempt (wpAny_callSpecial?_slot (name:=Str.ofString "__next__") hit.typeIs SF.si_next (wpAny_call_entry SF.si_next hit.typeIs SF.si_entry ?_ (SF.si_args _))))
  unfold Builtin.«set_iterator.__next__»
  refine wpAny_bind (wpAny_of_eq (a:=(Value.ref I,[])) rfl (wpAny_bind (wpAny_fieldsOf ho hd ?_)))
  dsimp only [rawInt]
  refine wpAny_bind (wpAny_setEntries_of hoS hdS hf ?_)
  rw [if_neg (by simp)]
  refine wpAny_bind (hnx _ _ _ ?_)
  dsimp only
  refine wpAny_bind (wpAny_setField ho hd (by simp) ?_)
  exact Qhx calm fun h' k=>fin h' fun b o hb e=>k b o ((Heap.get?_update_other _ _ (Ne.symm hb)).trans e)
theorem si_dsome {ys:Array Value} {Tp pl:Nat} {e:Int×Value} {Q:Option Value→Shared→Prop} (hit:SIt s.heap I D (.ref Tp) i es.size ep) (hS:SetC s.heap D es ep t) (hTp:IsTup s.heap Tp ys) (hy:ys[i]?=some (rawInt pl)) (he:es[pl]?=some e)
    (fin:∀ h',SIt h' I D (.ref Tp) (i + 1) es.size ep→Heap.SameBut I s.heap h'→Q (some e.2) { s with heap:=h' }):wpAny (model prog w) A (pyNext (.ref I)) Q E s:=by
  obtain ⟨o,ho,hc,hd⟩:=id hit
  obtain ⟨oS,hoS,hex,hdS,hf⟩:=hS
  unfold pyNext
  refine wpAny_bind (wpAny_attempt (wpAny_callSpecial?_slot (name:=Str.ofString "__next__") hit.typeIs SF.si_next (wpAny_call_entry SF.si_next hit.typeIs SF.si_entry ?_ (SF.si_args _))))
  unfold Builtin.«set_iterator.__next__»
  refine wpAny_bind (wpAny_of_eq (a:=(Value.ref I,[])) rfl (wpAny_bind (wpAny_fieldsOf ho hd ?_)))
  dsimp only [rawInt]
  refine wpAny_bind (wpAny_setEntries_of hoS hdS hf ?_)
  rw [if_neg (by simp)]
  obtain ⟨oT,hoT,_,nT,hdT⟩:=hTp
  refine wpAny_bind (wpAny_seqItems hoT hdT ?_)
  dsimp only
  rw [Int.toNat_natCast,hy]
  dsimp only [rawInt]
  unfold setNextDrawn
  refine wpAny_bind (wpAny_bind (wpAny_setState_of hoS hdS hf ?_))
  dsimp only
  rw [if_neg (by simp),Int.toNat_natCast,he]
  dsimp only
  refine wpAny_pure (wpAny_bind (wpAny_setField ho hd (by simp) ?_))
  obtain ⟨o2,at2,c2,d2⟩:=Qbt (j:=1) (x:=Value.int ((i:Int) + 1) 0) ho hd
  exact wpAny_pure ⟨_,rfl,wpAny_pure (fin _ ⟨o2,at2,c2.trans hc,by rw [d2];simp [rawInt]⟩ (Heap.SameBut.update _ I _))⟩
theorem si_dnone {ys:Array Value} {Tp:Nat} {Q:Option Value→Shared→Prop} (calm:A.handled=none) (hit:SIt s.heap I D (.ref Tp) i es.size ep) (hS:SetC s.heap D es ep t) (hTp:IsTup s.heap Tp ys) (hy:ys[i]?=none)
    (fin:∀ h',(∀ b o,b≠I→s.heap.get? b=some o→h'.get? b=some o)→Q none { s with heap:=h' }):wpAny (model prog w) A (pyNext (.ref I)) Q E s:=by
  obtain ⟨o,ho,hc,hd⟩:=id hit
  obtain ⟨oS,hoS,hex,hdS,hf⟩:=hS
  obtain ⟨oT,hoT,_,nT,hdT⟩:=hTp
  unfold pyNext
  refine wpAny_bind (wpAny_attempt (wpAny_callSpecial?_slot (name:=Str.ofString "__next__") hit.typeIs SF.si_next (wpAny_call_entry SF.si_next hit.typeIs SF.si_entry ?_ (SF.si_args _))))
  unfold Builtin.«set_iterator.__next__»
  refine wpAny_bind (wpAny_of_eq (a:=(Value.ref I,[])) rfl (wpAny_bind (wpAny_fieldsOf ho hd ?_)))
  dsimp only [rawInt]
  refine wpAny_bind (wpAny_setEntries_of hoS hdS hf ?_)
  rw [if_neg (by simp)]
  refine wpAny_bind (wpAny_seqItems hoT hdT ?_)
  dsimp only
  rw [Int.toNat_natCast,hy]
  dsimp only
  obtain ⟨o1,at1,c1,d1⟩:=Qbt (j:=0) (x:=Value.int 0 0) ho hd
  refine wpAny_bind (wpAny_setField ho hd (by simp) (wpAny_bind (wpAny_setField at1 d1 (by simp) ?_)))
  exact Qhx calm fun h' k=>fin h' fun b o hb e=>k b o ((Heap.get?_update_other _ _ (Ne.symm hb)).trans ((Heap.get?_update_other _ _ (Ne.symm hb)).trans e))
theorem QjX (hT:byT w=true) (hS:SetC s.heap D es ep t) {slot:Nat} (A':Around) (E':Value→Shared→Prop) (R:Option (Value×Nat)→Shared→Prop) (h:R (((pickOrder (w.params.setOrder D ep) es)[i]?).map fun e=>(e.2,slot)) s):wpAny (model prog w) A' (setNext D slot i ep) R E' s:=by
  obtain ⟨oS,hoS,hex,hdS,hf⟩:=hS
  unfold setNext setsByText
  refine wpAny_bind (wpAny_setState_of hoS hdS hf ?_)
  dsimp only
  refine wpAny_bind (wpAny_bind (wpAny_askSetting (wpAny_pure ?_)))
  refine (show wpAny _ A' (if byT w=true then _ else _) R E' s from ?_)
  rw [if_pos hT,if_neg (by simp)]
  unfold setWalk setsByText
  refine wpAny_bind (wpAny_bind (wpAny_setState_of hoS hdS hf ?_))
  dsimp only
  refine wpAny_bind (wpAny_bind (wpAny_askSetting (wpAny_pure ?_)))
  refine (show wpAny _ A' (if byT w=true then _ else _) _ E' s from ?_)
  rw [if_pos hT]
  refine wpAny_bind (wpAny_askSetting (wpAny_pure (wpAny_pure ?_)))
  exact h
noncomputable def Qfn (es:Array (Int×Value)) (t:SetTable):Bool := !t.plain&&decide (es.size > 1)
theorem QhN (hT:byT w=false) (hS:SetC s.heap D es ep t) (hD:Qfn es t=false) (hL:t.led=true) {slot:Nat} (A':Around) (E':Value→Shared→Prop) (R:Option (Value×Nat)→Shared→Prop)
    (h:R (match es[SetTable.below t.place slot]?,t.place[SetTable.below t.place slot]? with | some (_,x),some j=>some (x,j + 1) | _,_=>none) s):wpAny (model prog w) A' (setNext D slot i ep) R E' s:=by
  obtain ⟨oS,hoS,hex,hdS,hf⟩:=hS
  unfold setNext setsByText
  refine wpAny_bind (wpAny_setState_of hoS hdS hf ?_)
  dsimp only
  refine wpAny_bind (wpAny_bind (wpAny_askSetting (wpAny_pure ?_)))
  refine (show wpAny _ A' (if byT w=true then _ else _) R E' s from ?_)
  rw [if_neg (by rw [hT];decide)]
  refine (show wpAny _ A' (if Qfn es t=true then _ else _) R E' s from ?_)
  rw [if_neg (by rw [hD];decide)]
  refine (show wpAny _ A' ((if (!t.led && !es.isEmpty)=true then unsupported "set:maker-not-led" else pure ()) >>= _) R E' s from ?_)
  rw [if_neg (by rw [hL];simp)]
  exact wpAny_bind (wpAny_pure (wpAny_pure h))
end
end L2.PM

noncomputable section
namespace L2.PM
open PySem PySem.Spec PyProof.Rows
namespace SF
theorem si_iter:PySem.Slot "set_iterator" "__iter__" "set_iterator.__iter__" := .of (owner := "set_iterator") (n := "__iter__") (by rw [typeLookup_type,builtinLookup_eq_fast];kernel_rfl) (by decide +kernel) (by decide +kernel) (by decide +kernel) (by first | exact .inl (by decide +kernel) | exact .inr (by decide +kernel)) (by rw [isSubtype_type];kernel_rfl)
theorem si_iargs (a:Value):argsOk "set_iterator.__iter__" ⟨[a],[]⟩:=by
  unfold argsOk;rw [signature?_of (id := "set_iterator.__iter__") (n:=['_','_','r','e','t','i','_','_']) (o:=['r','o','t','a','r','e','t','i','_','t','e','s']) (by kernel_rfl) own_si];kernel_rfl
theorem si_ientry:entryFor table "set_iterator.__iter__"=some Builtin.«dict_keyiterator.__iter__»:=entryFor_alias (id' := "dict_keyiterator.__iter__") (by kernel_rfl) (by first | rfl | decide +kernel | (unfold String.splitOn;simp +decide [String.splitOnAux])) (by decide +kernel) (by kernel_rfl)
end SF
section
variable {prog:Program} {w:World} {A:Around} {E:Value→Shared→Prop} {s:Shared} {I D:Addr} {es:Array (Int×Value)} {ep:Nat} {t:SetTable}
theorem Qgu {first:Value} {i n:Nat} {Q:Value→Shared→Prop} (hit:SIt s.heap I D first i n ep) (h:Q (.ref I) s):wpAny (model prog w) A (pyIter (.ref I)) Q E s:=by
  refine wpAny_pyIter_slot hit.typeIs SF.si_iter (wpAny_call_entry SF.si_iter hit.typeIs SF.si_ientry ?_ (SF.si_iargs _))
  show wpAny _ _ (ret (.ref I)) _ _ s
  exact wpAny_pure ⟨_,rfl,"set_iterator",_,hit.typeIs,SF.si_next.lookup,h⟩
noncomputable def cur (place:Array Nat):Nat→Nat
  | 0=>0
  | i + 1=>(place[i]?).getD 0 + 1
theorem Qii {place:Array Nat} {i j:Nat} (h:place[i]?=some j):cur place (i + 1)=j + 1:=by
  show (place[i]?).getD 0 + 1=j + 1
  rw [h];rfl
theorem QfT {place:Array Nat} (up:Up place):∀ {i:Nat},i≤place.size→SetTable.below place (cur place i)=i
  | 0,_=>Qji up
  | i + 1,h=>by
    have hi:i < place.size:=by omega
    have e:place[i]?=some place[i]:=Array.getElem?_eq_getElem hi
    rw [Qii e]
    exact Qjj up e
theorem Qkm (hT:byT w=true) (ne:D≠I) (A':Around) (calm:A'.handled=none):Walks prog w A' I [I,D] [I] es.size (fun i v=>((pickOrder (w.params.setOrder D ep) es)[i]?).map (·.2)=some v) (fun i h=>i≤es.size∧SIt h I D (rawInt 0) i es.size ep∧SetC h D es ep t) where
  sub:=fun b hb=>by simp at hb;simp [hb]
  frame:=fun i h h' x k=>⟨x.1,x.2.1.at fun o e=>k I (by simp) o e,x.2.2.at fun o e=>k D (by simp) o e⟩
  item:=fun i s Q E hi x fin=>by
    have sz:(pickOrder (w.params.setOrder D ep) es).size=es.size:=by
      have:=(Qdh (w.params.setOrder D ep) es).length_eq
      simpa using this
    have hg:(pickOrder (w.params.setOrder D ep) es)[i]?=some ((pickOrder (w.params.setOrder D ep) es)[i]'(by omega)):=Array.getElem?_eq_getElem (by omega)
    refine QjM (slot:=0) (next:=0) (v:=((pickOrder (w.params.setOrder D ep) es)[i]'(by omega)).2) x.2.1 x.2.2 (fun A' E' R h=>QjX hT x.2.2 A' E' R (by rw [hg];exact h)) fun h' z sb => ?_
    exact fin _ h' s.toks (by rw [hg];rfl) ⟨hi,z,x.2.2.at fun o e=>(sb.2 D ne).trans e⟩ fun b o hb e=>(sb.2 b fun q=>hb (by simp [q])).trans e
  done:=fun s Q E x fin=>by
    have sz:(pickOrder (w.params.setOrder D ep) es).size=es.size:=by
      have:=(Qdh (w.params.setOrder D ep) es).length_eq
      simpa using this
    have hg:(pickOrder (w.params.setOrder D ep) es)[es.size]?=none:=Array.getElem?_eq_none (by omega)
    exact QjN (slot:=0) calm x.2.1 x.2.2 (fun A' E' R h=>QjX hT x.2.2 A' E' R (by rw [hg];exact h)) fun h' k=>fin h' s.toks fun b o hb e=>k b o (fun q=>hb (by simp [q])) e
  self:=fun _ _ _ _ x h=>Qgu x.2.1 h
theorem Qit (hT:byT w=false) (hD:Qfn es t=false) (kp:Kept true t) (fits:t.fits es.size=true) (ne:D≠I) (A':Around) (calm:A'.handled=none):Walks prog w A' I [I,D] [I] es.size (fun i v=>(es[i]?).map (·.2)=some v) (fun i h=>i≤es.size∧SIt h I D (rawInt (cur t.place i:Nat)) i es.size ep∧SetC h D es ep t) where
  sub:=fun b hb=>by simp at hb;simp [hb]
  frame:=fun i h h' x k=>⟨x.1,x.2.1.at fun o e=>k I (by simp) o e,x.2.2.at fun o e=>k D (by simp) o e⟩
  item:=fun i s Q E hi x fin=>by
    have ps:t.place.size=es.size:=by
      unfold SetTable.fits at fits
      simp at fits
      exact fits.1
    have g1:es[i]?=some es[i]:=Array.getElem?_eq_getElem hi
    have g2:t.place[i]?=some (t.place[i]'(by omega)):=Array.getElem?_eq_getElem (by omega)
    have hb:=QfT kp.2 (i:=i) (by omega)
    refine QjM (next:=cur t.place (i + 1)) (v:=es[i].2) x.2.1 x.2.2 (fun A' E' R h=>QhN hT x.2.2 hD kp.1 A' E' R (by
      rw [hb,g1,g2]
      rw [Qii g2] at h
      exact h)) fun h' z sb => ?_
    exact fin _ h' s.toks (by rw [g1];rfl) ⟨hi,z,x.2.2.at fun o e=>(sb.2 D ne).trans e⟩ fun b o hb e=>(sb.2 b fun q=>hb (by simp [q])).trans e
  done:=fun s Q E x fin=>by
    have ps:t.place.size=es.size:=by
      unfold SetTable.fits at fits
      simp at fits
      exact fits.1
    have g1:es[es.size]?=none:=Array.getElem?_eq_none (Nat.le_refl _)
    have hb:=QfT kp.2 (i:=es.size) (by omega)
    exact QjN calm x.2.1 x.2.2 (fun A' E' R h=>QhN hT x.2.2 hD kp.1 A' E' R (by rw [hb,g1];exact h)) fun h' k=>fin h' s.toks fun b o hb e=>k b o (fun q=>hb (by simp [q])) e
  self:=fun _ _ _ _ x h=>Qgu x.2.1 h
theorem Qiu {Tp:Addr} {ys:List Nat} (hy:ys.Perm (List.range es.size)) (ne:D≠I) (ne2:Tp≠I) (A':Around) (calm:A'.handled=none):Walks prog w A' I [I,D,Tp] [I] es.size (fun i v=>((ys[i]?).bind fun j=>es[j]?).map (·.2)=some v)
    (fun i h=>i≤es.size∧SIt h I D (.ref Tp) i es.size ep∧SetC h D es ep t∧IsTup h Tp (ys.map fun (j:Nat)=>rawInt j).toArray) where
  sub:=fun b hb=>by simp at hb;simp [hb]
  frame:=fun i h h' x k=>⟨x.1,x.2.1.at fun o e=>k I (by simp) o e,x.2.2.1.at fun o e=>k D (by simp) o e,let ⟨o,ho,r⟩:=x.2.2.2;⟨o,k Tp (by simp) o ho,r⟩⟩
  item:=fun i s Q E hi x fin=>by
    have hl:ys.length=es.size:=by rw [hy.length_eq,List.length_range]
    have g1:ys[i]?=some (ys[i]'(by omega)):=List.getElem?_eq_getElem (by omega)
    have hm:ys[i]'(by omega) < es.size:=List.mem_range.mp (hy.mem_iff.mp (List.getElem_mem (by omega)))
    have g2:es[ys[i]'(by omega)]?=some (es[ys[i]'(by omega)]'hm):=Array.getElem?_eq_getElem hm
    refine si_dsome (pl:=ys[i]'(by omega)) x.2.1 x.2.2.1 x.2.2.2 (by simp [g1]) g2 fun h' z sb => ?_
    exact fin _ h' s.toks (by rw [g1,Option.bind_some,g2];rfl) ⟨hi,z,x.2.2.1.at fun o e=>(sb.2 D ne).trans e,let ⟨o,ho,r⟩:=x.2.2.2;⟨o,(sb.2 Tp ne2).trans ho,r⟩⟩ fun b o hb e=>(sb.2 b fun q=>hb (by simp [q])).trans e
  done:=fun s Q E x fin=>by
    have hl:ys.length=es.size:=by rw [hy.length_eq,List.length_range]
    exact si_dnone calm x.2.1 x.2.2.1 x.2.2.2 (by simp;omega) fun h' k=>fin h' s.toks fun b o hb e=>k b o (fun q=>hb (by simp [q])) e
  self:=fun _ _ _ _ x h=>Qgu x.2.1 h
end
end L2.PM

noncomputable section
namespace L2.PM
open PySem PySem.Spec PyProof.Rows
section
variable {prog:Program} {w:World} {A:Around} {E:Value→Shared→Prop} {s:Shared} {D:Addr} {es:Array (Int×Value)} {ep:Nat} {t:SetTable}
theorem SetC.typeIs (x:SetC s.heap D es ep t):s.TypeIs (.ref D) "set":=let ⟨o,ho,hex,_⟩:=x;⟨o,ho,hex.1⟩
theorem iter_set {Q:Value→Shared→Prop} (hS:SetC s.heap D es ep t) (kp:Kept (!byT w) t) (small:es.size < scanBound)
    (fin:∀ (I:Addr) (h':Heap) (d:Drawn) (fp:List Addr) (ord:List (Int×Value)) (P:Nat→Value→Prop) (St:Nat→Heap→Prop),(∀ b o,s.heap.get? b=some o→h'.get? b=some o)→(∀ b∈fp,b < h'.objs.size)→(∀ b∈fp,b=D∨s.heap.objs.size≤b)→I∈fp→s.heap.objs.size≤h'.objs.size →
      ord.Perm es.toList→(∀ i v,P i v→(ord[i]?).map (·.2)=some v)→(∀ A':Around,A'.handled=none→Walks prog w A' I fp [I] es.size P St)→St 0 h'→D≠I→Q (.ref I) { s with heap:=h',drawn:=d }) :
    wpAny (model prog w) A (pyIter (.ref D)) Q E s:=by
  obtain ⟨oS,hoS,hex,hdS,hf⟩:=id hS
  refine wpAny_pyIter_slot hS.typeIs PySem.F.slot_set_iter (wpAny_call_entry PySem.F.slot_set_iter hS.typeIs SF.set_iter ?_ (PySem.F.args_set_iter_1 _))
  unfold Builtin.«frozenset.__iter__» Builtin.Frozenset.slot0 slotArgs
  simp only [List.isEmpty_nil,Bool.not_true,Bool.false_eq_true,↓reduceIte,bind_assoc,List.length_nil,bne_self_eq_false]
  unfold Builtin.Frozenset.addrOf Builtin.Frozenset.sizeOf
  refine wpAny_bind (wpAny_pure ?_)
  try dsimp only
  refine wpAny_bind (wpAny_pure ?_)
  refine wpAny_bind (wpAny_bind (wpAny_setEntries_of hoS hdS hf (wpAny_pure ?_)))
  unfold setDrawn setsByText
  refine wpAny_bind (wpAny_bind (wpAny_setState_of hoS hdS hf ?_))
  dsimp only
  refine wpAny_bind (wpAny_bind (wpAny_askSetting (wpAny_pure ?_)))
  refine wpAny_pure ?_
  refine (show wpAny _ A.in1 (if (!byT w&&Qfn es t)=true then _ else _) _ E s from ?_)
  have lt:D < s.heap.objs.size:=Heap.lt_size hoS
  have plain:∀ (P:Nat→Value→Prop) (St:Addr→Nat→Heap→Prop) (ord:List (Int×Value)),ord.Perm es.toList→(∀ i v,P i v→(ord[i]?).map (·.2)=some v)→(∀ I,D≠I→∀ A':Around,A'.handled=none→Walks prog w A' I [I,D] [I] es.size P (St I)) →
      (∀ h',SIt h' s.heap.objs.size D (rawInt 0) 0 es.size ep→SetC h' D es ep t→St s.heap.objs.size 0 h') →
      wpAny (model prog w) A.in1 (do
        let first ← pure (rawInt 0)
        let k ← setEpoch D
        let it ← newFields "set_iterator" [first,rawInt 0,Value.ref D,rawInt (es.size:Nat),rawInt (k:Nat)]
        ret it) (fun fin s'=>∃ v,fin=Fin.done (Flow.ret v)∧∃ T' r,s'.TypeIs v T'∧typeLookup (Value.type T') (Str.ofString "__next__")=pure (some r)∧Q v s') E s:=by
    intro P St ord hp hP hW hSt
    refine wpAny_bind (wpAny_pure (wpAny_bind ?_))
    unfold setEpoch
    refine wpAny_bind (wpAny_setState_of hoS hdS hf (wpAny_pure ?_))
    unfold newFields
    refine wpAny_bind (wpAny_newObj_type (wpAny_pure ⟨_,rfl,"set_iterator",_,⟨_,Heap.get?_push_size _ rfl,rfl⟩,SF.si_next.lookup,?_⟩) (by size_fits))
    have sit:SIt (s.heap.push { cls := .type "set_iterator",data := .fields [rawInt 0,rawInt 0,Value.ref D,rawInt (es.size:Nat),rawInt (ep:Nat)].toArray }) s.heap.objs.size D (rawInt 0) 0 es.size ep:=⟨_,Heap.get?_push_size _ rfl,rfl,rfl⟩
    refine fin s.heap.objs.size _ s.drawn [s.heap.objs.size,D] ord P (St s.heap.objs.size) (fun b o e=>Heap.get?_push_of_some _ e) (fun b hb => ?_) (fun b hb => ?_) (by simp) (by rw [Heap.size_push];exact Nat.le_succ _) hp hP (fun A' c=>hW _ (Nat.ne_of_lt lt) A' c) (hSt _ sit (hS.at fun o e=>Heap.get?_push_of_some _ e)) (Nat.ne_of_lt lt)
    · rw [Heap.size_push]
      rcases List.mem_cons.mp hb with q | q
      · rw [q];exact Nat.lt_succ_self _
      · rw [List.mem_singleton.mp q];exact Nat.lt_succ_of_lt lt
    · rcases List.mem_cons.mp hb with q | q
      · rw [q];exact .inr (Nat.le_refl _)
      · exact .inl (List.mem_singleton.mp q)
  cases hT:byT w with
  | true =>
    rw [if_neg (by simp)]
    exact plain _ (fun I i h=>i≤es.size∧SIt h I D (rawInt 0) i es.size ep∧SetC h D es ep t) (pickOrder (w.params.setOrder D ep) es).toList (Qdh _ _) (fun i v h=>by rw [Array.getElem?_toList];exact h) (fun I ne A' c=>Qkm hT ne A' c) fun h' x y=>⟨Nat.zero_le _,x,y⟩
  | false =>
    rw [hT] at kp
    cases hD:Qfn es t with
    | false =>
      rw [if_neg (by simp)]
      exact plain _ (fun I i h=>i≤es.size∧SIt h I D (rawInt (cur t.place i:Nat)) i es.size ep∧SetC h D es ep t) es.toList (.refl _) (fun i v h=>by rw [Array.getElem?_toList];exact h) (fun I ne A' c=>Qit hT hD kp hf ne A' c) fun h' x y=>⟨Nat.zero_le _,x,y⟩
    | true =>
      rw [if_pos (by simp)]
      refine wpAny_bind (Qic _ _ _ _ (List.length_range) fun ys d hy => ?_)
      have hl:ys.length=es.size:=by rw [hy.length_eq,List.length_range]
      have hz:(ys.map fun (j:Nat)=>rawInt j).toArray.size≤sizeLine:=by
        rw [List.size_toArray,List.length_map,hl]
        exact fits_of_scanBound small
      unfold newTuple
      refine wpAny_bind (wpAny_newObj_type ?_ hz)
      unfold setEpoch
      refine wpAny_bind (wpAny_bind (wpAny_setState_of (Heap.get?_push_of_some _ hoS) hdS hf (wpAny_pure ?_)))
      unfold newFields
      refine wpAny_bind (wpAny_newObj_type (wpAny_pure ⟨_,rfl,"set_iterator",_,⟨_,Heap.get?_push_size _ rfl,rfl⟩,SF.si_next.lookup,?_⟩) (by size_fits))
      have lt2:D < (s.heap.push { cls := .type "tuple",data := .seq (ys.map fun (j:Nat)=>rawInt j).toArray }).objs.size:=by rw [Heap.size_push];exact Nat.lt_succ_of_lt lt
      have lt3:s.heap.objs.size < (s.heap.push { cls := .type "tuple",data := .seq (ys.map fun (j:Nat)=>rawInt j).toArray }).objs.size:=by rw [Heap.size_push];exact Nat.lt_succ_self _
      have sit:SIt ((s.heap.push { cls := .type "tuple",data := .seq (ys.map fun (j:Nat)=>rawInt j).toArray }).push { cls := .type "set_iterator",data := .fields [Value.ref s.heap.objs.size,rawInt 0,Value.ref D,rawInt (es.size:Nat),rawInt (ep:Nat)].toArray })
        (s.heap.push { cls := .type "tuple",data := .seq (ys.map fun (j:Nat)=>rawInt j).toArray }).objs.size D (.ref s.heap.objs.size) 0 es.size ep:=⟨_,Heap.get?_push_size _ rfl,rfl,rfl⟩
      refine fin _ _ d [_,D,s.heap.objs.size] (ys.map fun j=>(es[j]?).getD (0,.none)) _ _ (fun b o e=>Heap.get?_push_of_some _ (Heap.get?_push_of_some _ e)) (fun b hb => ?_) (fun b hb => ?_) (by simp) (by rw [Heap.size_push,Heap.size_push];exact Nat.le_succ_of_le (Nat.le_succ _)) ?_ ?_
        (fun A' c=>Qiu (Tp:=s.heap.objs.size) hy (Nat.ne_of_lt lt2) (Nat.ne_of_lt lt3) A' c) ⟨Nat.zero_le _,sit,hS.at fun o e=>Heap.get?_push_of_some _ (Heap.get?_push_of_some _ e),⟨_,Heap.get?_push_of_some _ (Heap.get?_push_size _ rfl),rfl,_,rfl⟩⟩ (Nat.ne_of_lt lt2)
      · rw [Heap.size_push]
        rcases List.mem_cons.mp hb with q | q
        · rw [q];exact Nat.lt_succ_self _
        · rcases List.mem_cons.mp q with q | q
          · rw [q];exact Nat.lt_succ_of_lt lt2
          · rw [List.mem_singleton.mp q];exact Nat.lt_succ_of_lt lt3
      · rcases List.mem_cons.mp hb with q | q
        · rw [q];exact .inr (Nat.le_of_lt lt3)
        · rcases List.mem_cons.mp q with q | q
          · exact .inl q
          · rw [List.mem_singleton.mp q];exact .inr (Nat.le_refl _)
      · have e:es.toList=(List.range es.size).map fun j=>(es[j]?).getD (0,.none):=by
          apply List.ext_getElem?
          intro i
          rw [List.getElem?_map,Array.getElem?_toList]
          by_cases h:i < es.size
          · rw [List.getElem?_range h]
            simp [h]
          · rw [List.getElem?_eq_none (by rw [List.length_range];omega),Array.getElem?_eq_none (by omega)]
            rfl
        rw [e]
        exact hy.map _
      · intro i v h
        rw [List.getElem?_map]
        cases hi:ys[i]? with
        | none=>rw [hi] at h;cases h
        | some j =>
          rw [hi,Option.bind_some] at h
          cases hj:es[j]? with
          | none=>rw [hj] at h;cases h
          | some x=>rw [hj] at h;simp [hj];simpa using h
end
end L2.PM

noncomputable section
namespace L2.PM
open PySem PySem.Spec PyProof.Rows
section
variable {prog:Program} {w:World} {A:Around} {E:Value→Shared→Prop} {s:Shared} {D:Addr} {es:Array (Int×Value)} {ep:Nat} {t:SetTable}
theorem Qdr {α:Type} [DecidableEq α]:∀ {M ks:List α},M.Nodup→(∀ x∈M,x∈ks)→ks.length≤M.length→ks.Perm M
  | [],ks,_,_,h=>by
    rw [List.length_eq_zero_iff.mp (Nat.le_zero.mp h)]
  | x :: M,ks,hn,hs,hl=>by
    rw [List.nodup_cons] at hn
    have hx:x∈ks:=hs x List.mem_cons_self
    have p:=List.perm_cons_erase hx
    refine p.trans (List.Perm.cons x (Qdr hn.2 (fun y hy => ?_) ?_))
    · exact (List.mem_erase_of_ne (fun e=>hn.1 (by rw [← e];exact hy))).mpr (hs y (List.mem_cons_of_mem _ hy))
    · rw [List.length_erase_of_mem hx]
      simp at hl
      omega
theorem ite_t {α:Type} {M:Model} {c:Bool} {a b:Sem α} {R:α→Shared→Prop} (h:c=true) (q:wpAny M A a R E s):wpAny M A (if c=true then a else b) R E s:=by
  rw [if_pos h];exact q
theorem hint_set {R:Bool→Shared→Prop} (hT:s.TypeIs (.ref D) "set") (h:R false s):wpAny (model prog w) A (Builtin.List.listLengthHint (.ref D)) R E s:=by
  unfold Builtin.List.listLengthHint
  refine wpAny_bind (wpAny_specialOf hT PySem.F.slot_set_len.lookup ?_)
  dsimp only
  rw [show splitId "set.__len__"=some ("set","__len__") from by kernel_rfl]
  dsimp only
  refine wpAny_bind (wpAny_isInstance hT sub_set_self ?_)
  simp only [Bool.not_true,Bool.false_eq_true,if_false]
  refine ite_t (by kernel_rfl) (wpAny_bind (wpAny_typeOf hT ?_))
  exact wpAny_pure h
theorem Qhr {Q:List Value→Shared→Prop} (calm:A.handled=none) (hS:SetC s.heap D es ep t) (kp:Kept (!byT w) t) (small:es.size < scanBound)
    (fin:∀ (h':Heap) (tk:Nat) (d:Drawn) (ord:List (Int×Value)),(∀ b o,s.heap.get? b=some o→h'.get? b=some o)→s.heap.objs.size≤h'.objs.size→ord.Perm es.toList→Q (ord.map (·.2)) { s with heap:=h',toks:=tk,drawn:=d }) :
    wpAny (model prog w) A (collect (.ref D)) Q E s:=by
  obtain ⟨oS,hoS,hex,hdS,hf⟩:=id hS
  have lt:D < s.heap.objs.size:=Heap.lt_size hoS
  have hne:s.heap.objs.size≠D:=Nat.ne_of_gt lt
  unfold collect
  refine wpAny_bind (wpAny_runValue (codeAny_builtin PySem.F.entry_proto_collect ?_))
  rw [Around.under_plainId PySem.F.plain_proto_collect _]
  show wpAny _ A.in1 (newList [] >>= fun l=>again (.builtin "list.__iadd__" ⟨[l,.ref D],[]⟩)) _ _ s
  refine wpAny_bind (wpAny_newObj_type (wpAny_pure ⟨plainId_quiet PySem.F.plain_list_iadd _,codeAny_builtin PySem.F.entry_list_iadd ?_⟩))
  rw [Around.under_plainId PySem.F.plain_list_iadd _]
  have hS1:SetC (s.heap.push { cls := .type "list",data := .seq ([]:List Value).toArray }) D es ep t:=hS.at fun o e=>Heap.get?_push_of_some _ e
  show wpAny _ A.in1 (Builtin.List.listExtendWith (.ref s.heap.objs.size) (.ref D) (.ref s.heap.objs.size)) _ _ _
  unfold Builtin.List.listExtendWith
  refine wpAny_bind (wpAny_typeOf (s:={ s with heap:=s.heap.push { cls := .type "list",data := .seq ([]:List Value).toArray } }) hS1.typeIs ?_)
  have q1:Builtin.List.listSameRef (.ref s.heap.objs.size) (.ref D)=false:=by simp [Builtin.List.listSameRef,hne]
  have q2:(Value.type "set"==Value.type "list")=false:=by decide
  have q3:(Value.type "set"==Value.type "tuple")=false:=by decide
  simp only [q1,q2,q3,Bool.or_false,Bool.false_eq_true,if_false]
  refine wpAny_bind (iter_set (s:={ s with heap:=s.heap.push { cls := .type "list",data := .seq ([]:List Value).toArray } }) hS1 kp small fun I h2 d fp ord P St k2 hfp hfp2 hI hsz hp hP hW st hDI => ?_)
  refine wpAny_bind (wpAny_holding ?_)
  have hS2:SetC h2 D es ep t:=hS1.at fun o e=>k2 D o e
  refine hint_set (s:={ s with heap:=h2,drawn:=d }) hS2.typeIs ?_
  refine ite_t (by kernel_rfl) (wpAny_bind (wpAny_rule (wpAny_bind ?_)))
  have L0:h2.get? s.heap.objs.size=some { cls := .type "list",data := .seq ([]:List Value).toArray }:=k2 _ _ (Heap.get?_push_size _ rfl)
  show wpAny _ A.in1 (updateSeq s.heap.objs.size (·.push .none) >>= fun _=>updateSeq s.heap.objs.size (·.pop)) _ _ _
  refine wpAny_bind (wpAny_updateSeq L0 rfl ?_)
  have L1:=Heap.get?_update_self (Obj.mapSeq (·.push Value.none)) L0 rfl
  refine wpAny_updateSeq L1 rfl ?_
  have L2:=Heap.get?_update_self (Obj.mapSeq (·.pop)) L1 rfl
  have nin:s.heap.objs.size∉fp:=fun z=>by
    rcases hfp2 _ z with q | q
    · exact hne q
    · have q:(s.heap.push { cls := .type "list",data := .seq ([]:List Value).toArray }).objs.size≤s.heap.objs.size:=q
      rw [Heap.size_push] at q
      exact absurd q (Nat.not_succ_le_self _)
  have W:=(hW A.in1 (by simp [calm]):Walks prog w A.in1 I fp [I] es.size P St)
  have oth:∀ b o,b≠s.heap.objs.size→h2.get? b=some o→((h2.update s.heap.objs.size (Obj.mapSeq (·.push Value.none))).update s.heap.objs.size (Obj.mapSeq (·.pop))).get? b=some o:=fun b o hb e =>
    (Heap.get?_update_other _ _ (Ne.symm hb)).trans ((Heap.get?_update_other _ _ (Ne.symm hb)).trans e)
  refine wpAny_pure ⟨plainId_quiet PySem.F.plain_extend_loop _,codeAny_extend_loopS W.toS (fits_of_scanBound small) _ nin _ es.size 0 _ _ _ rfl (Nat.zero_le _) (W.frame 0 _ _ st fun b hb o e=>oth b o (fun q=>nin (q ▸ hb)) e) L2 (ItemsOf.nil P) fun s' acc c hm hS' hacc => ?_⟩
  refine wpAny_bind (wpAny_load hS' (wpAny_pure ?_))
  obtain ⟨h3,g3,d3,tk3,os3⟩:=s'
  obtain rfl:g3=s.gens:=hm.gens
  obtain rfl:d3=d:=hm.drawn
  obtain rfl:os3=s.os:=hm.os
  have ol:ord.length=es.size:=by
    have:=hp.length_eq
    simpa using this
  have e:acc.toList=ord.map (·.2):=by
    apply List.ext_getElem?
    intro j
    rw [List.getElem?_map,Array.getElem?_toList]
    by_cases hj:j < es.size
    · have g:acc[j]?=some (acc[j]'(by rw [hacc.1];exact hj)):=Array.getElem?_eq_getElem _
      rw [g]
      exact (hP j _ (hacc.2 j _ g)).symm
    · rw [Array.getElem?_eq_none (by rw [hacc.1];omega),List.getElem?_eq_none (by omega)]
      rfl
  rw [e]
  refine fin h3 tk3 d3 ord (fun b o q => ?_) ?_ hp
  · have bl:b < s.heap.objs.size:=Heap.lt_size q
    refine hm.heap b o (fun z => ?_) (oth b o (Nat.ne_of_lt bl) (k2 b o (Heap.get?_push_of_some _ q)))
    rcases List.mem_cons.mp z with z | z
    · exact absurd z (Nat.ne_of_lt bl)
    · rw [List.mem_singleton.mp z] at bl
      rcases hfp2 I hI with y | y
      · exact hDI y.symm
      · have y:(s.heap.push { cls := .type "list",data := .seq ([]:List Value).toArray }).objs.size≤I:=y
        rw [Heap.size_push] at y
        exact absurd (Nat.lt_of_lt_of_le bl (Nat.le_of_succ_le y)) (Nat.lt_irrefl _)
  · exact Nat.le_of_lt (Heap.lt_size hS')
theorem QiC {M:List Int} {Q:Value→Shared→Prop} (calm:A.handled=none) (hS:SetL prog w (!byT w) s.heap D M) (h64:M.length < 64)
    (fin:∀ (L:Addr) (h':Heap) (tk:Nat) (d:Drawn) (out:Array Value) (ns:List Int) (e:Nat),(∀ b o,s.heap.get? b=some o→h'.get? b=some o)→s.heap.objs.size≤L→h'.get? L=some (seqObj "list" out e)→IntsAre out.toList ns→ns.Perm M→ns.Pairwise (· ≤ ·) →
      Q (.ref L) { s with heap:=h',toks:=tk,drawn:=d }):wpAny (model prog w) A (call (.builtin "sorted") [.ref D]) Q E s:=by
  obtain ⟨o,es,ep,t,ho,hex,hd,hel,hm,hb,hf,hn,hnd,hkp⟩:=hS
  have hC:SetC s.heap D es ep t:=⟨o,ho,hex,hd,hf⟩
  refine Calls.call_function_entry kind_sorted plain_sorted entry_sorted (args_sorted1 _) ?_
  unfold Builtin.«sorted»
  refine wpAny_bind (m:=checkCount "sorted" 1 1 _) (wpAny_pure ?_)
  refine wpAny_bind (Qhr calm hC hkp hb fun h1 tk d ord k1 sz1 hp => ?_)
  have ol:ord.length=M.length:=by
    have:=hp.length_eq
    rw [this,← hn];simp
  have key:∀ e∈ord,∃ k u,e.2=Value.int k u:=fun e he=>by
    obtain ⟨⟨k,hk,_⟩,_⟩:=hel e (hp.mem_iff.mp he)
    obtain ⟨u,hu⟩:=Value.isInt_shape (k:=k) (v:=e.2) hk
    exact ⟨k,u,hu⟩
  obtain ⟨ks,hks,hkm⟩:∃ ks:List Int,IntsAre (ord.map (·.2)) ks∧∀ k,k∈ks↔∃ e∈ord,(intKind prog w).is k e.2=true:=by
    clear hp ol
    induction ord with
    | nil=>exact ⟨[],.nil,fun k=>by simp⟩
    | cons x l ih =>
      obtain ⟨ks,h1,h2⟩:=ih fun e he=>key e (List.mem_cons_of_mem _ he)
      obtain ⟨k,u,hu⟩:=key x List.mem_cons_self
      refine ⟨k :: ks,?_,fun j => ?_⟩
      · rw [List.map_cons,hu];exact .cons k u h1
      · rw [List.mem_cons,h2 j]
        constructor
        · rintro (rfl | ⟨e,he,q⟩)
          · exact ⟨x,List.mem_cons_self,by rw [hu];exact intKind_is _ _ _ _⟩
          · exact ⟨e,List.mem_cons_of_mem _ he,q⟩
        · rintro ⟨e,he,q⟩
          rcases List.mem_cons.mp he with z | z
          · subst z
            rw [hu] at q
            exact .inl ((intKind prog w).inj (.int k u) j k q (intKind_is _ _ _ _))
          · exact .inr ⟨e,z,q⟩
  have kl:ks.length=M.length:=by
    have:=IntsAre.length hks
    rw [List.length_map] at this
    omega
  have kM:ks.Perm M:=by
    have sub:∀ x∈M,x∈ks:=fun x hx=>(hkm x).mpr (by
      obtain ⟨e,he,q⟩:=(hm x).mp hx
      exact ⟨e,hp.mem_iff.mpr he,q⟩)
    exact Qdr hnd sub (by omega)
  refine wpAny_bind (wpAny_newList ?_)
  have vl:(ord.map (·.2)).length < 64:=by rw [List.length_map];omega
  have hoL:(h1.push (seqObj "list" (ord.map (·.2)).toArray 0)).get? h1.objs.size=some (seqObj "list" (ord.map (·.2)).toArray 0):=Heap.get?_push_size _ rfl
  refine wpAny_bind (wpAny_holding (wpAny_call_entry slot_list_sort ⟨_,hoL,rfl⟩ entry_list_sort (list_sort_tree hoL hks vl fun out ns' a1 a2 a3=>⟨_,rfl,?_⟩) (args_list_sort _)))
  obtain ⟨e,hat⟩:=sortedHeap_at (out:=out) hoL
  refine wpAny_pure ⟨_,rfl,fin h1.objs.size _ tk d out ns' e (fun b o q => ?_) sz1 hat a1 (a2.trans kM) a3⟩
  have q1:=k1 b o q
  have bl:=Heap.lt_size q1
  rw [sortedHeap_old (Nat.ne_of_lt bl) (by rw [Heap.size_push];exact Nat.lt_succ_of_lt bl)]
  exact Heap.get?_push_of_some _ q1
end
end L2.PM

noncomputable section
namespace L2.PM
open PySem PySem.Spec PyProof.Rows
theorem mem_more {M:List Int} {k x:Int}:x∈more M k↔x∈M∨x=k:=by
  unfold more
  split
  · rename_i h
    exact ⟨.inl,fun q=>q.elim id fun e=>e ▸ h⟩
  · simp
theorem QfH:∀ (l M:List Int),M.Nodup→(l.foldl more M).Nodup∧∀ x,x∈l.foldl more M↔x∈M∨x∈l
  | [],M,h=>⟨h,fun x=>by simp⟩
  | y :: l,M,h=>by
    obtain ⟨a,b⟩:=QfH l (more M y) (Qca h y)
    refine ⟨a,fun x => ?_⟩
    rw [List.foldl_cons,b x,mem_more,List.mem_cons]
    exact ⟨fun q=>q.elim (fun q=>q.elim .inl fun e => .inr (.inl e)) fun q => .inr (.inr q),fun q=>q.elim (fun q => .inl (.inl q)) fun q=>q.elim (fun e => .inl (.inr e)) .inr⟩
theorem QfC {y:Int}:∀ {xs:List Int},y∈once xs↔y∈xs
  | []=>by simp [once]
  | x :: xs=>by
    unfold once
    rw [List.mem_cons,List.mem_cons,List.mem_filter,QfC (xs:=xs)]
    by_cases h:y=x <;> simp [h]
theorem Qds:∀ xs:List Int,(once xs).Nodup
  | []=>by simp [once]
  | x :: xs=>by
    unfold once
    rw [List.nodup_cons]
    exact ⟨by simp [List.mem_filter],List.Pairwise.filter _ (Qds xs)⟩
theorem Qku (ns:List Int):(seen (fun i=>ns.getD i 0) ns.length).Perm (once ns):=by
  have e:(List.range ns.length).map (fun i=>ns.getD i 0)=ns:=by
    apply List.ext_getElem?
    intro i
    rw [List.getElem?_map]
    by_cases h:i < ns.length
    · rw [List.getElem?_range h];simp [h]
    · rw [List.getElem?_eq_none (by rw [List.length_range];omega),List.getElem?_eq_none (by omega)];rfl
  unfold seen
  rw [e]
  obtain ⟨a,b⟩:=QfH ns [] .nil
  exact (List.perm_ext_iff_of_nodup a (Qds ns)).mpr fun x=>by rw [b x,QfC];simp
section
variable {X:Cx} {e a b c:Expr} {es:List Expr} {ms ns ls:List Nat} {m m1 m2 m3:MEx} {ma:PEnv→Option (List PV)} {pos p p1 p2 p3 pos':Pos} {x:Str} {id T:String}
theorem _root_.L2.Inv.drawn {pins:List (Addr×Obj)} {σ:St} {H:Hp} {s:Shared} (I:Inv X pins σ H s) (d:Drawn):Inv X pins σ H { s with drawn:=d }:=⟨I.ok,I.os,I.bare,I.base,I.loc,I.cell,I.free,I.freeC,I.pin,I.hok,I.len⟩
noncomputable def Qlo (X:Cx) (p:Addr) (M:List Int):HO := .ext fun h=>SetL X.prog X.w (!byT X.w) h p M
theorem Qlg (hc:X.calm=true):Qac X (.type "set") (fun vs H Q=>∃ (l:Addr) (ns:List Int),vs=[.ref l]∧SqL X.K H l (ns.map V.int)∧ns.length < 1000∧∀ p M,H p=none→M.Perm (once ns)→Q (.ref p) (upd H p (Qlo X p M))):=by
  intro pins s σ H vs us Q I rs h
  obtain ⟨l,ns,rfl,hl,hn,q⟩:=h
  obtain ⟨u,rfl,ru⟩:=QcY rs
  cases ru
  obtain ⟨its,rv,pl,_⟩:=I.list hl
  have hlen:=rv.length
  rw [List.length_map] at hlen
  refine Qlh (I.ok.hd hc) pl.isList (by simpa using Qeg rv) (by simp only [List.size_toArray];show its.length + 1 < 4096;omega) fun h' tk z k => ?_
  have e:its.toArray.size=ns.length:=by simp only [List.size_toArray];exact hlen.symm
  rw [e] at z
  refine ⟨.ref s.heap.objs.size,upd H s.heap.objs.size (Qlo X s.heap.objs.size _),I.laid (t':=tk) (fun b o q=>k b o (Heap.lt_size q) q) (Nat.le_refl _) ⟨z,?_,fun h1 h2 z1 k1=>z1.at k1⟩,rfl,q _ _ I.fresh (Qku ns)⟩
  obtain ⟨o,_,_,_,ho,_⟩:=z
  exact ⟨o,ho⟩
theorem QdG (hc:X.calm=true):Qac X (.builtin "sorted") (fun vs H Q=>∃ (D:Addr) (M:List Int),vs=[.ref D]∧H D=some (Qlo X D M)∧M.length < 64∧∀ (l:Addr) (ns:List Int),H l=none→ns.Perm M→ns.Pairwise (· ≤ ·)→Q (.ref l) (upd H l (.lst (ns.map V.int)))):=by
  intro pins s σ H vs us Q I rs h
  obtain ⟨D,M,rfl,hD,h64,q⟩:=h
  obtain ⟨u,rfl,ru⟩:=QcY rs
  cases ru
  obtain ⟨z,_,_⟩:=I.hok D _ hD
  refine QiC (I.ok.hd hc) z h64 fun L h' tk d out ns e k hL at' hi hp hs => ?_
  have hn:H L=none:=I.hok.fresh hL
  have hv:=Qbv hi
  refine ⟨.ref L,upd H L (.lst (ns.map V.int)),(I.laid (t':=tk) (o := .lst (ns.map V.int)) k hL ⟨?_,out.toList,e,hv,by simpa [seqObj] using at'⟩).drawn d,rfl,q L ns hn hp hs⟩
  rw [List.length_map,hp.length_eq]
  exact Nat.le_of_lt (Nat.lt_trans h64 (by decide))
theorem QgY {K:PySem.W.Frag} {F:Hp} {xs:List PV} {ns:List Int} {vs:List V} (h:Qbi xs=some ns) (r:RepL K F xs vs):vs=ns.map V.int:=by
  have e:=Qdl h
  subst e
  exact Qdf r
theorem Qjb (hc:X.calm=true) (hg:Gl X "set") (hm:X.mg "set"=none) (hg2:Gl X "sorted") (hm2:X.mg "sorted"=none) (ha:AM X ms [a] ma)
    (hs:starEach [a] X.env=(false,eval a X.env) :: starEach [] X.env:=by rfl) (hpl:(backTo pos (starEach [] X.env)).any (·.1)=false:=by rfl)
    (hs2:starEach [.Call (.Name "set" p1) [a] [] pos] X.env=(false,eval (.Call (.Name "set" p1) [a] [] pos) X.env) :: starEach [] X.env:=by rfl) (hpl2:(backTo pos' (starEach [] X.env)).any (·.1)=false:=by rfl) :
    EO X ms (.Call (.Name "sorted" p2) [.Call (.Name "set" p1) [a] [] pos] [] pos') (Qk Qbq ma) :=
  PE.imp (Qbp (QdG hc) hg2 hm2 (by kernel_rfl) (QbM (Qfz (Qlg hc) hg hm (by kernel_rfl) ha (by decide) (by decide) hs hpl) QgK hs2) (by decide) (by decide) hs2 hpl2) fun σ H Q ⟨F,γ,r,k1,k2,k3,w⟩=>by
    obtain ⟨qs,e1,k3⟩:=Qg k3
    refine ⟨F,γ,qs,k1,k2,e1,fun vs H1 F1 g1 q1 => ?_⟩
    unfold Qbq at k3
    split at k3
    · rename_i xs
      unfold RepL at q1
      obtain ⟨v,t,rfl,q1,qt⟩:=q1
      unfold RepL at qt
      subst qt
      unfold Rep at q1
      obtain ⟨l,us,rfl,sl,rl⟩:=q1
      split at k3
      · rename_i ns hns
        obtain ⟨⟨c1,c2⟩,rfl⟩:=QS k3
        have e2:=QgY hns rl
        subst e2
        refine ⟨l,ns,rfl,g1.sub.seq sl,c1,fun p M hp hM => ?_⟩
        refine ⟨p,M,rfl,Qv,by rw [hM.length_eq];exact c2,fun l2 ks hl2 hk hs => ?_⟩
        have ek:ks=XJ (once ns):=QhS (hk.trans hM) hs
        subst ek
        have g2:Grow F1 H1 F1 (upd H1 p (Qlo X p M)) := .side g1.sub hp
        have g3:=g2.trans (.side (o := .lst ((XJ (once ns)).map V.int)) g2.sub hl2)
        exact w l2 _ _ F1 (g1.trans g3) (g1.same.free (g2.same.free hl2)) (g2.sub.free hl2) Qv (Qau _)
      · cases k3
    · cases k3
end
end L2.PM

noncomputable section
namespace L2.PM
open PySem PySem.Spec PyProof.Rows
open PySem.AutoSeq1 (wpAny_loadPart')
section
variable {prog:Program} {w:World} {A:Around} {E:Value→Shared→Prop} {s:Shared}
theorem QiO {it ax:Addr} {i:Nat} {its:Array Value} {x:Value} {Q:Value→Shared→Prop} (hit:s.heap.IsTupleIter it ax i) (ht:s.heap.IsTuple ax its) (hx:its[i]?=some x)
    (fin:∀ h',h'.IsTupleIter it ax (i + 1)→Heap.SameBut it s.heap h'→Q x { s with heap:=h' }):wpAny (model prog w) A (Builtin.SmallTypes.nextOf (.ref it)) Q E s:=by
  obtain ⟨o,ho,hc,hd⟩:=id hit
  obtain ⟨ot,hot,_,nt,hdt⟩:=ht
  unfold Builtin.SmallTypes.nextOf
  refine wpAny_bind (wpAny_callSpecial?_slot (name:=Str.ofString "__next__") hit.typeIs PySem.F.slot_tuple_iterator_next (wpAny_call_entry PySem.F.slot_tuple_iterator_next hit.typeIs PySem.F.entry_tuple_iterator_next ?_ (PySem.F.args_tuple_iterator_next_1 _)))
  refine (show wpAny _ _ (field (.ref it) 0 >>= _) _ _ s from wpAny_bind (wpAny_field ho hd (x := .ref ax) rfl ?_))
  refine (show wpAny _ _ (if (Value.ref ax==Value.none)=true then _ else _) _ _ s from ?_)
  rw [if_neg (fun z:(Value.ref ax==Value.none)=true=>Bool.false_ne_true z)]
  refine (show wpAny _ _ (field (.ref it) 1 >>= _) _ _ s from wpAny_bind (wpAny_field ho hd (x := .int i 0) rfl ?_))
  refine (show wpAny _ _ (seqItems? (.ref ax) >>= _) _ _ s from wpAny_bind (wpAny_seqItems hot hdt ?_))
  simp only [Int.toNat_natCast,hx]
  obtain ⟨o2,at2,c2,d2⟩:=Qbt (j:=1) (x:=rawInt ((i:Int) + 1)) ho hd
  exact wpAny_bind (wpAny_setField ho hd (by simp) (wpAny_pure ⟨x,rfl,wpAny_pure (fin _ ⟨o2,at2,c2.trans hc,by rw [d2];simp [rawInt]⟩ (Heap.SameBut.update ..))⟩))
theorem stopE {h1:Heap} {Q:PySem.Fin→Shared→Prop} (calm:A.handled=none) (fin:∀ h' e,(∀ b o,h1.get? b=some o→h'.get? b=some o)→(∃ o,h'.get? e=some o∧o.cls = .type "StopIteration")→E (.ref e) { s with heap:=h' }) :
    wpAny (model prog w) A.in1 (newExc (.type "StopIteration") [] >>= fun e=>(raiseNew e:Sem PySem.Fin)) Q E { s with heap:=h1 }:=by
  refine wpAny_bind ?_
  simp only [newExc,newTuple]
  refine wpAny_bind (wpAny_newObj_type ?_ (by size_fits))
  refine wpAny_bind (m:=firstArgMember _ _) (wpAny_of_eq (a:=Value.none) (by first | rfl | (simp only [firstArgMember];rfl)) (wpAny_newObj_type ?_ (by size_fits)))
  simp only [raiseNew]
  refine wpAny_bind (wpAny_handled ?_)
  rw [show A.in1.handled=none from calm]
  refine wpAny_bind (wpAny_pure (wpAny_throw ?_))
  exact fin _ _ (fun b o e=>Heap.get?_push_of_some _ (Heap.get?_push_of_some _ e)) ⟨_,Heap.get?_push_size _ rfl,rfl⟩
theorem Qbz {it ax:Addr} {i:Nat} {its:Array Value} {Q:Value→Shared→Prop} (calm:A.handled=none) (hit:s.heap.IsTupleIter it ax i) (ht:s.heap.IsTuple ax its) (hx:its[i]?=none)
    (fin:∀ h' e,Heap.ExtBut it s.heap h'→(∃ o,h'.get? e=some o∧o.cls = .type "StopIteration")→E (.ref e) { s with heap:=h' }):wpAny (model prog w) A (Builtin.SmallTypes.nextOf (.ref it)) Q E s:=by
  obtain ⟨o,ho,hc,hd⟩:=id hit
  obtain ⟨ot,hot,_,nt,hdt⟩:=ht
  unfold Builtin.SmallTypes.nextOf
  refine wpAny_bind (wpAny_callSpecial?_slot (name:=Str.ofString "__next__") hit.typeIs PySem.F.slot_tuple_iterator_next (wpAny_call_entry PySem.F.slot_tuple_iterator_next hit.typeIs PySem.F.entry_tuple_iterator_next ?_ (PySem.F.args_tuple_iterator_next_1 _)))
  refine (show wpAny _ _ (field (.ref it) 0 >>= _) _ _ s from wpAny_bind (wpAny_field ho hd (x := .ref ax) rfl ?_))
  refine (show wpAny _ _ (if (Value.ref ax==Value.none)=true then _ else _) _ _ s from ?_)
  rw [if_neg (fun z:(Value.ref ax==Value.none)=true=>Bool.false_ne_true z)]
  refine (show wpAny _ _ (field (.ref it) 1 >>= _) _ _ s from wpAny_bind (wpAny_field ho hd (x := .int i 0) rfl ?_))
  refine (show wpAny _ _ (seqItems? (.ref ax) >>= _) _ _ s from wpAny_bind (wpAny_seqItems hot hdt ?_))
  simp only [Int.toNat_natCast,hx]
  refine wpAny_bind (wpAny_rule (wpAny_bind (wpAny_setField ho hd (by simp) ?_)))
  refine (show wpAny _ _ (newExc (.type "StopIteration") [] >>= fun e=>(raiseNew e:Sem PySem.Fin)) _ _ _ from stopE calm fun h' e k z=>fin h' e (fun b o hb q=>k b o ((Heap.get?_update_other _ _ (Ne.symm hb)).trans q)) z)
theorem Qld (calm:A.handled=none) (it ax:Addr) (ne:ax≠it) (its:Array Value):Draws prog w A it [it,ax] its.size (fun i v=>its[i]?=some v) (fun i h=>h.IsTupleIter it ax i∧h.IsTuple ax its) where
  live:=fun _ _ st=>let ⟨⟨o,ho,_⟩,_⟩:=st;⟨o,ho⟩
  frame:=fun _ _ _ st k=>⟨st.1.at fun o e=>k it (by simp) o e,st.2.at fun o e=>k ax (by simp) o e⟩
  item:=fun i s Q E hi st fin=>QiO st.1 st.2 (Array.getElem?_eq_getElem hi) fun h' z sb=>fin _ h' s.toks (Array.getElem?_eq_getElem hi) ⟨z,st.2.at fun o e=>(sb.2 ax ne).trans e⟩ sb
  done:=fun s Q E st fin=>Qbz calm st.1 st.2 (Array.getElem?_eq_none (Nat.le_refl _)) fin
set_option maxHeartbeats 1000000 in
theorem Qhk (ax:Addr) (its:Array Value) (n:Nat) (dct:Option Addr) (sl:Array (Option Value)) :
    Meets (Builtin.«enumerate.__new__» ⟨[.type "enumerate",.ref ax],[]⟩) (fun _ R s=>s.heap.get? ax=some { cls := .type "tuple",dict:=dct,data := .seq its n,slots:=sl } ∧
      R (.ok (.ret (.ref (s.heap.push { cls := .type "tuple_iterator",data := .fields #[.ref ax,.int 0 0] }).objs.size)))
        { s with heap:=(s.heap.push { cls := .type "tuple_iterator",data := .fields #[.ref ax,.int 0 0] }).push { cls := .type "enumerate",data := .fields #[.none,.bool false,.ref s.heap.objs.size,rawInt 0,.none,.none] } }) :=
  .of_wp fun prog w A R s h=>by
    obtain ⟨hp,g,d,tk,os⟩:=s
    obtain ⟨ha,h⟩:=h
    have sub:=sub_enumerate
    have hT:Heap.IsTuple (Shared.heap ⟨hp,g,d,tk,os⟩) ax its:=⟨_,ha,rfl,n,rfl⟩
    wp_walk using wpAny_loadPart' ha
    refine wpAny_stack_any fun st=>wpAny_pure ?_
    split
    · rename_i c _ _ _ _ _
      cases (c==Value.type "enumerate")
      · wp_walk using wpAny_loadPart' ha,wpAny_pyIter_tuple hT
        exact ⟨_,rfl,h⟩
      · wp_walk using wpAny_loadPart' ha,wpAny_pyIter_tuple hT
        exact ⟨_,rfl,h⟩
    · wp_walk using wpAny_loadPart' ha,wpAny_pyIter_tuple hT
      exact ⟨_,rfl,h⟩
theorem Qjg {ax:Addr} {its:Array Value} {Q:Value→Shared→Prop} (hT:s.heap.IsTuple ax its)
    (fin:∀ h',IsEnum h' (s.heap.objs.size + 1) s.heap.objs.size 0 .none→h'.IsTupleIter s.heap.objs.size ax 0→(∀ b o,s.heap.get? b=some o→h'.get? b=some o)→Q (.ref (s.heap.objs.size + 1)) { s with heap:=h' }) :
    wpAny (model prog w) A (call (.type "enumerate") [.ref ax]) Q E s:=by
  obtain ⟨⟨c,dct,dt,sl⟩,ha,hc,n,hd⟩:=hT
  obtain rfl:c = .type "tuple":=hc
  obtain rfl:dt = .seq its n:=hd
  refine callType_new PySem.F.called_enumerate (by decide) (PySem.F.typeCall_enumerate_1 _) (PySem.F.newCall_enumerate_1 _) (fun obj=>PySem.F.args_object_init_2 obj _) PySem.F.entry_enumerate_new (Qhk ax its n dct sl) ⟨ha,?_⟩
  have z:(s.heap.push { cls := .type "tuple_iterator",data := .fields #[.ref ax,.int 0 0] }).objs.size=s.heap.objs.size + 1:=Heap.size_push ..
  have he:IsEnum ((s.heap.push { cls := .type "tuple_iterator",data := .fields #[.ref ax,.int 0 0] }).push { cls := .type "enumerate",data := .fields #[.none,.bool false,.ref s.heap.objs.size,rawInt 0,.none,.none] }) (s.heap.objs.size + 1) s.heap.objs.size 0 .none:=by
    rw [← z]
    exact Heap.get?_push_size _ rfl
  refine (show _∧_ from ?_)
  rw [z]
  exact ⟨⟨_,he,rfl⟩,fin _ he ⟨_,Heap.get?_push_of_some _ (Heap.get?_push_size _ rfl),rfl,rfl⟩ fun b o q=>Heap.get?_push_of_some _ (Heap.get?_push_of_some _ q)⟩
end
end L2.PM

noncomputable section
namespace L2.PM
open PySem PySem.Spec PyProof.Rows
section
variable {X:Cx} {pins:List (Addr×Obj)} {σ:St} {H:Hp} {s:Shared} {h':Heap}
theorem _root_.L2.Inv.turnsNew {ch:List Addr} {tk:Nat} {T:Addr} {o:HO} (I:Inv X pins σ H s) (hf:∀ b∈ch,FpOk X pins H b) (k:∀ b u,b∉ch→s.heap.get? b=some u→h'.get? b=some u) (hT:s.heap.objs.size≤T)
    (new:YU X.prog X.w (upd H T o) h' T o):Inv X pins σ (upd H T o) { s with heap:=h',toks:=tk }:=by
  have hn:H T=none:=I.hok.fresh hT
  have lt:∀ b u,s.heap.get? b=some u→b≠T:=fun b u e z=>absurd (Nat.lt_of_lt_of_le (Heap.lt_size e) (z ▸ hT)) (Nat.lt_irrefl _)
  have nch:∀ b u,H b=some u→b∉ch:=fun b u e z=>by rw [(hf b z).1] at e;cases e
  refine I.call' (ch:=ch) rfl ⟨fun b u e _ _ hc=>k b u hc e,fun b u e _ _ hc=>⟨u.slots,k b u hc e⟩,fun b u e n _=>by rw [Qs (lt b u e)];exact n,fun b u e hc=>⟨u,k b u hc e⟩,fun b xs e=>by rw [Qs (Qt e hn)];exact e,
    fun b u v e=>by rw [Qs (Qt e hn)];exact e,fun b ps e=>⟨#[],by rw [Qs (Qt e hn)];simpa using e⟩⟩ (fun b u e => ?_) I.bare fun b hb => ?_
  · by_cases hb:b=T
    · subst hb
      rw [Qv] at e
      cases e
      exact new
    · rw [Qs hb] at e
      refine (I.hok b u e).stay (fun c v hc q=>k c v ?_ q) (fun c q=>by rw [Qs (Qt q hn)];exact q) fun c xs q=>by rw [Qs (Qt q hn)];exact q
      rcases hc with z | z
      · rw [z];exact nch b u e
      · exact nch c _ z
  · obtain ⟨_,f1,_,f3,f4,f5⟩:=hf b hb
    exact ⟨f3,f1,f4,f5⟩
theorem _root_.L2.Inv.turns {ch:List Addr} {tk:Nat} (I:Inv X pins σ H s) (hf:∀ b∈ch,FpOk X pins H b) (k:∀ b u,b∉ch→s.heap.get? b=some u→h'.get? b=some u):Inv X pins σ H { s with heap:=h',toks:=tk }:=by
  have nch:∀ b u,H b=some u→b∉ch:=fun b u e z=>by rw [(hf b z).1] at e;cases e
  refine I.call' (ch:=ch) rfl ⟨fun b u e _ _ hc=>k b u hc e,fun b u e _ _ hc=>⟨u.slots,k b u hc e⟩,fun b u e n _=>n,fun b u e hc=>⟨u,k b u hc e⟩,fun b xs e=>e,fun b u v e=>e,fun b ps e=>⟨#[],by simpa using e⟩⟩ (fun b u e => ?_) I.bare fun b hb => ?_
  · refine (I.hok b u e).stay (fun c v hc q=>k c v ?_ q) (fun c q=>q) fun c xs q=>q
    rcases hc with z | z
    · rw [z];exact nch b u e
    · exact nch c _ z
  · obtain ⟨_,f1,_,f3,f4,f5⟩:=hf b hb
    exact ⟨f3,f1,f4,f5⟩
end
noncomputable def Ite (sq:Hp→List V→Prop):It :=
  ⟨fun i H=>∃ xs x,sq H xs∧xs[i]?=some x,fun i H v H'=>∃ T x,v = .ref T∧H T=none∧H'=upd H T (.tup [.int i,x])∧∀ xs,sq H xs→xs[i]?=some x,fun i H=>∃ xs,sq H xs∧xs.length≤i⟩
theorem Qiy {P:Program} {w:World} {K:PySem.W.Frag} {elts:List Expr} {kk:Nat} {pp:Pos} (a it e:Addr) (hne:e≠it):Turn P w K (.Tuple elts kk pp) (Ite fun H xs=>SqT K H a xs) [e,it] e (fun i h=>(∃ old,IsEnum h e it i old)∧h.IsTupleIter it a i) where
  mem:=by simp
  obj:=fun i h st b hb=>by
    obtain ⟨⟨old,he⟩,o,ho,c,d⟩:=st
    rcases List.mem_cons.mp hb with z | z
    · subst z
      exact ⟨_,he,fun v q=>by
        have q:Data.fields _=Data.cell v:=q
        cases q⟩
    · rw [List.mem_singleton.mp z]
      exact ⟨o,ho,fun v q=>by rw [d] at q;cases q⟩
  keep:=fun i h h' st k=>by
    obtain ⟨⟨old,he⟩,st2⟩:=st
    exact ⟨⟨old,k e (by simp) _ he⟩,st2.at fun o q=>k it (by simp) o q⟩
  item:=by
    intro X hP hw hK hc i pins s σ H E I hf st hg
    subst hP hw hK
    obtain ⟨xs,x,hq,hx⟩:=hg
    obtain ⟨its,rv,p,hz⟩:=I.tuple hq
    obtain ⟨u,hu,ru⟩:=rv.get hx
    have hlen:=rv.length
    have hi:i < its.length:=(List.getElem?_eq_some_iff.mp hu).1
    have nai:a≠it:=fun z=>by
      obtain ⟨⟨oi,hoi,ci,_⟩⟩:=(⟨st.2⟩:Nonempty _)
      obtain ⟨oa,hoa,ca,_⟩:=p
      rw [z,hoi] at hoa
      cases hoa
      rw [ci] at ca
      exact absurd ca (by decide)
    have nae:e∉[it,a]:=fun z=>by
      rcases List.mem_cons.mp z with z | z
      · exact hne z
      · have z:=List.mem_singleton.mp z
        obtain ⟨⟨old,he⟩,_⟩:=st
        obtain ⟨oa,hoa,ca,_⟩:=p
        rw [← z,he] at hoa
        cases hoa
        exact absurd (show Value.type "enumerate"=Value.type "tuple" from ca) (by decide)
    have W:=WalksT.enumerateD (A:=X.A) (Qld (prog:=X.prog) (w:=X.w) (A:=X.A.in1) (by have:=I.ok.hd hc;simp [this]) it a nai its.toArray) e hne nae (by simp)
    refine W.item i s _ _ (by simpa using hi) ⟨st.1,st.2,p⟩ fun T vals h1 tk hp hT tup mid k1 => ?_
    obtain ⟨tt,y,hy,rfl⟩:=hp
    have hy:y=u:=by
      rw [List.getElem?_toArray,hu] at hy
      exact (Option.some.inj hy).symm
    subst hy
    have apart:=W.apart i T h1 mid
    refine ⟨_,rfl,W.go elts kk pp i T { s with heap:=h1,toks:=tk } _ _ mid fun h2 st2 k2 => ?_⟩
    have hn:H T=none:=I.hok.fresh hT
    have tup2:h2.IsTuple T #[.int i tt,y]:=tup.at fun o q=>k2 T o apart q
    have I2:Inv X pins σ (upd H T (.tup [.int i,x])) { s with heap:=h2,toks:=tk }:=I.turnsNew (ch:=[e,it]) (o := .tup [.int i,x]) hf (fun b o hb q=>k2 b o hb (k1 b o hb q)) hT ⟨by show 2≤sizeLine;decide,[.int i tt,y],.cons ⟨tt,rfl⟩ (.cons ru .nil),tup2⟩
    refine ⟨.ref T,_,I2,rfl,⟨T,x,rfl,hn,rfl,fun ys hy=>by rw [I.tuple_inj hy hq];exact hx⟩,⟨st2.1,st2.2.1⟩,fun b hb => ?_⟩
    have hbT:b≠T:=fun z=>apart (z ▸ hb)
    rw [Qs hbT]
    exact (hf b hb).1
  done:=by
    intro X hP hw hK hc i pins s σ H E I hf st hg
    subst hP hw hK
    obtain ⟨xs,hq,hx⟩:=hg
    obtain ⟨its,rv,p,hz⟩:=I.tuple hq
    have hlen:=rv.length
    obtain ⟨⟨old,he⟩,st2⟩:=st
    have D:Draws X.prog X.w X.A.in1 it [it,a] i (fun _ _=>True) (fun j h=>j=i∧h.IsTupleIter it a i∧h.IsTuple a its.toArray) :=
      { live:=fun _ _ q=>let ⟨_,⟨o,ho,_⟩,_⟩:=q;⟨o,ho⟩
        frame:=fun _ _ _ q k=>⟨q.1,q.2.1.at fun o z=>k it (by simp) o z,q.2.2.at fun o z=>k a (by simp) o z⟩
        item:=fun j s Q E hj q _=>absurd q.1 (Nat.ne_of_lt hj)
        done:=fun s Q E q fin=>Qbz (by have:=I.ok.hd hc;simp [this]) q.2.1 q.2.2 (by simp;omega) fin }
    exact wpAny_pyNext_enum_endD D he ⟨rfl,st2,p⟩ fun h1 k=>⟨rfl,I.turns (tk:=s.toks) (ch:=[e,it]) hf fun b o hb q=>k b o (fun z=>hb (by simp [z])) q⟩
  self:=fun A i s Q E st h=>wpAny_pyIter_enum st.1.choose_spec h
end L2.PM

noncomputable section
namespace L2.PM
open PySem PySem.Spec PyProof.Rows
section
variable {X:Cx} {e a b c:Expr} {es:List Expr} {ms ns ls:List Nat} {m m1 m2 m3:MEx} {ma:PEnv→Option (List PV)} {pos p p1 p2 p3 pos':Pos} {x:Str} {id T:String} {tg:Expr}
theorem im_seq (h:EM X ms e m):IM X ms tg e (iSeq m):=by
  intro pins s σ H R I q
  obtain ⟨F,γ,xs,h1,h2,h3,w⟩:=q
  obtain ⟨p,e1,e2⟩:=Qg h3
  cases p with
  | lst ys =>
    cases e2
    exact Qak h pins s σ H R I ⟨F,γ,_,h1,h2,by unfold iLst;rw [e1];rfl,w⟩
  | tup ys =>
    cases e2
    exact Qfl h pins s σ H R I ⟨F,γ,_,h1,h2,by unfold iTpl;rw [e1];rfl,w⟩
  | _=>cases e2
theorem pi_enumT {elts:List Expr} {kk:Nat} {pp:Pos} {ta:TA} (hg:Gl X "enumerate") (hm:X.mg "enumerate"=none) (ha:PA X [a] ta) (hs:starEach [a] X.env=[(false,eval a X.env)]:=by rfl) :
    PI X (.Tuple elts kk pp) (.Call (.Name "enumerate" p) [a] [] pos) (fun σ H R=>ta σ H fun vs H1=>∃ l,vs=[.ref l]∧(∃ xs,SqT X.K H1 l xs)∧R (Ite fun H xs=>SqT X.K H l xs) H1):=by
  intro pins s σ H R I h
  refine Call_ (QbW I hg hm (show bootBuiltins "enumerate"=some (.type "enumerate") from by kernel_rfl) (PyProof.Rows.callWith_type1 (thn (ha pos pins s σ H _ I h) fun us s1 ⟨vs,H1,I1,r1,q1⟩ => ?_) hs rfl))
  obtain ⟨l,rfl,⟨xs,hq⟩,q⟩:=q1
  obtain ⟨u,rfl,ru⟩:=QcY r1
  cases ru
  obtain ⟨its,rv,pt,hz⟩:=I1.tuple hq
  refine Qjg (show s1.heap.IsTuple l its.toArray from pt) fun h' he hit k => ?_
  refine wpAny_pyIter_enum he ?_
  refine ⟨s1.heap.objs.size + 1,[s1.heap.objs.size + 1,s1.heap.objs.size],_,_,H1,rfl,I1.kept (t':=s1.toks) k,Qiy l s1.heap.objs.size (s1.heap.objs.size + 1) (Nat.succ_ne_self _),⟨⟨_,he⟩,hit⟩,fun b hb => ?_,q⟩
  have hle:s1.heap.objs.size≤b:=by
    rcases List.mem_cons.mp hb with z | z
    · rw [z];exact Nat.le_succ _
    · rw [List.mem_singleton.mp z];exact Nat.le_refl _
  exact I1.fpOk hle (I1.hok.fresh hle)
theorem QhT {elts:List Expr} {kk:Nat} {pp:Pos} (hc:X.calm=true) (hg:Gl X "enumerate") (hm:X.mg "enumerate"=none) (ha:AM X ms [a] ma) (hs:starEach [a] X.env=[(false,eval a X.env)]:=by rfl) :
    IM X ms (.Tuple elts kk pp) (.Call (.Name "enumerate" p) [a] [] pos) (Qk Qfj ma) :=
  PI.imp (pi_enumT hg hm ha hs) fun σ H R ⟨F,γ,xs,k1,k2,k3,w⟩=>by
    obtain ⟨qs,e1,k3⟩:=Qg k3
    refine ⟨F,γ,qs,k1,k2,e1,fun vs H1 F1 g1 q1 => ?_⟩
    unfold Qfj at k3
    split at k3
    · rename_i ys
      cases k3
      unfold RepL at q1
      obtain ⟨v,t,rfl,q1,qt⟩:=q1
      unfold RepL at qt
      subst qt
      unfold Rep at q1
      obtain ⟨l,us,rfl,sl,rl⟩:=q1
      refine ⟨l,rfl,⟨us,g1.sub.seqT sl⟩,w _ _ _ g1 ?_⟩
      refine ⟨fun i H2 hi e2 => ?_,fun i H2 v H3 hi e2 y => ?_,fun H2 e2 => ?_⟩
      · have hv:i < us.length:=by
          rw [rl.length]
          simpa using hi
        exact ⟨us,us[i],e2.seqT sl,by simp [hv]⟩
      · obtain ⟨T,x,rfl,hn,rfl,y⟩:=y
        obtain ⟨p,e3,e4⟩:=rl.back (y us (e2.seqT sl))
        refine ⟨.tup [pN i,p],?_,fun F2 x1 x2 => ?_⟩
        · simp [e3]
        · refine ⟨upd F2 T (.tup [.int i,x]),.laid x2 hn,?_⟩
          unfold Rep
          exact ⟨T,[.int i,x],rfl,.of Qv,.cons (QZ _) (.cons (e4.mono (x1.trans (Grow.laid (o := .tup [.int i,x]) x2 hn).ext)) .nil)⟩
      · exact ⟨us,e2.seqT sl,by rw [rl.length];simp⟩
    · cases k3
end
end L2.PM

noncomputable section
namespace L2.PM
open PySem PySem.Spec PyProof.Rows
namespace SF
end SF
section
variable {prog:Program} {w:World} {A:Around} {E:Value→Shared→Prop} {s:Shared}
end
section
variable {X:Cx} {e a b c:Expr} {es:List Expr} {ms ns ls:List Nat} {m m1 m2 m3:MEx} {ma:PEnv→Option (List PV)} {pos p p1 p2 p3 pos':Pos} {x:Str} {id T:String} {tg:Expr}
end
end L2.PM

noncomputable section
namespace L2.PM
open PySem PySem.Spec PyProof.Rows
open PySem.AutoSeq1 (wpAny_loadPart')
section
variable {prog:Program} {w:World} {A:Around} {E:Value→Shared→Prop} {s:Shared}
end
section
variable {X:Cx} {e a b c:Expr} {es:List Expr} {ms ns ls:List Nat} {m m1 m2 m3:MEx} {ma:PEnv→Option (List PV)} {pos p p1 p2 p3 pos':Pos} {x:Str} {id T:String} {tg:Expr}
noncomputable def Itv (K:PySem.W.Frag) (l:Addr) (n:Nat):It :=
  ⟨fun i H=>∃ xs x,SqL K H l xs∧xs.length=n∧xs.reverse[i]?=some x,fun i H x H'=>H'=H∧∀ xs,SqL K H l xs→xs.length=n→xs.reverse[i]?=some x,fun i H=>∃ xs,SqL K H l xs∧xs.length=n∧i=n⟩
theorem turn_rev {P:Program} {w:World} {K:PySem.W.Frag} {tg:Expr} (l it:Addr) (n:Nat) (hne:l≠it):Turn P w K tg (Itv K l n) [it] it (fun i h=>i≤n∧h.IsRevIter it l ((n:Int) - 1 - (i:Nat))) where
  mem:=by simp
  obj:=fun i h st b hb=>by
    rw [List.mem_singleton.mp hb]
    obtain ⟨_,o,e,c,d⟩:=st
    exact ⟨o,e,fun v z=>by rw [d] at z;cases z⟩
  keep:=fun i h h' st k=>⟨st.1,st.2.at fun o e=>k it (by simp) o e⟩
  item:=by
    intro X hP hw hK hc i pins s σ H E I hf st hg
    subst hP hw hK
    obtain ⟨xs,x,hq,hn,hx⟩:=hg
    obtain ⟨its,rv,p,hz⟩:=I.list hq
    obtain ⟨u,hu,ru⟩:=rv.reverse.get hx
    obtain ⟨f0,f1,f2,f3,f4,f5⟩:=hf it (by simp)
    have hl:=rv.length
    have hi:i < its.length:=by
      have:=(List.getElem?_eq_some_iff.mp hu).1
      simpa using this
    have ei:(n:Int) - 1 - (i:Nat)=((n - 1 - i:Nat):Int):=by omega
    have hu2:its.toArray[n - 1 - i]?=some u:=by
      rw [List.getElem?_reverse (by omega)] at hu
      rw [List.getElem?_toArray,← hu]
      congr 1
      omega
    have st2:=st.2
    rw [ei] at st2
    refine wpAny_pyNext_rev_item st2 p.isList hu2 fun h' z sb => ?_
    have e2:((n - 1 - i:Nat):Int) - 1=(n:Int) - 1 - ((i + 1:Nat):Int):=by omega
    rw [e2] at z
    have I1:Inv X pins σ H { s with heap:=h' }:=I.turned (t':=s.toks) (fun b o hb e=>(sb.2 b hb).trans e) f0 f1 f3 f4 f5
    obtain ⟨o,e,c,d⟩:=id z
    exact ⟨u,rfl,Qjp (s:={ s with heap:=h' }) e c d (by decide) ⟨x,H,I1,ru,⟨rfl,fun ys hy _=>by rw [I.list_inj hy hq];exact hx⟩,⟨by omega,z⟩,fun b hb=>(hf b hb).1⟩⟩
  done:=by
    intro X hP hw hK hc i pins s σ H E I hf st hg
    subst hP hw hK
    obtain ⟨xs,hq,hn,rfl⟩:=hg
    obtain ⟨f0,f1,f2,f3,f4,f5⟩:=hf it (by simp)
    have st2:=st.2
    rw [show (i:Int) - 1 - (i:Nat) = -1 by omega] at st2
    exact wpAny_pyNext_rev_end (I.ok.hd hc) st2 fun h' eb=>⟨rfl,I.turned (t':=s.toks) (fun b o hb e=>eb b o hb e) f0 f1 f3 f4 f5⟩
  self:=fun _ _ _ _ _ st h=>wpAny_pyIter_revIter st.2 h
theorem pi_rev {ta:TA} (hg:Gl X "reversed") (hm:X.mg "reversed"=none) (ha:PA X [a] ta) (hs:starEach [a] X.env=[(false,eval a X.env)]:=by rfl) :
    PI X tg (.Call (.Name "reversed" p) [a] [] pos) (fun σ H R=>ta σ H fun vs H1=>∃ l xs,vs=[.ref l]∧SqL X.K H1 l xs∧R (Itv X.K l xs.length) H1):=by
  intro pins s σ H R I h
  refine Call_ (QbW I hg hm (show bootBuiltins "reversed"=some (.type "reversed") from by kernel_rfl) (PyProof.Rows.callWith_type1 (thn (ha pos pins s σ H _ I h) fun us s1 ⟨vs,H1,I1,r1,q1⟩ => ?_) hs rfl))
  obtain ⟨l,xs,rfl,hq,q⟩:=q1
  obtain ⟨u,rfl,ru⟩:=QcY r1
  cases ru
  obtain ⟨its,rv,pl,hz⟩:=I1.list hq
  refine call_reversed_list pl.isList ?_
  have e:((its.toArray.size:Nat):Int)=(xs.length:Nat):=by rw [List.size_toArray,rv.length]
  have z:(s1.heap.push (revObj l ((its.toArray.size:Int) - 1))).IsRevIter s1.heap.objs.size l ((xs.length:Int) - 1 - ((0:Nat):Int)):=⟨_,Heap.get?_push_size _ rfl,rfl,by rw [← e];simp [revObj]⟩
  have nl:l≠s1.heap.objs.size:=fun y=>by
    obtain ⟨o,ho,_⟩:=pl.isList
    exact absurd (Heap.lt_size ho) (by rw [y];exact Nat.lt_irrefl _)
  refine wpAny_pyIter_revIter z ?_
  refine ⟨s1.heap.objs.size,[s1.heap.objs.size],_,_,H1,rfl,I1.kept (t':=s1.toks) fun b o q=>Heap.get?_push_of_some _ q,turn_rev l _ xs.length nl,⟨Nat.zero_le _,z⟩,fun b hb => ?_,q⟩
  rw [List.mem_singleton.mp hb]
  exact I1.fpOk (Nat.le_refl _) (I1.hok.fresh (Nat.le_refl _))
theorem im_revL (hc:X.calm=true) (hg:Gl X "reversed") (hm:X.mg "reversed"=none) (ha:AM X ms [a] ma) (hs:starEach [a] X.env=[(false,eval a X.env)]:=by rfl) :
    IM X ms tg (.Call (.Name "reversed" p) [a] [] pos) (Qk pRev ma) :=
  PI.imp (pi_rev hg hm ha hs) fun σ H R ⟨F,γ,xs,k1,k2,k3,w⟩=>by
    obtain ⟨qs,e1,k3⟩:=Qg k3
    refine ⟨F,γ,qs,k1,k2,e1,fun vs H1 F1 g1 q1 => ?_⟩
    unfold pRev at k3
    split at k3
    · rename_i ys
      cases k3
      unfold RepL at q1
      obtain ⟨v,t,rfl,q1,qt⟩:=q1
      unfold RepL at qt
      subst qt
      unfold Rep at q1
      obtain ⟨l,us,rfl,sl,rl⟩:=q1
      refine ⟨l,us,rfl,g1.sub.seq sl,w _ _ _ g1 ?_⟩
      have rr:=rl.reverse
      refine ⟨fun i H2 hi e2 => ?_,fun i H2 v H3 hi e2 y => ?_,fun H2 e2 => ?_⟩
      · have hv:i < us.reverse.length:=by rw [rr.length];exact hi
        exact ⟨us,us.reverse[i],e2.seq sl,rfl,List.getElem?_eq_getElem hv⟩
      · obtain ⟨rfl,y⟩:=y
        obtain ⟨p,e3,e4⟩:=rr.back (y us (e2.seq sl) rfl)
        exact ⟨p,e3,fun F2 x1 x2=>⟨F2,.refl x2,e4.mono x1⟩⟩
      · exact ⟨us,e2.seq sl,rfl,by rw [List.length_reverse,rl.length]⟩
    · cases k3
end
end L2.PM

noncomputable section
namespace L2.PM
open PySem
noncomputable def bls?:List PV→Option (List Bool)
  | []=>some []
  | .bl b :: xs=>(bls? xs).map (b :: ·)
  | _ :: _=>none
theorem Qim:∀ {xs:List PV} {bs:List Bool},bls? xs=some bs→xs=bs.map PV.bl
  | [],bs,h=>by cases h;rfl
  | .bl b :: xs,bs,h=>by
    have h:(bls? xs).map (b :: ·)=some bs:=h
    cases e:bls? xs with
    | none=>rw [e] at h;cases h
    | some cs=>rw [e] at h;cases h;rw [Qim e];rfl
  | .non :: _,_,h=>by cases h
  | .int _ :: _,_,h=>by cases h
  | .str _ :: _,_,h=>by cases h
  | .tup _ :: _,_,h=>by cases h
  | .lst _ :: _,_,h=>by cases h
theorem Qil:∀ bs:List Bool,bls? (bs.map PV.bl)=some bs
  | []=>rfl
  | b :: bs=>by
    show (bls? (bs.map PV.bl)).map (b :: ·)=_
    rw [Qil bs];rfl
noncomputable def Qlq:List PV→Option PV
  | [.lst xs]=>(bls? xs).map fun bs => .bl (bs.any id)
  | _=>none
end L2.PM

noncomputable section
namespace L2.PM
open PySem PySem.Spec PyProof.Rows
namespace SF
end SF
section
variable {prog:Program} {w:World} {A:Around} {E:Value→Shared→Prop} {s:Shared}
noncomputable def IsRv (h:Heap) (a l:Addr) (i:Int):Prop:=∃ o,h.get? a=some o∧o.cls = .type "reversed"∧o.data = .fields #[.ref l,rawInt i]
theorem IsRv.typeIs {a l:Addr} {i:Int} (x:IsRv s.heap a l i):s.TypeIs (.ref a) "reversed":=let ⟨o,ho,hc,_⟩:=x;⟨o,ho,hc⟩
theorem IsRv.at {h h':Heap} {a l:Addr} {i:Int} (x:IsRv h a l i) (e:∀ o,h.get? a=some o→h'.get? a=some o):IsRv h' a l i:=let ⟨o,ho,r⟩:=x;⟨o,e _ ho,r⟩
end
section
variable {X:Cx} {e a b c:Expr} {es:List Expr} {ms ns ls:List Nat} {m m1 m2 m3:MEx} {ma:PEnv→Option (List PV)} {pos p p1 p2 p3 pos':Pos} {x:Str} {id T:String} {tg:Expr}
theorem QcC {n:Nat} (h:n≤sizeLine):(n:Int) < 2 ^ 63:=by
  have:sizeLine < 2 ^ 63:=by decide
  omega
end
end L2.PM

noncomputable section
namespace L2.PM
open PySem PySem.Spec PyProof.Rows
open PySem.AutoSeq1 (wpAny_loadPart')
section
variable {X:Cx} {e a b c:Expr} {es:List Expr} {ms ns ls:List Nat} {m m1 m2 m3:MEx} {ma:PEnv→Option (List PV)} {pos p p1 p2 p3 pos':Pos} {x:Str} {id T:String} {tg:Expr}
end
end L2.PM

noncomputable section
namespace L2.PM
open PySem PySem.Spec PyProof.Rows
section
variable {X:Cx}
theorem Qhu:∀ {bs:List Bool} {its:List Value},Vals (bs.map V.bl) its→its=bs.map Value.bool
  | [],_,h=>by cases h;rfl
  | b :: bs,_,h=>by
    cases h with
    | cons h1 h2=>rw [Qhu h2,show _=Value.bool b from h1];rfl
theorem QhB {K:PySem.W.Frag} {F:Hp}:∀ {bs:List Bool} {vs:List V},RepL K F (bs.map PV.bl) vs→vs=bs.map V.bl
  | [],vs,h=>by
    rw [List.map_nil] at h
    unfold RepL at h
    exact h
  | b :: bs,vs,h=>by
    rw [List.map_cons] at h
    unfold RepL at h
    obtain ⟨v,t,rfl,h1,h2⟩:=h
    unfold Rep at h1
    rw [h1,QhB h2];rfl
theorem kept_it {s:Shared} {h':Heap} {o:Obj} (hk:∀ b x,b∉[s.heap.objs.size]→(s.heap.push o).get? b=some x→h'.get? b=some x):∀ b x,s.heap.get? b=some x→h'.get? b=some x :=
  fun b x e=>hk b x (fun hm=>by rw [List.mem_singleton.mp hm] at e;exact Nat.lt_irrefl _ (Heap.lt_size e)) (Heap.get?_push_of_some _ e)
theorem rng_any (bs:List Bool):((List.range bs.length).any fun i=>(bs[i]?).getD false)=bs.any id:=by
  rw [Bool.eq_iff_iff,List.any_eq_true,List.any_eq_true]
  constructor
  · rintro ⟨i,hi,h⟩
    have hi:=List.mem_range.mp hi
    exact ⟨bs[i],List.getElem_mem hi,by simpa [hi] using h⟩
  · rintro ⟨x,hx,h⟩
    obtain ⟨i,hi,rfl⟩:=List.mem_iff_getElem.mp hx
    exact ⟨i,List.mem_range.mpr hi,by simpa [hi] using h⟩
theorem Qlj (hc:X.calm=true):Qac X (.builtin "any") (fun vs H Q=>∃ (a:Addr) (bs:List Bool),vs=[.ref a]∧SqL X.K H a (bs.map V.bl)∧Q (.bl (bs.any id)) H):=by
  intro pins s σ H vs us Q I rs h
  obtain ⟨a,bs,rfl,h2,h3⟩:=h
  obtain ⟨u,rfl,ru⟩:=QcY rs
  cases ru
  obtain ⟨its,r,pl,_⟩:=I.list h2
  have e:=Qhu r
  subst e
  have hl:=pl.isList
  have hlt:a < s.heap.objs.size:=by obtain ⟨_,e,_⟩:=hl;exact Heap.lt_size e
  refine call_any_walk (wpAny_pyIter_list hl ?_)
  refine ⟨s.heap.objs.size,[s.heap.objs.size,a],[s.heap.objs.size],(bs.map Value.bool).toArray.size,_,_,fun i=>(bs[i]?).getD false,rfl,Walks.list (A:=X.A.in1) (I.ok.hd hc) _ a (Nat.ne_of_lt hlt) (bs.map Value.bool).toArray,
    ⟨⟨_,Heap.get?_push_size _ rfl,rfl,rfl⟩,hl.push _⟩,fun i v s' Q' E' hP hQ => ?_,fun h' tk hk => ?_⟩
  · have hP:(bs.map Value.bool)[i]?=some v:=by simpa using hP
    rw [List.getElem?_map,Option.map_eq_some_iff] at hP
    obtain ⟨b,e,rfl⟩:=hP
    simp only [e,Option.getD_some] at hQ
    exact wpAny_truthy_bool hQ
  · have e:((List.range (bs.map Value.bool).toArray.size).any fun i=>(bs[i]?).getD false)=bs.any id:=by
      rw [List.size_toArray,List.length_map];exact rng_any bs
    rw [e]
    exact ⟨.bl (bs.any id),H,I.kept (t':=tk) (kept_it hk),rfl,h3⟩
theorem cm_any (hc:X.calm=true):Qjt X (.builtin "any") Qlq:=by
  intro pins s σ H vs us Q I rs h
  obtain ⟨F,ps,r,h1,h2,h3,w⟩:=h
  refine Qlj hc pins s σ H vs us Q I rs ?_
  unfold Qlq at h3
  split at h3
  · rename_i xs
    obtain ⟨bs,e1,rfl⟩:=Yv h3
    have e2:=Qim e1
    subst e2
    unfold RepL at h2
    obtain ⟨v,t,rfl,h2,ht⟩:=h2
    unfold RepL at ht
    subst ht
    unfold Rep at h2
    obtain ⟨a,us,rfl,k2,k3⟩:=h2
    have e3:=QhB k3
    subst e3
    exact ⟨a,bs,rfl,h1.seq k2,w.here h1 (Yt _)⟩
  · cases h3
end
end L2.PM

noncomputable section
namespace L2.PM
open PySem PySem.Spec PyProof.Rows
section
variable {X:Cx} {pos:Pos}
end
end L2.PM

noncomputable section
namespace L2.PM
open PySem PySem.Spec PyProof.Rows
theorem Qiz {P:Program} {w:World} {K:PySem.W.Frag} {elts:List Expr} {kk:Nat} {pp:Pos} (a it e:Addr) (hne:e≠it):Turn P w K (.Tuple elts kk pp) (Ite fun H xs=>SqL K H a xs) [e,it] e (fun i h=>(∃ old,IsEnum h e it i old)∧h.IsListIter it a i) where
  mem:=by simp
  obj:=fun i h st b hb=>by
    obtain ⟨⟨old,he⟩,o,ho,c,d⟩:=st
    rcases List.mem_cons.mp hb with z | z
    · subst z
      exact ⟨_,he,fun v q=>by
        have q:Data.fields _=Data.cell v:=q
        cases q⟩
    · rw [List.mem_singleton.mp z]
      exact ⟨o,ho,fun v q=>by rw [d] at q;cases q⟩
  keep:=fun i h h' st k=>by
    obtain ⟨⟨old,he⟩,st2⟩:=st
    exact ⟨⟨old,k e (by simp) _ he⟩,st2.at fun o q=>k it (by simp) o q⟩
  item:=by
    intro X hP hw hK hc i pins s σ H E I hf st hg
    subst hP hw hK
    obtain ⟨xs,x,hq,hx⟩:=hg
    obtain ⟨its,rv,pl,hz⟩:=I.list hq
    have p:=pl.isList
    obtain ⟨u,hu,ru⟩:=rv.get hx
    have hlen:=rv.length
    have hi:i < its.length:=(List.getElem?_eq_some_iff.mp hu).1
    have nai:a≠it:=fun z=>by
      obtain ⟨⟨oi,hoi,ci,_⟩⟩:=(⟨st.2⟩:Nonempty _)
      obtain ⟨oa,hoa,ca,_⟩:=p
      rw [z,hoi] at hoa
      cases hoa
      rw [ci] at ca
      exact absurd ca (by decide)
    have nae:e∉[it,a]:=fun z=>by
      rcases List.mem_cons.mp z with z | z
      · exact hne z
      · have z:=List.mem_singleton.mp z
        obtain ⟨⟨old,he⟩,_⟩:=st
        obtain ⟨oa,hoa,ca,_⟩:=p
        rw [← z,he] at hoa
        cases hoa
        exact absurd (show Value.type "enumerate"=Value.type "list" from ca) (by decide)
    have W:=WalksT.enumerateD (A:=X.A) (Draws.list (prog:=X.prog) (w:=X.w) (A:=X.A.in1) (by have:=I.ok.hd hc;simp [this]) it a nai its.toArray) e hne nae (by simp)
    refine W.item i s _ _ (by simpa using hi) ⟨st.1,st.2,p⟩ fun T vals h1 tk hp hT tup mid k1 => ?_
    obtain ⟨tt,y,hy,rfl⟩:=hp
    have hy:y=u:=by
      rw [List.getElem?_toArray,hu] at hy
      exact (Option.some.inj hy).symm
    subst hy
    have apart:=W.apart i T h1 mid
    refine ⟨_,rfl,W.go elts kk pp i T { s with heap:=h1,toks:=tk } _ _ mid fun h2 st2 k2 => ?_⟩
    have hn:H T=none:=I.hok.fresh hT
    have tup2:h2.IsTuple T #[.int i tt,y]:=tup.at fun o q=>k2 T o apart q
    have I2:Inv X pins σ (upd H T (.tup [.int i,x])) { s with heap:=h2,toks:=tk }:=I.turnsNew (ch:=[e,it]) (o := .tup [.int i,x]) hf (fun b o hb q=>k2 b o hb (k1 b o hb q)) hT ⟨by show 2≤sizeLine;decide,[.int i tt,y],.cons ⟨tt,rfl⟩ (.cons ru .nil),tup2⟩
    refine ⟨.ref T,_,I2,rfl,⟨T,x,rfl,hn,rfl,fun ys hy=>by rw [I.list_inj hy hq];exact hx⟩,⟨st2.1,st2.2.1⟩,fun b hb => ?_⟩
    have hbT:b≠T:=fun z=>apart (z ▸ hb)
    rw [Qs hbT]
    exact (hf b hb).1
  done:=by
    intro X hP hw hK hc i pins s σ H E I hf st hg
    subst hP hw hK
    obtain ⟨xs,hq,hx⟩:=hg
    obtain ⟨its,rv,pl,hz⟩:=I.list hq
    have p:=pl.isList
    have hlen:=rv.length
    obtain ⟨⟨old,he⟩,st2⟩:=st
    have D:Draws X.prog X.w X.A.in1 it [it,a] i (fun _ _=>True) (fun j h=>j=i∧h.IsListIter it a i∧h.IsList a its.toArray) :=
      { live:=fun _ _ q=>let ⟨_,⟨o,ho,_⟩,_⟩:=q;⟨o,ho⟩
        frame:=fun _ _ _ q k=>⟨q.1,q.2.1.at fun o z=>k it (by simp) o z,q.2.2.at fun o z=>k a (by simp) o z⟩
        item:=fun j s Q E hj q _=>absurd q.1 (Nat.ne_of_lt hj)
        done:=fun s Q E q fin=>wpAny_nextOf_list_end (by have:=I.ok.hd hc;simp [this]) q.2.1 q.2.2 (by simp;omega) fin }
    exact wpAny_pyNext_enum_endD D he ⟨rfl,st2,p⟩ fun h1 k=>⟨rfl,I.turns (tk:=s.toks) (ch:=[e,it]) hf fun b o hb q=>k b o (fun z=>hb (by simp [z])) q⟩
  self:=fun A i s Q E st h=>wpAny_pyIter_enum st.1.choose_spec h
section
variable {X:Cx} {e a b c:Expr} {es:List Expr} {ms ns ls:List Nat} {m m1 m2 m3:MEx} {ma:PEnv→Option (List PV)} {pos p p1 p2 p3 pos':Pos} {x:Str} {id T:String} {tg:Expr}
theorem star_int {i:Int} {j:Nat} {q:Pos} {es:List Expr} {env:Env}:starEach (.Constant (.int i) j q :: es) env=(false,eval (.Constant (.int i) j q) env) :: starEach es env:=rfl
theorem ZO {i:Int} {j:Nat} {q:Pos} (hr:AM X [] es ma):AM X [] (.Constant (.int i) j q :: es) (Qe (mC (.int i)) ma):=Qb Qi hr star_int
theorem pi_enumL {elts:List Expr} {kk:Nat} {pp:Pos} {ta:TA} (hg:Gl X "enumerate") (hm:X.mg "enumerate"=none) (ha:PA X [a] ta) (hs:starEach [a] X.env=[(false,eval a X.env)]:=by rfl) :
    PI X (.Tuple elts kk pp) (.Call (.Name "enumerate" p) [a] [] pos) (fun σ H R=>ta σ H fun vs H1=>∃ l,vs=[.ref l]∧(∃ xs,SqL X.K H1 l xs)∧R (Ite fun H xs=>SqL X.K H l xs) H1):=by
  intro pins s σ H R I h
  refine Call_ (QbW I hg hm (show bootBuiltins "enumerate"=some (.type "enumerate") from by kernel_rfl) (PyProof.Rows.callWith_type1 (thn (ha pos pins s σ H _ I h) fun us s1 ⟨vs,H1,I1,r1,q1⟩ => ?_) hs rfl))
  obtain ⟨l,rfl,⟨xs,hq⟩,q⟩:=q1
  obtain ⟨u,rfl,ru⟩:=QcY r1
  cases ru
  obtain ⟨its,rv,pl,hz⟩:=I1.list hq
  refine call_enumerate_list pl.isList fun h' he hit _ k => ?_
  refine wpAny_pyIter_enum he ?_
  refine ⟨s1.heap.objs.size + 1,[s1.heap.objs.size + 1,s1.heap.objs.size],_,_,H1,rfl,I1.kept (t':=s1.toks) k,Qiz l s1.heap.objs.size (s1.heap.objs.size + 1) (Nat.succ_ne_self _),⟨⟨_,he⟩,hit⟩,fun b hb => ?_,q⟩
  have hle:s1.heap.objs.size≤b:=by
    rcases List.mem_cons.mp hb with z | z
    · rw [z];exact Nat.le_succ _
    · rw [List.mem_singleton.mp z];exact Nat.le_refl _
  exact I1.fpOk hle (I1.hok.fresh hle)
theorem im_enumL {elts:List Expr} {kk:Nat} {pp:Pos} (hc:X.calm=true) (hg:Gl X "enumerate") (hm:X.mg "enumerate"=none) (ha:AM X ms [a] ma) (hs:starEach [a] X.env=[(false,eval a X.env)]:=by rfl) :
    IM X ms (.Tuple elts kk pp) (.Call (.Name "enumerate" p) [a] [] pos) (Qk QgM ma) :=
  PI.imp (pi_enumL hg hm ha hs) fun σ H R ⟨F,γ,xs,k1,k2,k3,w⟩=>by
    obtain ⟨qs,e1,k3⟩:=Qg k3
    refine ⟨F,γ,qs,k1,k2,e1,fun vs H1 F1 g1 q1 => ?_⟩
    unfold QgM at k3
    split at k3
    · rename_i ys
      cases k3
      unfold RepL at q1
      obtain ⟨v,t,rfl,q1,qt⟩:=q1
      unfold RepL at qt
      subst qt
      unfold Rep at q1
      obtain ⟨l,us,rfl,sl,rl⟩:=q1
      refine ⟨l,rfl,⟨us,g1.sub.seq sl⟩,w _ _ _ g1 ?_⟩
      refine ⟨fun i H2 hi e2 => ?_,fun i H2 v H3 hi e2 y => ?_,fun H2 e2 => ?_⟩
      · have hv:i < us.length:=by
          rw [rl.length]
          simpa using hi
        exact ⟨us,us[i],e2.seq sl,by simp [hv]⟩
      · obtain ⟨T,x,rfl,hn,rfl,y⟩:=y
        obtain ⟨p,e3,e4⟩:=rl.back (y us (e2.seq sl))
        refine ⟨.tup [pN i,p],?_,fun F2 x1 x2 => ?_⟩
        · simp [e3]
        · refine ⟨upd F2 T (.tup [.int i,x]),.laid x2 hn,?_⟩
          unfold Rep
          exact ⟨T,[.int i,x],rfl,.of Qv,.cons (QZ _) (.cons (e4.mono (x1.trans (Grow.laid (o := .tup [.int i,x]) x2 hn).ext)) .nil)⟩
      · exact ⟨us,e2.seq sl,by rw [rl.length];simp⟩
    · cases k3
end
end L2.PM

noncomputable section
namespace L2.PM
open PySem PySem.Spec PyProof.Rows
section
variable {X:Cx}
end
end L2.PM

noncomputable section
namespace L2.PM
open PySem PySem.Spec PyProof.Rows
section
variable {X:Cx} {pos p:Pos} {x:Str}
end
end L2.PM

noncomputable section
namespace L2.PM
open PySem PySem.Spec PyProof.Rows
section
variable {X:Cx}
end
end L2.PM

noncomputable section
namespace L2.PM
open PySem PySem.Spec PyProof.Rows
section
variable {X:Cx} {tg e:Expr} {ms:List Nat} {m:MEx}
end
end L2.PM

noncomputable section
namespace L2.PM
open PySem PySem.Spec PyProof.Rows PySem.Builtin PySem.Builtin.Str
section
variable {prog:Program} {w:World} {A:Around} {E:Value→Shared→Prop} {s:Shared} {x y:Str} {t u:Tok}
end
section
variable {X:Cx} {o e:Expr} {es:List Expr} {ms ns:List Nat} {m:MEx} {ma:PEnv→Option (List PV)}
end
end L2.PM

noncomputable section
namespace L2.PM
open PySem PySem.Spec PyProof.Rows
section
variable {X:Cx}
variable {e k:Expr} {ms:List Nat} {m mk:MEx} {p2 pos:Pos}
end
end L2.PM

noncomputable section
namespace L2.PM
open PySem PySem.Spec PyProof.Rows
section
variable {X:Cx} {o e:Expr} {es:List Expr} {ms ns:List Nat} {m:MEx} {ma:PEnv→Option (List PV)}
end
end L2.PM

noncomputable section
namespace L2.PM
open PySem
noncomputable def rngD (hi lo:Int):List PV:=(List.range (hi - lo).toNat).map fun k => .int (hi - (k:Nat))
noncomputable def rg3K:PV→PV→PV→Option (List PV)
  | .int i,.int j,.int k=>if k = -1∧rOk i=true∧rOk j=true then some (rngD i j) else none
  | _,_,_=>none
noncomputable def iRg3 (m1 m2 m3:MEx):PEnv→Option (List PV):=fun γ=>(m1 γ).bind fun p=>(m2 γ).bind fun q=>(m3 γ).bind fun r=>rg3K p q r
end L2.PM

noncomputable section
namespace L2.PM
open PySem PySem.Spec PyProof.Rows
noncomputable def Itd (hi:Int) (n:Nat):It:=⟨fun i _=>i < n,fun i H x H'=>H'=H∧x = .int (hi - i),fun i _=>n≤i⟩
theorem Qkp {P:Program} {w:World} {K:PySem.W.Frag} {tg:Expr} (it:Addr) (hi:Int) (n:Nat):Turn P w K tg (Itd hi n) [it] it (fun i h=>IsRangeIter h it (hi + (i:Nat) * (-1)) ((n:Int) - (i:Nat)) (-1)) where
  mem:=List.mem_singleton.mpr rfl
  obj:=fun i h st b hb=>by
    obtain rfl:=List.mem_singleton.mp hb
    exact ⟨_,st,fun v z=>nomatch (show Data.fields _=Data.cell v from z)⟩
  keep:=fun i h h' st k=>k it (List.mem_singleton.mpr rfl) _ st
  item:=by
    intro X hP hw hK hc i pins s σ H E I hf st hg
    subst hP hw hK
    obtain ⟨y0,y1,y2,y3,y4,y5⟩:=hf it (List.mem_singleton.mpr rfl)
    refine (Walks.range (prog:=X.prog) (w:=X.w) (I.ok.hd hc) it hi (-1) n).item i s _ _ hg st fun v h' tk hv st' kk => ?_
    obtain ⟨t,rfl⟩:=hv
    have J:Inv X pins σ H { s with heap:=h',toks:=tk }:=I.turned (fun b o hb e=>kk b o (fun z=>hb (List.mem_singleton.mp z)) e) y0 y1 y3 y4 y5
    refine ⟨_,rfl,Qjp (s:={ s with heap:=h',toks:=tk }) (n := "range_iterator") st' rfl rfl (by decide) ⟨.int (hi - i),H,J,⟨t,?_⟩,⟨rfl,rfl⟩,st',fun b hb=>(hf b hb).1⟩⟩
    rw [show hi + (i:Int) * (-1)=hi - i by omega]
  done:=by
    intro X hP hw hK hc i pins s σ H E I hf st hg
    subst hP hw hK
    obtain ⟨y0,y1,y2,y3,y4,y5⟩:=hf it (List.mem_singleton.mpr rfl)
    exact wpAny_pyNext_range_end (I.ok.hd hc) st (by have z:n≤i:=hg;omega) fun h' eb=>⟨rfl,I.turned (t':=s.toks) (fun b o hb e=>eb b o hb e) y0 y1 y3 y4 y5⟩
  self:=fun _ _ _ _ _ st h=>wpAny_pyIter_rangeiter st h
theorem small_dn {a b:Int} (ha : -(2 ^ 62)≤a) (ha':a < 2 ^ 62) (hb : -(2 ^ 62)≤b) (hb':b < 2 ^ 62):Builtin.Range.small a b (-1)=true∧Builtin.Range.rangeSize a b (-1)=((a - b).toNat:Int):=by
  have e:Builtin.Range.rangeSize a b (-1)=if a > b then a - b else 0:=by
    unfold Builtin.Range.rangeSize
    simp only [show ¬ ((-1:Int) > 0) by decide,if_false,show (-(-1):Int)=1 from rfl,Int.ediv_one]
    split <;> omega
  refine ⟨?_,by rw [e];split <;> omega⟩
  unfold Builtin.Range.small
  rw [e]
  simp only [Builtin.Range.rangeFitsLong,Bool.and_eq_true,Bool.or_eq_true,decide_eq_true_eq,beq_iff_eq,show ¬ ((-1:Int) > 0) by decide,if_false]
  split <;> omega
section
variable {X:Cx} {e a b c:Expr} {es:List Expr} {ms ns ls:List Nat} {m m1 m2 m3:MEx} {ma:PEnv→Option (List PV)} {pos p p1 p2 p3 pos':Pos} {x:Str} {id T:String} {tg:Expr}
theorem pi_down {ta:TA} (hg:Gl X "range") (hm:X.mg "range"=none) (ha:PA X [a,b,c] ta) (hs:starEach [a,b,c] X.env=[(false,eval a X.env),(false,eval b X.env),(false,eval c X.env)]:=by rfl) (hs2:starEach [b,c] X.env=[(false,eval b X.env),(false,eval c X.env)]:=by rfl) :
    PI X tg (.Call (.Name "range" p) [a,b,c] [] pos) (fun σ H R=>ta σ H fun vs H1=>∃ i j:Int,vs=[.int i,.int j,.int (-1)]∧(-(2 ^ 62)≤i∧i < 2 ^ 62 ∧ -(2 ^ 62)≤j∧j < 2 ^ 62)∧R (Itd i (i - j).toNat) H1):=by
  intro pins s σ H R I h
  refine Call_ (QbW I hg hm boot_range (PyProof.Rows.callWith_type1 (thn (ha pos pins s σ H _ I h) fun us s1 ⟨vs,H1,I1,r1,q1⟩ => ?_) (by rw [hs,hs2]) (by rw [hs2];rfl)))
  obtain ⟨i,j,rfl,⟨q1,q2,q3,q4⟩,q⟩:=q1
  cases r1 with
  | cons r rr=>cases rr with
    | cons r' rr=>cases rr with
      | cons r'' rr =>
        cases rr
        obtain ⟨t,rfl⟩:=r
        obtain ⟨t',rfl⟩:=r'
        obtain ⟨t'',rfl⟩:=r''
        obtain ⟨sm,sz⟩:=small_dn q1 q2 q3 q4
        refine call_range_3 (by decide) ?_ (Or.inl (PyProof.noPylong_small (by decide)))
        refine wpAny_pyIter_range (IsRange.new ..) sm ?_
        have J:Inv X pins σ H1 { s1 with heap:=s1.heap.push { cls := .type "range",data := .fields #[.int i t,.int j t',.int (-1) t''] },toks:=s1.toks }:=I1.kept fun b o e=>Heap.get?_push_of_some _ e
        refine ⟨(s1.heap.push { cls := .type "range",data := .fields #[.int i t,.int j t',.int (-1) t''] }).objs.size,[(s1.heap.push { cls := .type "range",data := .fields #[.int i t,.int j t',.int (-1) t''] }).objs.size],_,_,H1,rfl,
          J.kept (t':=s1.toks) fun b o e=>Heap.get?_push_of_some _ e,Qkp _ i (i - j).toNat,?_,fun b hb => ?_,q⟩
        · show IsRangeIter _ _ (i + ((0:Nat):Int) * (-1)) ((((i - j).toNat:Nat):Int) - ((0:Nat):Int)) (-1)
          rw [show i + ((0:Nat):Int) * (-1)=i by simp,show (((i - j).toNat:Nat):Int) - ((0:Nat):Int)=Builtin.Range.rangeSize i j (-1) by rw [sz];simp]
          exact Heap.get?_push_size _ rfl
        · obtain rfl:=List.mem_singleton.mp hb
          exact J.fpOk (Nat.le_refl _) (J.hok.fresh (Nat.le_refl _))
theorem itd_rep {K:PySem.W.Frag} {F:Hp} (hi lo:Int):ItRep K (Itd hi (hi - lo).toNat) F (rngD hi lo):=by
  have hl:(rngD hi lo).length=(hi - lo).toNat:=by simp [rngD]
  refine ⟨fun i H h e => ?_,fun i H x H' h e y => ?_,fun H e => ?_⟩
  · rw [hl] at h;exact h
  · obtain ⟨rfl,rfl⟩:=y
    rw [hl] at h
    exact ⟨.int (hi - i),by simp [rngD,h],fun F1 x1 x2=>⟨F1,.refl x2,QZ _⟩⟩
  · show (hi - lo).toNat≤_
    rw [hl];exact Nat.le_refl _
theorem rg3_get {p q r:PV} {xs:List PV} (h:rg3K p q r=some xs):∃ i j k,p = .int i∧q = .int j∧r = .int k∧(if k = -1∧rOk i=true∧rOk j=true then some (rngD i j) else none)=some xs:=by
  cases p with
  | int i =>
    cases q with
    | int j =>
      cases r with
      | int k=>exact ⟨i,j,k,rfl,rfl,rfl,h⟩
      | _=>cases h
    | _=>cases h
  | _=>cases h
theorem QiX (hg:Gl X "range") (hm:X.mg "range"=none) (ha:AM X ms [a,b,c] (Qe m1 (Qe m2 (Qe m3 aNil)))) (hs:starEach [a,b,c] X.env=[(false,eval a X.env),(false,eval b X.env),(false,eval c X.env)]:=by rfl) (hs2:starEach [b,c] X.env=[(false,eval b X.env),(false,eval c X.env)]:=by rfl) :
    IMR X ms tg (.Call (.Name "range" p) [a,b,c] [] pos) (iRg3 m1 m2 m3) :=
  PI.imp (pi_down hg hm ha hs hs2) fun σ H R ⟨F,γ,xs,h1,h2,h3,w⟩=>by
    obtain ⟨p,e1,h4⟩:=Qg h3
    obtain ⟨p',e1',h5⟩:=Qg h4
    obtain ⟨p'',e1'',h6⟩:=Qg h5
    clear h3 h4 h5
    refine ⟨F,γ,[p,p',p''],h1,h2,by simp [Qe,aNil,e1,e1',e1''],fun vs H' F' g q => ?_⟩
    unfold RepL at q
    obtain ⟨v,t,rfl,q,qt⟩:=q
    unfold RepL at qt
    obtain ⟨v',t',rfl,q',qt⟩:=qt
    unfold RepL at qt
    obtain ⟨v'',t'',rfl,q'',qt⟩:=qt
    unfold RepL at qt
    subst qt
    obtain ⟨i,j,k,rfl,rfl,rfl,h3⟩:=rg3_get h6
    obtain ⟨⟨ek,ci,cj⟩,rfl⟩:=QS h3
    subst ek
    unfold Rep at q q' q''
    subst q q' q''
    exact ⟨i,j,rfl,⟨(QbL ci).1,(QbL ci).2,(QbL cj).1,(QbL cj).2⟩,w _ _ g.same fun F=>itd_rep i j⟩
end
open PySem.AutoSeq1 (wpAny_loadPart')
section
variable {X:Cx} {e a b c:Expr} {es:List Expr} {ms ns ls:List Nat} {m m1 m2 m3:MEx} {ma:PEnv→Option (List PV)} {pos p p1 p2 p3 pos':Pos} {x:Str} {id T:String} {tg:Expr}
end
structure FunD (K:PySem.W.Frag) (x qual:Str) (st:Stmt) (f:Addr) (fd:FuncData) (j:Int):Prop where
  ex:∃ (T:Addr) (oc:Value) (od:Option Addr) (kV doc pm:Value) (an:Option Addr) (cdv ct:Value) (osl:Array (Option Value)),
    fd=PySem.W.fnOf x qual (Qp st) (Ql st) (Qc st) (.ref T) kV doc pm an cdv ct∧K.lookup f=some ⟨oc,od,.func fd,osl⟩∧PySem.W.codeIn K cdv qual=true ∧
    ∃ (tc:Value) (td:Option Addr) (tk:Tok) (tn:Nat) (ts:Array (Option Value)),K.lookup T=some ⟨tc,td,.seq #[.int j tk] tn,ts⟩
  kp:PySem.W.keepIn K (.ref f)=true
theorem funD_mk {K:PySem.W.Frag} {x qual:Str} {st:Stmt} {f T:Addr} {oc tc:Value} {od an td:Option Addr} {osl ts:Array (Option Value)} {kV doc pm cdv ct:Value} {j:Int} {tk:Tok} {tn:Nat} (l:K.lookup f=some ⟨oc,od,.func (PySem.W.fnOf x qual (Qp st) (Ql st) (Qc st) (.ref T) kV doc pm an cdv ct),osl⟩)
    (c:PySem.W.codeIn K cdv qual=true) (k:PySem.W.keepIn K (.ref f)=true) (t:K.lookup T=some ⟨tc,td,.seq #[.int j tk] tn,ts⟩):FunD K x qual st f (PySem.W.fnOf x qual (Qp st) (Ql st) (Qc st) (.ref T) kV doc pm an cdv ct) j :=
  ⟨⟨T,oc,od,kV,doc,pm,an,cdv,ct,osl,rfl,l,c,tc,td,tk,tn,ts,t⟩,k⟩
section
variable {P:Program} {w:World} {K:PySem.W.Frag} {mg:Str→Option Value} {base:Heap}
theorem FunD.ok {x qual:Str} {st:Stmt} {f:Addr} {fd:FuncData} {j:Int} {N ps:List Str} {k:Nat} {sp:Sp} (F:FunD K x qual st f fd j) (S:FnScope N ps (Qc st)) (len:∀ vs H Q E,sp vs H Q E→vs.length=ps.length)
    (hbody:∀ (cdv:Value) (A:Around) (outer:List Env) (s:Shared) (H:Hp) (vs:List V) (Q:VK) (E:XK),Room k (A.deeper (envOfC qual (Qc st) s.heap.objs.size f cdv))→sp vs H Q E →
      ∃ t,PSs (cxOf CX0 P w K mg base N qual (Qc st) f cdv A outer s H E).nox (Ql st) t∧t { nx:=fun _ H'=>Q .non H',rt:=Q } (Qab N vs) H):FnOk P w K mg base CX0 (k + 1) f fd ps sp:=by
  obtain ⟨T,oc,od,kV,doc,pm,an,cdv,ct,osl,rfl,lk,hcd,_⟩:=F.ex
  refine fn_of lk hcd S len fun A outer s H vs Q E hr hsp => ?_
  obtain ⟨t,h,q⟩:=hbody cdv A outer s H vs Q E hr hsp
  exact ⟨t,h.nox,q⟩
theorem fnMD {x qual:Str} {st:Stmt} {f:Addr} {fd:FuncData} {j:Int} {N ps:List Str} {k n:Nat} {m:MSt} (Fn:FunD K x qual st f fd j) (Sc:FnScope N ps (Qc st)) (hn:ps.length=n)
    (hbody:∀ (cdv:Value) (A:Around) (outer:List Env) (s:Shared) (H:Hp) (E:XK),Room k (A.deeper (envOfC qual (Qc st) s.heap.objs.size f cdv)) →
      SMs (cxOf CX0 P w K mg base N qual (Qc st) f cdv A outer s H E).nox (Ql st) m):FnOk P w K mg base CX0 (k + 1) f fd ps (spM K n (runV N.length n m)):=by
  refine Fn.ok Sc (fun vs H Q E h=>by rw [h.1,hn]) fun cdv A outer s H vs Q E hr h => ?_
  refine ⟨_,hbody cdv A outer s H E hr,?_⟩
  obtain ⟨hl,F,qs,r,h1,h2,h3,wv⟩:=h
  unfold runV at h3
  have hq:qs.length=n:=by rw [← h2.length];exact hl
  rw [if_pos hq] at h3
  obtain ⟨o,e1,e2⟩:=Qg h3
  refine ⟨H,F,F,_,o,QcD h1 h2,e1,?_⟩
  cases o with
  | nx γ=>cases e2;exact fun σ' H' F' S=>wv .non H' F' S.gr QjO
  | rt p=>cases e2;exact fun v H' F' g q=>wv v H' F' g q
  | ro xs=>cases e2;exact fun a vs H' F' g n nF hH q=>wv.of_lst a vs H' F' g n nF hH q
  | bk γ=>cases e2
  | ct γ=>cases e2
theorem FunD.binds {x qual:Str} {st:Stmt} {f:Addr} {fd:FuncData} {j:Int} {ps:List Str} (F:FunD K x qual st f fd j)
    (h:∀ (dV kV doc pm:Value) (an:Option Addr) (cdv ct d:Value) (us:List Value),us.length=ps.length→∃ k:Option (Array Value)→Sem (List (Str×Value)),bindArgs (PySem.W.fnOf x qual (Qp st) (Ql st) (Qc st) dV kV doc pm an cdv ct) ⟨us,[]⟩=seqItems? dV >>= k∧k (some #[d])=pure (ps.zip us)):YV K fd ps []:=by
  obtain ⟨T,oc,od,kV,doc,pm,an,cdv,ct,osl,rfl,lk,hcd,tc,td,tk,tn,ts,t⟩:=F.ex
  intro s us X hl
  rw [List.append_nil] at hl ⊢
  obtain ⟨k,e1,e2⟩:=h (.ref T) kV doc pm an cdv ct (.int j tk) us hl
  exact BindsTo.of_defaults rfl (X _ _ t) rfl e1 e2
theorem FunD.bindsD {x qual:Str} {st:Stmt} {f:Addr} {fd:FuncData} {j:Int} {ps:List Str} (F:FunD K x qual st f fd j)
    (h:∀ (dV kV doc pm:Value) (an:Option Addr) (cdv ct d:Value) (us:List Value),us.length + 1=ps.length→∃ k:Option (Array Value)→Sem (List (Str×Value)),bindArgs (PySem.W.fnOf x qual (Qp st) (Ql st) (Qc st) dV kV doc pm an cdv ct) ⟨us,[]⟩=seqItems? dV >>= k∧k (some #[d])=pure (ps.zip (us++[d]))) :
    ∃ tk:Tok,YV K fd ps [.int j tk]:=by
  obtain ⟨T,oc,od,kV,doc,pm,an,cdv,ct,osl,rfl,lk,hcd,tc,td,tk,tn,ts,t⟩:=F.ex
  refine ⟨tk,fun s us X hl => ?_⟩
  obtain ⟨k,e1,e2⟩:=h (.ref T) kV doc pm an cdv ct (.int j tk) us (by simpa using hl)
  exact BindsTo.of_defaults rfl (X _ _ t) rfl e1 e2
end
noncomputable def CalD (P:Program) (w:World) (K:PySem.W.Frag) (mg:Str→Option Value) (base:Heap) (k:Nat) (x:Str) (n:Nat) (j:Int) (g:List PV→Option PV):Prop :=
  ∃ f fd ps,FnOk P w K mg base CX0 k f fd ps (spM K n g)∧mg x=some (.ref f)∧PySem.W.keepIn K (.ref f)=true∧YV K fd ps []∧∃ tk:Tok,YV K fd ps [.int j tk]
section
variable {X:Cx} {e:Expr} {es:List Expr} {ms:List Nat} {ma:PEnv→Option (List PV)} {x:Str} {p pos:Pos} {k n:Nat} {j:Int} {m:MEx}
theorem em_calD {g:List PV→Option PV} (c:CalD X.prog X.w X.K X.mg X.base k x n j g) (hn:∀ ps r,g ps=some r→ps.length=n) (hr:Room k X.A) (hg:Gl X x)
    (ha:AM X ms [e] (Qe m aNil)) (hdb:(x==("__debug__":Str))=false:=by decide) (he:starEach [e] X.env=(false,eval e X.env) :: starEach [] X.env:=by rfl) (hpl:(backTo pos (starEach [] X.env)).any (·.1)=false:=by rfl) :
    EM X ms (.Call (.Name x p) [e] [] pos) (Qk g (Qe m (Qe (mC (.int j)) aNil))):=by
  obtain ⟨f,fd,ps,F,hm,hk,_,tk,hb⟩:=c
  refine PE.imp (Qgv (E:=E0) (dvs:=[.int j]) F hr hg hm hk hb (.cons ⟨tk,rfl⟩ .nil) Qhb ha hdb he hpl) fun σ H Q h => ?_
  obtain ⟨F,γ,r,k1,k2,k3,w⟩:=h
  obtain ⟨xs,e1,k3⟩:=Qg k3
  obtain ⟨q,e0,e1⟩:=Qg e1
  have e1:some [q,.int j]=some xs:=e1
  cases e1
  refine ⟨F,γ,[q],k1,k2,by simp [Qe,aNil,e0],fun vs H1 F1 g1 q1 => ?_⟩
  dsimp only
  have q2:RepL X.K F1 [q,.int j] (vs++[.int j]):=q1.append (.cons (QZ _) .nil)
  exact ⟨by rw [q2.length];exact hn _ _ k3,F1,_,r,g1.sub,q2,k3,w.go g1⟩
end
end L2.PM

noncomputable section
namespace L2.PM
open PySem PySem.Spec PyProof.Rows
section
variable {prog:Program} {w:World} {A:Around} {E:Value→Shared→Prop} {s:Shared} {z TI TO i1 i2:Addr} {f1 f2:List Addr} {n1 n2 k1 k2:Nat} {P1 P2:Nat→Value→Prop} {S1 S2:Nat→Heap→Prop}
end
section
variable {X:Cx} {e a b c:Expr} {es:List Expr} {ms ns ls:List Nat} {m m1 m2 m3:MEx} {ma:PEnv→Option (List PV)} {pos p p1 p2 p3 pos':Pos} {x:Str} {id T:String} {tg:Expr}
end
end L2.PM

noncomputable section
namespace L2.PM
open PySem PySem.Spec PyProof.Rows
section
variable {prog:Program} {w:World} {A:Around} {E:Value→Shared→Prop} {s:Shared}
noncomputable def SetLS (prog:Program) (w:World) (L:Bool) (h:Heap) (a:Addr) (M:List Str):Prop :=
  ∃ o es ep t,h.get? a=some o∧o.ExactSet∧o.data = .set es ep t∧ElemsOf (strKind prog w) es.toList∧(∀ k,k∈M↔∃ e∈es.toList,(strKind prog w).is k e.2=true) ∧
    es.size < scanBound∧t.fits es.size=true∧es.size=M.length∧M.Nodup∧Kept L t
theorem SetLS.at {L:Bool} {h h':Heap} {a:Addr} {M:List Str} (x:SetLS prog w L h a M) (e:∀ o,h.get? a=some o→h'.get? a=some o):SetLS prog w L h' a M:=by
  obtain ⟨o,es,ep,t,ho,r⟩:=x
  exact ⟨o,es,ep,t,e o ho,r⟩
end
end L2.PM

noncomputable section
namespace L2.PM
open PySem PySem.Spec PyProof.Rows
section
variable {prog:Program} {w:World} {A:Around} {E:Value→Shared→Prop} {s:Shared}
end
end L2.PM

noncomputable section
namespace L2.PM
open PySem PySem.Spec PyProof.Rows
section
variable {X:Cx} {e a b c:Expr} {es:List Expr} {ms ns ls:List Nat} {m m1 m2 m3:MEx} {ma:PEnv→Option (List PV)} {pos p p1 p2 p3 pos':Pos} {x:Str} {id T:String}
end
end L2.PM

noncomputable section
namespace L2.PM
open PySem PySem.Spec PyProof.Rows
section
variable {X:Cx} {pos p:Pos} {x:Str}
theorem star_str {i:Str} {j:Nat} {q:Pos} {es:List Expr} {env:Env}:starEach (.Constant (.str i) j q :: es) env=(false,eval (.Constant (.str i) j q) env) :: starEach es env:=rfl
theorem Qbd {es:List Expr} {ma:PEnv→Option (List PV)} {i:Str} {j:Nat} {q:Pos} (hr:AM X [] es ma):AM X [] (.Constant (.str i) j q :: es) (Qe (mC (.str i)) ma):=Qb Yb hr star_str
end
end L2.PM

noncomputable section
namespace L2.PM
open PySem PySem.Spec PyProof.Rows
noncomputable def orH (B E:Hp):Hp:=fun b=>match B b with
  | some o=>some o
  | none=>E b
theorem QeR {B E:Hp}:Same B (orH B E):=fun b o h=>by unfold orH;rw [h]
theorem Qbh {B E:Hp} {b:Addr} {o:HO} (n:B b=none) (h:E b=some o):orH B E b=some o:=by unfold orH;rw [n];exact h
theorem Xw {B E:Hp} {b:Addr} (h:orH B E b=none):B b=none∧E b=none:=by
  unfold orH at h
  cases q:B b with
  | none=>rw [q] at h;exact ⟨rfl,h⟩
  | some o=>rw [q] at h;cases h
theorem QcA {B E:Hp} {b:Addr} (h1:B b=none) (h2:E b=none):orH B E b=none:=by unfold orH;rw [h1];exact h2
theorem QaH {B E:Hp} {b:Addr} {o:HO} (h:orH B E b=some o):B b=some o∨(B b=none∧E b=some o):=by
  unfold orH at h
  cases q:B b with
  | none=>rw [q] at h;exact .inr ⟨rfl,h⟩
  | some u=>rw [q] at h;exact .inl h
noncomputable def QaB (γ:PEnv) (j:Nat):Option Addr:=match γ[j]? with
  | some (.fz (.opq a))=>some a
  | _=>none
theorem Qbx {γ:PEnv} {j:Nat} {a:Addr} (h:QaB γ j=some a):γ[j]?=some (.fz (.opq a)):=by
  unfold QaB at h
  split at h
  · rename_i b q
    cases h
    exact q
  · cases h
section
variable {τ:Type}
structure SX (K:PySem.W.Frag) (P:Hp→Hp→Addr→τ→Prop) (j:Nat) (B F₀ F E:Hp) (a:Addr) (σ:St) (H:Hp) (γ:PEnv) (t:τ):Prop where
  sr:SR K (orH B E) F₀ F σ H γ
  at_:QaB γ j=some a
  own:P F E a t
  db:∀ b o,E b=some o→B b=none
  df:∀ b o,E b=some o→F b=none
inductive OutX (τ:Type) where
  | nx (γ:PEnv) (t:τ) | rt (p:PV) | ro (xs:List PV) | bk (γ:PEnv) (t:τ) | ct (γ:PEnv) (t:τ)
noncomputable abbrev MX (τ:Type):=PEnv→τ→Option (OutX τ)
noncomputable def OutXOk (K:PySem.W.Frag) (P:Hp→Hp→Addr→τ→Prop) (j:Nat) (B F₀:Hp) (a:Addr) (D:Ends):OutX τ→Prop
  | .nx γ t=>∀ σ H F E,SX K P j B F₀ F E a σ H γ t→D.nx σ H
  | .rt p=>∀ v H F,Grow F₀ B F H→Rep K F p v→D.rt v H
  | .ro xs=>∀ c vs H F,Grow F₀ B F H→B c=none→F c=none→H c=some (.lst vs)→RepL K F xs vs→D.rt (.ref c) H
  | .bk γ t=>∀ σ H F E,SX K P j B F₀ F E a σ H γ t→D.bk σ H
  | .ct γ t=>∀ σ H F E,SX K P j B F₀ F E a σ H γ t→D.ct σ H
noncomputable def tMX (K:PySem.W.Frag) (P:Hp→Hp→Addr→τ→Prop) (j:Nat) (m:MX τ):TS:=fun D σ H=>∃ B F₀ F E a γ t o,SX K P j B F₀ F E a σ H γ t∧m γ t=some o∧OutXOk K P j B F₀ a D o
noncomputable def XM (X:Cx) (P:Hp→Hp→Addr→τ→Prop) (j:Nat) (st:Stmt) (m:MX τ):Prop:=PS X st (tMX X.K P j m)
noncomputable def XMs (X:Cx) (P:Hp→Hp→Addr→τ→Prop) (j:Nat) (sts:List Stmt) (m:MX τ):Prop:=PSs X sts (tMX X.K P j m)
noncomputable def PMono (P:Hp→Hp→Addr→τ→Prop):Prop:=∀ (F F' E:Hp) (a:Addr) (t:τ),Same F F'→P F E a t→P F' E a t
variable {K:PySem.W.Frag} {P:Hp→Hp→Addr→τ→Prop} {j:Nat} {B F₀ F F' E H H':Hp} {a:Addr} {σ σ':St} {γ γ':PEnv} {t:τ}
theorem SX.next (S:SX K P j B F₀ F E a σ H γ t) (mono:PMono P) (S':SR K (orH B E) F₀ F' σ' H' γ') (hj:QaB γ' j=QaB γ j) (hF:Same F F'):SX K P j B F₀ F' E a σ' H' γ' t:=by
  refine ⟨S',hj.trans S.at_,mono _ _ _ _ _ hF S.own,S.db,fun b o e => ?_⟩
  cases q:F' b with
  | none=>rfl
  | some u =>
    rcases S'.fb b u q with z | z
    · have:=S.sr.f0 b u z
      rw [S.df b o e] at this;cases this
    · rw [Qbh (S.db b o e) e] at z;cases z
end
end L2.PM

noncomputable section
namespace L2.PM
open PySem PySem.Spec PyProof.Rows
section
variable {τ:Type} {X:Cx} {K:PySem.W.Frag} {P:Hp→Hp→Addr→τ→Prop} {j:Nat} {st:Stmt} {sts:List Stmt} {e c:Expr} {ms:List Nat} {pos p2:Pos}
noncomputable def xSeq (s1 s2:MX τ):MX τ:=fun γ t=>(s1 γ t).bind fun o=>match o with
  | .nx γ' t'=>s2 γ' t'
  | o=>some o
theorem QbK {s1 s2:MX τ} (h:XM X P j st s1) (hr:XMs X P j sts s2):XMs X P j (st :: sts) (xSeq s1 s2):=PSs.imp (QhE h hr) fun D σ H ⟨B,F₀,F,E,a,γ,t,o,S,e,ok⟩=>by
  obtain ⟨o1,e1,e2⟩:=Qg e
  refine ⟨B,F₀,F,E,a,γ,t,o1,S,e1,?_⟩
  cases o1 with
  | nx γ' t'=>exact fun σ' H' F' E' S'=>⟨B,F₀,F',E',a,γ',t',o,S',e2,ok⟩
  | rt p=>cases e2;exact ok
  | ro xs=>cases e2;exact ok
  | bk γ' t'=>cases e2;exact ok
  | ct γ' t'=>cases e2;exact ok
theorem Qff {s1:MX τ} (h:XM X P j st s1):XMs X P j [st] s1:=QjQ h
noncomputable def Reads' (K:PySem.W.Frag) (P:Hp→Hp→Addr→τ→Prop) (rd:τ→Option PV):Prop:=∀ (F E:Hp) (a:Addr) (t:τ) (p:PV),(∀ b o,E b=some o→F b=none)→P F E a t→rd t=some p→Rep K (orH F E) p (.ref a)
theorem SX.see {B F₀ F E H:Hp} {a:Addr} {σ:St} {γ:PEnv} {t:τ} (S:SX K P j B F₀ F E a σ H γ t) {rd:τ→Option PV} (hr:Reads' K P rd) {p:PV} (hp:rd t=some p) (ms:List Nat):∃ F1,Same F1 H∧ERep K F1 σ (γ.set j (.fz p)) ms:=by
  obtain ⟨F1,S1,x1,er⟩:=S.sr.see (ms.filter (· != j))
  have hE:∀ b o,E b=some o→F1 b=none:=fun b o e=>by
    cases q:F1 b with
    | none=>rfl
    | some u =>
      rcases S1.fb b u q with z | z
      · have:=S.sr.f0 b u z
        rw [S.df b o e] at this;cases this
      · rw [Qbh (S.db b o e) e] at z;cases z
  have hj:=Qbx S.at_
  have hjl:j < γ.length:=(List.getElem?_eq_some_iff.mp hj).1
  obtain ⟨v,hv,rv⟩:=S.sr.fz j _ hj
  unfold Rep at rv
  subst rv
  refine ⟨orH F1 E,fun b o e => ?_,fun i hi q e => ?_⟩
  · rcases QaH e with z | ⟨z1,z2⟩
    · exact S1.sub b o z
    · exact S.sr.base b o (Qbh (S.db b o z2) z2)
  · by_cases z:j=i
    · subst z
      unfold getV at e
      rw [List.getElem?_set_self hjl] at e
      cases e
      have h0:=hr F E a t p S.df S.own hp
      refine ⟨.ref a,hv,h0.mono fun b o e => ?_⟩
      rcases QaH e with z | ⟨z1,z2⟩
      · exact QeR b o (x1 b o z)
      · exact Qbh (hE b o z2) z2
    · unfold getV at e
      rw [List.getElem?_set_ne z] at e
      obtain ⟨v,k1,k2⟩:=er i (List.mem_filter.mpr ⟨hi,by simpa using fun h=>z h.symm⟩) q e
      exact ⟨v,k1,k2.mono QeR⟩
theorem SX.same {B F₀ F E H H':Hp} {a:Addr} {σ:St} {γ:PEnv} {t:τ} (S:SX K P j B F₀ F E a σ H γ t) (e:Same H H'):SX K P j B F₀ F E a σ H' γ t:=⟨S.sr.same e,S.at_,S.own,S.db,S.df⟩
end
end L2.PM

noncomputable section
namespace L2.PM
open PySem PySem.Spec PyProof.Rows
theorem QcF {α:Type} {c:Prop} [Decidable c] {a:Option α} {r:α} (h:(if c then a else none)=some r):c∧a=some r:=by
  by_cases z:c
  · rw [if_pos z] at h;exact ⟨z,h⟩
  · rw [if_neg z] at h;cases h
noncomputable def QbI (K:PySem.W.Frag) (E:Hp) (a:Addr):List (List PV)→List V→Prop
  | [],vs=>vs=[]
  | xs :: r,vs=>∃ h us t,vs = .ref h :: t∧h≠a∧E h=some (.lst us)∧RepL K (fun _=>none) xs us∧QbI K E a r t
theorem QbI.length {K:PySem.W.Frag} {E:Hp} {a:Addr}:∀ {xss:List (List PV)} {vs:List V},QbI K E a xss vs→vs.length=xss.length
  | [],_,h=>by unfold QbI at h;subst h;rfl
  | xs :: r,_,h=>by
    unfold QbI at h
    obtain ⟨h1,us,t,rfl,_,_,_,h5⟩:=h
    simp [QbI.length h5]
theorem QbI.snoc {K:PySem.W.Frag} {E E':Hp} {a:Addr} (hE:∀ b o,b≠a→E b=some o→E' b=some o) {c:Addr} {xs:List PV} {us:List V} (hc:c≠a) (h2:E' c=some (.lst us)) (h3:RepL K (fun _=>none) xs us):∀ {xss:List (List PV)} {vs:List V},QbI K E a xss vs→QbI K E' a (xss++[xs]) (vs++[.ref c])
  | [],_,h=>by
    unfold QbI at h
    subst h
    exact ⟨c,us,[],rfl,hc,h2,h3,rfl⟩
  | ys :: r,_,h=>by
    unfold QbI at h
    obtain ⟨h1,ws,t,rfl,k2,k3,k4,k5⟩:=h
    exact ⟨h1,ws,_,rfl,k2,hE _ _ k2 k3,k4,QbI.snoc hE hc h2 h3 k5⟩
section
variable {X:Cx} {j:Nat} {st:Stmt} {sts:List Stmt} {e c:Expr} {ms ns:List Nat} {pos p2 p3 apos cpos:Pos} {x:Str}
end
end L2.PM

noncomputable section
namespace L2.PM
open PySem PySem.Spec PyProof.Rows
section
variable {X:Cx} {o e:Expr} {es:List Expr} {ms ns:List Nat} {m:MEx} {ma:PEnv→Option (List PV)} {C:Addr} {f:Str} {pos apos:Pos}
theorem Qee {K:PySem.W.Frag} {F:Hp} {f:Str}:∀ {ks:List Str} {ps:List PV} {vs:List V} {p:PV},ks.length=vs.length→RepL K F ps vs→(ks.zip ps).lookup f=some p→∃ v,(ks.zip vs).lookup f=some v∧Rep K F p v
  | [],_,_,_,_,_,h=>by simp at h
  | k :: ks,[],_,_,_,_,h=>by simp at h
  | k :: ks,q :: ps,vs,p,hl,hr,h=>by
    unfold RepL at hr
    obtain ⟨v,t,rfl,h2,h3⟩:=hr
    simp only [List.zip_cons_cons,List.lookup_cons] at h ⊢
    cases hk:f==k with
    | true =>
      rw [hk] at h
      cases h
      exact ⟨v,rfl,h2⟩
    | false =>
      rw [hk] at h
      exact Qee (by simpa using hl) h3 h
theorem Qdv {f:Str}:∀ {ks:List Str} {vs:List V},ks.contains f=false→(ks.zip vs).lookup f=none
  | [],_,_=>by simp
  | k :: ks,[],_=>by simp
  | k :: ks,v :: vs,h=>by
    rw [List.contains_cons,Bool.or_eq_false_iff] at h
    simp only [List.zip_cons_cons,List.lookup_cons,h.1]
    exact Qdv h.2
variable {k n:Nat} {fa:Addr} {fd:FuncData} {ps:List Str}
end
end L2.PM

noncomputable section
namespace L2.PM
open PySem PySem.Spec PyProof.Rows
structure GrowX (F E H F' E' H':Hp):Prop where
  ext:Same F F'
  sub:Same F' H'
  esub:Same E' H'
  same:∀ b o,H b=some o→E b=none→H' b=some o
  new:∀ b o,F' b=some o→F b=some o∨H b=none∨E b≠none
  enew:∀ b o,E' b=some o→E b≠none∨H b=none
  dj:∀ b o,E' b=some o→F' b=none
section
variable {τ:Type}
noncomputable def spX (K:PySem.W.Frag) (P:Hp→Hp→Addr→τ→Prop) (n:Nat) (g:Addr→List PV→τ→Option τ):Sp:=fun vs H Q _=>vs.length=n∧∃ F E a t us qs t',vs = .ref a :: us∧Same F H∧Same E H∧(∀ b o,E b=some o→F b=none)∧P F E a t∧RepL K F qs us∧g a qs t=some t' ∧
  ∀ H' F' E',GrowX F E H F' E' H'→P F' E' a t'→Q .non H'
noncomputable def outX:OutX τ→Option τ
  | .nx _ t=>some t
  | _=>none
noncomputable def runX (N n:Nat) (m:MX τ) (a:Addr) (qs:List PV) (t:τ):Option τ:=if qs.length + 1=n then (m (ZM N (.opq a :: qs)) t).bind outX else none
noncomputable def minH (H E:Hp):Hp:=fun b=>match E b with
  | none=>H b
  | some _=>none
theorem minH_l {H E:Hp} {b:Addr} {o:HO} (h:minH H E b=some o):H b=some o∧E b=none:=by
  unfold minH at h
  cases q:E b with
  | none=>rw [q] at h;exact ⟨h,rfl⟩
  | some u=>rw [q] at h;cases h
theorem minH_of {H E:Hp} {b:Addr} {o:HO} (h:H b=some o) (n:E b=none):minH H E b=some o:=by unfold minH;rw [n];exact h
theorem QfB {H E:Hp} {b:Addr} (h:minH H E b=none):E b≠none∨H b=none:=by
  unfold minH at h
  cases q:E b with
  | none=>rw [q] at h;exact .inr h
  | some u=>exact .inl fun z=>by cases z
variable {P':Program} {w:World} {K:PySem.W.Frag} {mg:Str→Option Value} {base:Heap} {P:Hp→Hp→Addr→τ→Prop}
theorem fnX {x qual:Str} {st:Stmt} {f:Addr} {fd:FuncData} {N ps:List Str} {k n:Nat} {m:MX τ} (Fn:Fun K x qual st f fd) (Sc:FnScope N ps (Qc st)) (hn:ps.length=n)
    (hbody:∀ (cdv:Value) (A:Around) (outer:List Env) (s:Shared) (H:Hp) (E:XK),Room k (A.deeper (envOfC qual (Qc st) s.heap.objs.size f cdv)) →
      XMs (cxOf CX0 P' w K mg base N qual (Qc st) f cdv A outer s H E).nox P 0 (Ql st) m):FnOk P' w K mg base CX0 (k + 1) f fd ps (spX K P n (runX N.length n m)):=by
  refine Fn.ok Sc (fun vs H Q E h=>by rw [h.1,hn]) fun cdv A outer s H vs Q E hr h => ?_
  refine ⟨_,hbody cdv A outer s H E hr,?_⟩
  obtain ⟨hl,F,G,a,t,us,qs,t',rfl,h1,h2,h3,h4,h5,h6,wv⟩:=h
  unfold runX at h6
  have hq:qs.length + 1=n:=by rw [← h5.length];exact hl
  rw [if_pos hq] at h6
  obtain ⟨o,e1,e2⟩:=Qg h6
  have T:SR K H F F (Qab N (.ref a :: us)) H (ZM N.length (.opq a :: qs)):=QcD h1 (.cons (by unfold Rep;rfl) h5)
  have hsub:∀ b o,orH (minH H G) G b=some o→H b=some o:=fun b o e=>by
    rcases QaH e with z | ⟨_,z⟩
    · exact (minH_l z).1
    · exact h2 b o z
  refine ⟨minH H G,F,F,G,a,_,t,o,⟨⟨T.sub,hsub,T.f0,fun b o e => .inl e,T.len,T.fz,fun i xs e => ?_,T.dj⟩,?_,h4,fun b o e => ?_,h3⟩,e1,?_⟩
  · obtain ⟨c,vs,k1,k2,k3,k4,k5⟩:=T.ow i xs e
    rw [k5] at k2;cases k2
  · unfold QaB ZM
    rfl
  · unfold minH;rw [e]
  · cases o with
    | nx γ t2 =>
      cases e2
      intro σ' H' F' E' S
      refine wv H' F' E' ⟨S.sr.f0,S.sr.sub,fun b o e=>S.sr.base b o (Qbh (S.db b o e) e),fun b o e n=>S.sr.base b o (QeR b o (minH_of e n)),fun b o e => ?_,fun b o e=>QfB (S.db b o e),S.df⟩ S.own
      rcases S.sr.fb b o e with z | z
      · exact .inl z
      · exact .inr ((QfB (Xw z).1).symm)
    | _=>cases e2
theorem frz1_fz {γ:PEnv} {i j:Nat} {p:PV} (h:γ[j]?=some (.fz p)):(PM.frz1 γ i)[j]?=some (.fz p):=by
  unfold PM.frz1
  split
  · rename_i ys e
    by_cases e':i=j
    · subst e';rw [h] at e;cases e
    · rw [List.getElem?_set_ne e'];exact h
  · exact h
theorem QjC:∀ (ms:List Nat) {γ:PEnv} {j:Nat} {p:PV},γ[j]?=some (.fz p)→(PM.frz ms γ)[j]?=some (.fz p)
  | [],_,_,_,h=>h
  | i :: ms,γ,j,p,h=>QjC ms (γ:=PM.frz1 γ i) (frz1_fz h)
theorem SX.called {K:PySem.W.Frag} {P:Hp→Hp→Addr→τ→Prop} {j:Nat} {B F₀ F' E F2 E2 H' H2:Hp} {a:Addr} {σ:St} {γ:PEnv} {t':τ} (T:SR K (orH B E) F₀ F' σ H' γ) (hat:QaB γ j=some a) (hdb:∀ b o,E b=some o→B b=none) (G:GrowX F' E H' F2 E2 H2) (hp:P F2 E2 a t'):SX K P j B F₀ F2 E2 a σ H2 γ t':=by
  have e0:∀ b o,B b=some o→E b=none:=fun b o h=>by
    cases q:E b with
    | none=>rfl
    | some u=>rw [hdb b u q] at h;cases h
  refine ⟨⟨G.sub,fun b o e => ?_,T.f0.trans G.ext,fun b o e => ?_,T.len,fun i p e => ?_,fun i ys e => ?_,T.dj⟩,hat,hp,fun b o e => ?_,G.dj⟩
  · rcases QaH e with z | ⟨z1,z2⟩
    · exact G.same b o (T.base b o (QeR b o z)) (e0 b o z)
    · exact G.esub b o z2
  · have hE2:E2 b=none:=by
      cases q:E2 b with
      | none=>rfl
      | some u=>rw [G.dj b u q] at e;cases e
    rcases G.new b o e with z | z | z
    · exact (T.fb b o z).imp id fun y=>QcA (Xw y).1 hE2
    · exact .inr (QcA (Xw (T.base.free z)).1 hE2)
    · refine .inr (QcA ?_ hE2)
      cases q:E b with
      | none=>exact absurd q z
      | some u=>exact hdb b u q
  · obtain ⟨v,k1,k2⟩:=T.fz i p e
    exact ⟨v,k1,k2.mono G.ext⟩
  · obtain ⟨c,ts,k1,k2,k3,k4,k5⟩:=T.ow i ys e
    obtain ⟨z1,z2⟩:=Xw k5
    refine ⟨c,ts,k1,G.same c _ k2 z2,k3.mono G.ext,?_,QcA z1 ?_⟩
    · cases q:F2 c with
      | none=>rfl
      | some u =>
        rcases G.new c u q with y | y | y
        · rw [k4] at y;cases y
        · rw [k2] at y;cases y
        · exact absurd z2 y
    · cases q:E2 c with
      | none=>rfl
      | some u =>
        rcases G.enew c u q with y | y
        · exact absurd z2 y
        · rw [k2] at y;cases y
  · rcases G.enew b o e with z | z
    · cases q:E b with
      | none=>exact absurd q z
      | some u=>exact hdb b u q
    · exact (Xw (T.base.free z)).1
end
end L2.PM

noncomputable section
namespace L2.PM
open PySem PySem.Spec PyProof.Rows
structure OT where
  ks:List Str
  ps:List PV
  mv:Option Nat
noncomputable def QdK (km:Str) (b:Addr):Option Nat→List (Str×V)
  | none=>[]
  | some _=>[(km,.ref b)]
noncomputable def Qlt (E:Hp) (a dx b:Addr):Option Nat→Prop
  | none=>True
  | some n=>b≠a∧b≠dx∧∃ ws,E b=some (.lst ws)∧ws.length=n
noncomputable def ObjG (K:PySem.W.Frag) (C:Addr) (km:Str) (F E:Hp) (a:Addr) (t:OT):Prop:=∃ dx b vs,E a=some (.ins C dx (t.ks.zip vs++QdK km b t.mv))∧E dx=some (.own a)∧dx≠a∧t.ks.length=vs.length∧Qlt E a dx b t.mv∧RepL K F t.ps vs
theorem QfA (K:PySem.W.Frag) (C:Addr) (km:Str):PMono (ObjG K C km):=fun _ _ _ _ _ e ⟨dx,b,vs,h1,h2,h3,h4,h5,h6⟩=>⟨dx,b,vs,h1,h2,h3,h4,h5,h6.mono e⟩
noncomputable def Qlp (C:Addr) (km:Str) (t:OT) (b:Addr):PV:=match t.mv with
  | none => .obj C t.ks t.ps
  | some _ => .obj C (t.ks++[km]) (t.ps++[.opq b])
theorem Qht {ks:List Str} {vs:List V} {km:Str} {v:V} (h:ks.length=vs.length):(ks++[km]).zip (vs++[v])=ks.zip vs++[(km,v)]:=by
  rw [List.zip_append h];rfl
theorem QiM {K:PySem.W.Frag} {C:Addr} {km:Str} {F E:Hp} {a:Addr} {t:OT} (hE:∀ b o,E b=some o→F b=none) (h:ObjG K C km F E a t):∃ b,Rep K (orH F E) (Qlp C km t b) (.ref a):=by
  obtain ⟨dx,b,vs,h1,h2,h3,h4,h5,h6⟩:=h
  refine ⟨b,?_⟩
  unfold Qlp
  cases q:t.mv with
  | none =>
    rw [q] at h1
    unfold Rep
    exact ⟨a,dx,vs,rfl,by rw [← List.append_nil (t.ks.zip vs)];exact Qbh (hE _ _ h1) h1,Qbh (hE _ _ h2) h2,h4,h6.mono QeR⟩
  | some n =>
    rw [q] at h1
    unfold Rep
    refine ⟨a,dx,vs++[.ref b],rfl,?_,Qbh (hE _ _ h2) h2,by simp [h4],(h6.mono QeR).snoc (by unfold Rep;rfl)⟩
    rw [Qht h4]
    exact Qbh (hE _ _ h1) h1
section
variable {τ:Type} {X:Cx} {P:Hp→Hp→Addr→τ→Prop} {j:Nat} {st:Stmt} {sts:List Stmt} {e c:Expr} {ms ns:List Nat} {pos p2:Pos}
noncomputable def allB {α:Type} (f:Addr→Option α):Option α:=open Classical in if h:∃ k,∀ b,f b=some k then some (Classical.choose h) else none
theorem Qip {α:Type} {f:Addr→Option α} {k:α} (h:allB f=some k) (b:Addr):f b=some k:=by
  unfold allB at h
  split at h
  · rename_i q
    cases h
    exact Classical.choose_spec q b
  · cases h
theorem allB_ok {α:Type} {f:Addr→Option α} {k:α} (h:∀ b,f b=some k):allB f=some k:=by
  unfold allB
  have q:∃ k,∀ b,f b=some k:=⟨k,h⟩
  rw [dif_pos q]
  have:=Classical.choose_spec q 0
  rw [h 0] at this
  exact this.symm
end
end L2.PM

noncomputable section
namespace L2.PM
open PySem PySem.Spec PyProof.Rows
theorem QkU {F E H:Hp} {c:Addr} {o0 o:HO} (h1:Same F H) (h2:Same E H) (h3:∀ b o,E b=some o→F b=none) (hc:E c=some o0):GrowX F E H F (upd E c o) (upd H c o):=by
  have cF:=h3 c o0 hc
  refine ⟨Same.refl _,fun b u e => ?_,fun b u e => ?_,fun b u e n => ?_,fun b u e => .inl e,fun b u e => ?_,fun b u e => ?_⟩
  · rw [Qs (Qt e cF)];exact h1 b u e
  · by_cases z:b=c
    · subst z;rw [Qv] at e ⊢;exact e
    · rw [Qs z] at e ⊢;exact h2 b u e
  · rw [Qs fun z=>by subst z;rw [hc] at n;cases n];exact e
  · by_cases z:b=c
    · subst z;exact .inl (by rw [hc];exact fun q=>by cases q)
    · rw [Qs z] at e;exact .inl (by rw [e];exact fun q=>by cases q)
  · by_cases z:b=c
    · subst z;exact cF
    · rw [Qs z] at e;exact h3 b u e
theorem QhC {f:Str} {y:V} {tl:List (Str×V)}:∀ {ks:List Str} {vs:List V} {i:Nat},ks.length=vs.length→ks[i]?=some f→f∉ks.take i→putF f y (ks.zip vs++tl)=ks.zip (vs.set i y)++tl
  | [],vs,i,_,h,_=>by simp at h
  | k :: ks,[],i,h,_,_=>by simp at h
  | k :: ks,v :: vs,0,_,h,_=>by
    simp at h
    subst h
    simp [putF]
  | k :: ks,v :: vs,i + 1,hl,h,hn=>by
    rw [List.take_succ_cons,List.mem_cons,not_or] at hn
    have ih:=QhC (f:=f) (y:=y) (tl:=tl) (ks:=ks) (vs:=vs) (i:=i) (by simpa using hl) (by simpa using h) hn.2
    simp only [List.zip_cons_cons,List.set_cons_succ,List.cons_append,putF]
    rw [if_neg (fun z=>hn.1 z.symm),ih]
theorem QhD {f:Str} {y:V}:∀ {ks:List Str} {vs:List V},ks.length=vs.length→f∉ks→putF f y (ks.zip vs)=ks.zip vs++[(f,y)]
  | [],[],_,_=>rfl
  | [],_ :: _,h,_=>by simp at h
  | _ :: _,[],h,_=>by simp at h
  | k :: ks,v :: vs,h,hn=>by
    rw [List.mem_cons,not_or] at hn
    have ih:=QhD (f:=f) (y:=y) (ks:=ks) (vs:=vs) (by simpa using h) hn.2
    simp only [List.zip_cons_cons,List.cons_append,putF]
    rw [if_neg (fun z=>hn.1 z.symm),ih]
section
variable {X:Cx} {j:Nat} {st:Stmt} {sts:List Stmt} {e c:Expr} {ms ns:List Nat} {pos p2:Pos} {C:Addr} {km f:Str}
noncomputable def QcW (ks:List Str) (f:Str):Option Nat:=ks.findIdx? (·==f)
noncomputable def putT (f:Str) (r:PV) (t:OT):Option OT:=if t.ks.length < 900 then match QcW t.ks f with
  | some i=>some ⟨t.ks,t.ps.set i r,t.mv⟩
  | none=>match t.mv with
    | none=>some ⟨t.ks++[f],t.ps++[r],none⟩
    | some _=>none
  else none
noncomputable def QdH (ms:List Nat) (f:Str) (m:MEx):MX OT:=fun γ t=>(m γ).bind fun r=>(putT f r t).map fun t' => .nx (frz ms γ) t'
theorem Qgr {ks:List Str} {i:Nat} (h:QcW ks f=some i):ks[i]?=some f∧f∉ks.take i:=by
  unfold QcW at h
  rw [List.findIdx?_eq_some_iff_getElem] at h
  obtain ⟨h1,h2,h3⟩:=h
  refine ⟨by rw [List.getElem?_eq_getElem h1,beq_iff_eq.mp h2],fun z => ?_⟩
  obtain ⟨k,hk,e⟩:=List.mem_iff_getElem.mp z
  rw [List.getElem_take] at e
  rw [List.length_take] at hk
  have:=h3 k (by omega)
  rw [e] at this
  simp at this
theorem Qgs {ks:List Str} (h:QcW ks f=none):f∉ks:=by
  unfold QcW at h
  rw [List.findIdx?_eq_none_iff] at h
  intro z
  have:=h f z
  simp at this
theorem put_ok {K:PySem.W.Frag} {F E:Hp} {a dx b:Addr} {t t':OT} {vs:List V} {r:PV} {y:V} (hp:putT f r t=some t') (h1:E a=some (.ins C dx (t.ks.zip vs++QdK km b t.mv))) (h2:E dx=some (.own a)) (h3:dx≠a) (h4:t.ks.length=vs.length) (h5:Qlt E a dx b t.mv) (h6:RepL K F t.ps vs) (hy:Rep K F r y) :
    (t.ks.zip vs++QdK km b t.mv).length < 1000∧ObjG K C km F (upd E a (.ins C dx (putF f y (t.ks.zip vs++QdK km b t.mv)))) a t':=by
  unfold putT at hp
  obtain ⟨hl,hp⟩:=QcF hp
  have hz:(t.ks.zip vs++QdK km b t.mv).length < 1000:=by
    rw [List.length_append,List.length_zip]
    have:(QdK km b t.mv).length≤1:=by cases t.mv <;> simp [QdK]
    omega
  refine ⟨hz,?_⟩
  have hdx:upd E a (.ins C dx (putF f y (t.ks.zip vs++QdK km b t.mv))) dx=some (.own a):=by rw [Qs h3];exact h2
  have hlast:∀ mv,Qlt E a dx b mv→Qlt (upd E a (.ins C dx (putF f y (t.ks.zip vs++QdK km b t.mv)))) a dx b mv:=fun mv h=>by
    cases mv with
    | none=>trivial
    | some n =>
      obtain ⟨q1,q2,ws,q3,q4⟩:=h
      exact ⟨q1,q2,ws,by rw [Qs q1];exact q3,q4⟩
  split at hp
  · rename_i i hi
    cases hp
    obtain ⟨k1,k2⟩:=Qgr hi
    refine ⟨dx,b,vs.set i y,?_,hdx,h3,by rw [List.length_set];exact h4,hlast _ h5,h6.set i hy⟩
    rw [Qv,QhC h4 k1 k2]
  · rename_i hi
    split at hp
    · rename_i hm
      cases hp
      refine ⟨dx,b,vs++[y],?_,hdx,h3,by simp [h4],trivial,h6.snoc hy⟩
      rw [Qv,hm]
      show some (HO.ins C dx (putF f y (t.ks.zip vs++[])))=some (HO.ins C dx ((t.ks++[f]).zip (vs++[y])++[]))
      rw [List.append_nil,List.append_nil,QhD h4 (Qgs hi),Qht h4]
    · cases hp
theorem xm_fset (hc:Cls X.K C) (hn:QbX X.K C f) {m:MEx} (ps:PS X st (sFld X.K (tVar j) (tM X.K ms m) f)):XM X (ObjG X.K C km) j st (QdH ms f m):=PS.imp ps fun D σ H ⟨B,F₀,F,E,a,γ,t,o,S,e,ok⟩=>by
  obtain ⟨r,e1,e⟩:=Qg e
  obtain ⟨t',e2,rfl⟩:=Yv e
  obtain ⟨v,hv,rv⟩:=S.sr.fz j _ (Qbx S.at_)
  unfold Rep at rv
  subst rv
  obtain ⟨F1,S1,x1,er⟩:=S.sr.see ms
  refine ⟨F1,γ,r,S1.sub,er,e1,fun y H' F' gr q => ?_⟩
  have T:=S1.grow gr
  have hat:QaB (PM.frz ms γ) j=some a:=by
    have:=QjC ms (Qbx S.at_)
    unfold QaB
    rw [this]
  have SX1:=S.next (QfA X.K C km) T (hat.trans S.at_.symm) (x1.trans gr.ext)
  have hE:Same E H':=fun b o e=>gr.same b o (S.sr.base b o (Qbh (S.db b o e) e))
  obtain ⟨dx,b,vs,h1,h2,h3,h4,h5,h6⟩:=SX1.own
  obtain ⟨hz,hp⟩:=put_ok e2 h1 h2 h3 h4 h5 h6 q
  refine ⟨.ref a,hv,a,C,dx,_,rfl,hE _ _ h1,hc,hn,hz,?_⟩
  exact ok σ _ F' _ (SX.called T hat S.db (QkU gr.sub hE SX1.df h1) hp)
end
end L2.PM

noncomputable section
namespace L2.PM
open PySem PySem.Spec PyProof.Rows
section
variable {X:Cx} {j:Nat} {st:Stmt} {sts:List Stmt} {e c:Expr} {ms ns:List Nat} {pos p2:Pos} {C:Addr} {km f:Str}
theorem opq_frz {γ:PEnv} {a:Addr} (ms:List Nat) (h:QaB γ j=some a):QaB (PM.frz ms γ) j=some a:=by
  have:=QjC ms (Qbx h)
  unfold QaB
  rw [this]
end
end L2.PM

noncomputable section
namespace L2.PM
open PySem PySem.Spec PyProof.Rows
section
variable {X:Cx} {j n:Nat} {st:Stmt} {sts:List Stmt} {e c:Expr} {ms ns:List Nat} {pos p2:Pos} {C:Addr} {km f:Str}
end
end L2.PM

noncomputable section
namespace L2.PM
open PySem PySem.Spec PyProof.Rows
section
variable {τ:Type} {X:Cx} {K:PySem.W.Frag} {P:Hp→Hp→Addr→τ→Prop} {j:Nat} {ms:List Nat} {pos:Pos}
theorem SX.up {B F₀ F F1 E H:Hp} {a:Addr} {σ:St} {γ:PEnv} {t:τ} (S:SX K P j B F₀ F E a σ H γ t) (e1:Same F₀ F1) (e:Same F1 F):SX K P j B F1 F E a σ H γ t:=⟨S.sr.up e1 e,S.at_,S.own,S.db,S.df⟩
theorem SX.down {B F₀ F F1 E H:Hp} {a:Addr} {σ:St} {γ:PEnv} {t:τ} (S:SX K P j B F1 F E a σ H γ t) (e1:Same F₀ F1) (fb1:∀ b o,F1 b=some o→F₀ b=some o∨(B b=none∧E b=none)):SX K P j B F₀ F E a σ H γ t :=
  ⟨S.sr.down e1 fun b o e=>(fb1 b o e).imp id fun z=>QcA z.1 z.2,S.at_,S.own,S.db,S.df⟩
end
end L2.PM

noncomputable section
namespace L2.PM
open PySem PySem.Spec PyProof.Rows
noncomputable def QdL (P:Program) (w:World) (K:PySem.W.Frag) (mg:Str→Option Value) (base:Heap) (k:Nat) (C:Addr) (km x:Str) (n:Nat) (g:Addr→List PV→OT→Option OT):Prop :=
  ∃ f fd ps,FnOk P w K mg base CX0 k f fd ps (spX K (ObjG K C km) n g)∧Mk K C f∧mg x=some (.ref C)∧YV K fd ps []
noncomputable def CFld (K:PySem.W.Frag) (C:Addr) (f:Str):Prop:=Cls K C∧QbX K C f
theorem Qbn {τ:Type} {N n:Nat} {m:MX τ}:∀ a qs t t',runX N n m a qs t=some t'→qs.length + 1=n:=fun a qs t t' h=>by
  unfold runX at h
  by_cases c:qs.length + 1=n
  · exact c
  · rw [if_neg c] at h;cases h
noncomputable def Qcz:List PV→Option PV:=fun qs=>open Classical in if ∃ ns:List Int,ns.length≤63∧qs=[.lst (ns.map .int)] then some (.bl true) else none
theorem trueOn_ok (ns:List Int) (h:ns.length≤63):Qcz [.lst (ns.map .int)]=some (.bl true):=if_pos ⟨ns,h,rfl⟩
theorem QiA {g:List PV→Option PV} (h:∀ ns:List Int,ns.length≤63→g [.lst (ns.map .int)]=some (.bl true)) {qs:List PV} {r:PV} (e:Qcz qs=some r):g qs=some r:=by
  unfold Qcz at e
  split at e
  · rename_i q
    obtain ⟨ns,hn,rfl⟩:=q
    cases e
    exact h ns hn
  · cases e
section
variable {X:Cx} {o e:Expr} {es:List Expr} {sts:List Stmt} {ms ns:List Nat} {m mo:MEx} {ma:PEnv→Option (List PV)} {C:Addr} {f mm km x y:Str} {p p1 p2 p3 pos apos cpos:Pos} {k n j:Nat}
theorem Qge (hx:PE X (.Name x p3) (tVar j)) (c:CFld X.K C f) (h:EM X ms e m) (hs:swapsWith e (some (.Attribute (.Name x p3) f p2)) pos.line X.env=pure false:=by rfl):XM X (ObjG X.K C km) j (.Assign [.Attribute (.Name x p3) f p2] e pos) (QdH ms f m) :=
  xm_fset c.1 c.2 (ps_fld hx h hs)
end
end L2.PM

noncomputable section
namespace L2.PM
open PySem PySem.Spec PyProof.Rows
end L2.PM
namespace L2.PM
open PySem PySem.Spec PyProof.Rows
section
variable {X:Cx}
end
end L2.PM

noncomputable section
namespace L2.PM
open PySem PySem.Spec PyProof.Rows
noncomputable def famC (l:List Addr) (i:Nat):Addr:=l.getD i 0
noncomputable def mkK (C:Addr) (t:OT):Option PV:=match t.mv with
  | none=>some (.obj C t.ks t.ps)
  | some _=>none
noncomputable def mNew (C:Addr) (g:Addr→List PV→OT→Option OT) (ma:PEnv→Option (List PV)):MEx:=fun γ=>(ma γ).bind fun qs=>(allB fun a=>g a qs ⟨[],[],none⟩).bind (mkK C)
noncomputable def fldS (Cs:List Addr) (f:Str):PV→Option PV
  | .obj D ks ps=>if Cs.contains D=true then (ks.zip ps).lookup f else none
  | _=>none
noncomputable def XH (Cs:List Addr) (f:Str) (m:MEx):MEx:=fun γ=>(m γ).bind (fldS Cs f)
noncomputable def isiS (tab:List (Addr×Bool)):PV→Option PV
  | .obj D _ _=>(tab.lookup D).map .bl
  | _=>none
noncomputable def Qhl (tab:List (Addr×Bool)) (m:MEx):MEx:=fun γ=>(m γ).bind (isiS tab)
noncomputable def baseK (g:Addr→List PV→OT→Option OT) (a:Addr) (t:OT):List PV→Option OT
  | .opq b :: rs=>if b=a then g a rs t else none
  | _=>none
noncomputable def QeQ (j:Nat) (ms:List Nat) (g:Addr→List PV→OT→Option OT) (ma:PEnv→Option (List PV)):MX OT:=fun γ t=>(ma γ).bind fun qs=>(QaB γ j).bind fun a=>(baseK g a t qs).map fun t' => .nx (frz ms γ) t'
end L2.PM
namespace L2.PM
open PySem PySem.Spec PyProof.Rows
theorem famA {P:Addr→Prop} {a:Addr} {t:List Addr} (h1:P a) (h2:∀ D,D∈t→P D):∀ D,D∈a :: t→P D:=fun D h=>by
  rcases List.mem_cons.mp h with rfl | h
  · exact h1
  · exact h2 D h
theorem QdS {α:Type} {P:Addr→α→Prop}:∀ D g,([]:List (Addr×α)).lookup D=some g→P D g:=fun D g h=>by simp at h
theorem QJ {α:Type} {P:Addr→α→Prop} {a:Addr} {x:α} {t:List (Addr×α)} (h1:P a x) (h2:∀ D g,t.lookup D=some g→P D g):∀ D g,((a,x) :: t).lookup D=some g→P D g:=fun D g h=>by
  rw [List.lookup_cons] at h
  cases q:D==a with
  | true =>
    rw [q] at h
    cases h
    rw [beq_iff_eq.mp q]
    exact h1
  | false=>rw [q] at h;exact h2 D g h
structure IsiC (K:PySem.W.Frag) (T C:Addr) (b:Bool):Prop where
  cl:Cls K C
  ha:PySem.W.findIn K (.ref C) "__class__"=some (some (.builtin "object.__class__"))
  hn:PySem.W.specialIn K (.builtin "object.__class__") "__get__"=some (some (.builtin "getset_descriptor.__get__"))
  htk:PySem.W.takesIn K (.builtin "object.__class__")=some true
  hm:PySem.W.mroIn K C (.type "object")=some true
  one:PySem.W.kitOne K (.ref C) (.ref T)=some b
theorem Qlu {K:PySem.W.Frag} {T C:Addr} (h1:PySem.W.isClsIn K T=true) (h2:PySem.W.typeIn K (.ref T)=some (.type "type")) (h3:PySem.W.mroIn K C (.ref T)=some true):PySem.W.kitOne K (.ref C) (.ref T)=some true:=by
  unfold PySem.W.kitOne
  split
  · rfl
  · show (if ((PySem.W.clsIn K T).isSome&&PySem.W.typeIn K (.ref T)==some (.type "type"))=true then PySem.W.subIn K (.ref C) (.ref T) else none)=_
    rw [if_pos (by rw [h2,show (PySem.W.clsIn K T).isSome=true from h1];decide +kernel)]
    exact h3
theorem QbJ {K:PySem.W.Frag} {T C:Addr} (h1:PySem.W.isClsIn K T=true) (h2:PySem.W.typeIn K (.ref T)=some (.type "type")) (h3:PySem.W.mroIn K C (.ref T)=some false) (hn:(C==T)=false):PySem.W.kitOne K (.ref C) (.ref T)=some false:=by
  unfold PySem.W.kitOne
  rw [if_neg (fun h=>by
    have:Value.ref C=Value.ref T:=beq_iff_eq.mp h
    cases this
    simp at hn)]
  show (if ((PySem.W.clsIn K T).isSome&&PySem.W.typeIn K (.ref T)==some (.type "type"))=true then PySem.W.subIn K (.ref C) (.ref T) else none)=_
  rw [if_pos (by rw [h2,show (PySem.W.clsIn K T).isSome=true from h1];decide +kernel)]
  exact h3
noncomputable def CalB (P:Program) (w:World) (K:PySem.W.Frag) (mg:Str→Option Value) (base:Heap) (k:Nat) (C:Addr) (km x m:Str) (n:Nat) (g:Addr→List PV→OT→Option OT):Prop :=
  ∃ f fd ps B,FnOk P w K mg base CX0 k f fd ps (spX K (ObjG K C km) n g)∧mg x=some (.ref B)∧PySem.W.specialIn K (.ref B) "__getattribute__"=some (some (.builtin "type.__getattribute__"))∧PySem.W.readsIn K B (.type "type")=true ∧
    PySem.W.findCls K (.ref B) (.type "type") m=some (.val (.ref f))∧PySem.W.keepIn K (.ref f)=true∧YV K fd ps []
section
variable {X:Cx} {o e:Expr} {es:List Expr} {sts:List Stmt} {ms ns:List Nat} {m mo:MEx} {ma:PEnv→Option (List PV)} {C:Addr} {f mm km x y:Str} {p p1 p2 p3 pos apos cpos:Pos} {k n j:Nat}
theorem QgT {g:Addr→List PV→OT→Option OT} (c:QdL X.prog X.w X.K X.mg X.base k C km x n g) (hn:∀ a qs t t',g a qs t=some t'→qs.length + 1=n) (hr:Room (k + 1) X.A) (hg:Gl X x)
    (ha:AM X ms (e :: es) ma) (hdb:(x==("__debug__":Str))=false:=by decide) (he:starEach (e :: es) X.env=(false,eval e X.env) :: starEach es X.env:=by rfl) (hpl:(backTo cpos (starEach es X.env)).any (·.1)=false:=by rfl) :
    EM X ms (.Call (.Name x p) (e :: es) [] cpos) (mNew C g ma):=by
  obtain ⟨f,fd,ps,F,M,hm,hbd⟩:=c
  refine PE.imp (pe_make (E:=E0) M F hr hg hm hbd .nil Qhb ha hdb he hpl) fun σ H Q ⟨F,γ,r,k1,k2,k3,w⟩ => ?_
  obtain ⟨qs,e1,k3⟩:=Qg k3
  obtain ⟨t,e2,e3⟩:=Qg k3
  refine ⟨F,γ,qs,k1,k2,e1,fun us H' F' gr q x dx nx ndx hdx => ?_⟩
  rw [List.append_nil]
  generalize hHn:upd (upd H' dx (.own x)) x (.ins C dx [])=Hn
  generalize hEn:upd (upd (fun _=>none) dx (.own x)) x (HO.ins C dx [])=En
  have sH:Same H' Hn:=fun b u e=>by
    rw [← hHn,Qs (Qt e nx),Qs (Qt e ndx)];exact e
  have Ex:En x=some (.ins C dx []):=by rw [← hEn];exact Qv
  have Ed:En dx=some (.own x):=by rw [← hEn,Qs hdx];exact Qv
  have Eg:∀ b u,En b=some u→b=x∨b=dx:=fun b u e=>by
    by_cases z1:b=x
    · exact .inl z1
    by_cases z2:b=dx
    · exact .inr z2
    rw [← hEn,Qs z1,Qs z2] at e
    cases e
  have sE:Same En Hn:=fun b u e=>by
    rcases Eg b u e with rfl | rfl
    · rw [Ex] at e;cases e;rw [← hHn];exact Qv
    · rw [Ed] at e;cases e;rw [← hHn,Qs hdx];exact Qv
  have nE:∀ b u,H' b=some u→En b=none:=fun b u e=>by
    cases y:En b with
    | none=>rfl
    | some w =>
      rcases Eg b w y with rfl | rfl
      · rw [nx] at e;cases e
      · rw [ndx] at e;cases e
  have Edis:∀ b u,En b=some u→F' b=none:=fun b u e=>by
    cases y:F' b with
    | none=>rfl
    | some w=>rw [nE b w (gr.sub b w y)] at e;cases e
  have hnl:=hn _ _ _ _ (Qip e2 x)
  have free:∀ b,H' b=none→H b=none:=fun b e=>by
    cases y:H b with
    | none=>rfl
    | some u=>rw [gr.same b u y] at e;cases e
  have free2:∀ b,(En b≠none∨Hn b=none)→H b=none:=fun b e=>by
    refine free b ?_
    cases y:H' b with
    | none=>rfl
    | some u =>
      rcases e with z | z
      · exact absurd (nE b u y) z
      · rw [sH b u y] at z;cases z
  refine ⟨by rw [List.length_cons,q.length];exact hnl,F',En,x,⟨[],[],none⟩,us,qs,t,rfl,gr.sub.trans sH,sE,Edis,⟨dx,x,[],Ex,Ed,hdx,rfl,trivial,.nil⟩,q,Qip e2 x,fun H2 F2 E2 G hp=>⟨rfl,?_⟩⟩
  obtain ⟨b,hb⟩:=QiM G.dj hp
  have er:Qlp C km t b=r:=by
    unfold mkK at e3
    unfold Qlp
    revert e3
    cases t.mv with
    | none=>intro e3;exact Option.some.inj e3
    | some n=>intro e3;cases e3
  rw [er] at hb
  refine w (.ref x) H2 (orH F2 E2) ⟨fun b u e=>QeR b u (G.ext b u (gr.ext b u e)),fun b u e => ?_,fun b u e => ?_,fun b u e => ?_⟩ hb
  · rcases QaH e with z | ⟨_,z⟩
    · exact G.sub b u z
    · exact G.esub b u z
  · have:=gr.same b u e
    exact G.same b u (sH b u this) (nE b u this)
  · rcases QaH e with z | ⟨_,z⟩
    · rcases G.new b u z with y | y | y
      · exact gr.new b u y
      · exact .inr (free2 b (.inr y))
      · exact .inr (free2 b (.inl y))
    · exact .inr (free2 b (G.enew b u z))
theorem ZV {Cs:List Addr} (h:EM X ms o m) (hall:∀ D,D∈Cs→CFld X.K D f) (hb:attributeBase o f X.env (eval o X.env)=eval o X.env:=by rfl):EM X ms (.Attribute o f pos) (XH Cs f m) :=
  PE.imp (pe_fld h hb) fun σ H Q ⟨F,γ,r,k1,k2,k3,w⟩=>by
    obtain ⟨q,e1,e2⟩:=Qg k3
    refine ⟨F,γ,q,k1,k2,e1,fun v H1 F1 g1 q1 => ?_⟩
    cases q with
    | obj D ks ps =>
      obtain ⟨hD,e2⟩:=QcF (show (if Cs.contains D=true then (ks.zip ps).lookup f else none)=some r from e2)
      obtain ⟨hc,hn⟩:=hall D (by simpa using hD)
      unfold Rep at q1
      obtain ⟨a,dx,vs,rfl,h2,h3,h4,h5⟩:=q1
      obtain ⟨v',l,rv⟩:=Qee h4 h5 e2
      exact ⟨a,D,dx,_,v',rfl,g1.sub _ _ h2,hc,hn,l,w _ _ _ g1 rv⟩
    | _=>cases e2
noncomputable def tMethS (X:Cx) (m:Str) (ta:TE) (t:TA):TE:=fun σ H Q=>ta σ H fun x H1=>∃ a C dx fs f fd ps sp k,x = .ref a∧H1 a=some (.ins C dx fs)∧fs.lookup m=none∧Cls X.K C∧Meth X.K C m f∧FnOk X.prog X.w X.K X.mg X.base CX0 k f fd ps sp∧Room k X.A∧YV X.K fd ps [] ∧
  t σ H1 fun vs H2=>sp (.ref a :: (vs++[])) H2 Q E0
theorem pe_methS {ta:TE} {t:TA} {pl:Sem Bool} (he:PE X o ta) (ha:PA X (e :: es) t)
    (hst:starEach (e :: es) X.env=(false,eval e X.env) :: starEach es X.env:=by rfl) (hpl:(backTo pos (starEach es X.env)).any (·.1)=false:=by rfl)
    (ht:eval (.Call (.Attribute o mm apos) (e :: es) [] pos) X.env=(do
      let ov ← eval o X.env
      standAt apos.atName
      let (f,first) ← holding [ov] (getMethod ov mm pl)
      callWith pos f first (backTo pos (starEach (e :: es) X.env)) (backToKw pos (keywordEach [] X.env))):=by rfl) :
    PE X (.Call (.Attribute o mm apos) (e :: es) [] pos) (tMethS X mm ta t):=by
  intro pins s σ H Q I h
  refine PySem.W.methodCall_KW (pl:=pl) (thn (he pins s σ H _ I h) fun u s1 ⟨x,H1,I1,rx,a,C,dx,fs,f,fd,ps,sp,k,ex,ea,l,c,hm,F,hr,hb,q⟩ => ?_) ht
  subst ex
  obtain rfl:u=Value.ref a:=rx
  refine QiY I1 ea c hm l ?_
  refine PySem.W.callWith_K (first:=[.ref a]) (h₀:=X.base) I.ok.mod.kin hm.kp (thn (ha pos pins s1 σ H1 _ I1 q) fun us s2 ⟨vs,H2,I2,r,q2⟩=>⟨I2.kIn,?_⟩) hst hpl
  exact Qju (us := .ref a :: us) (vs := .ref a :: vs) F hr hb .nil Qhb I2 (.cons rfl r) q2
theorem Qli:Qac X (.builtin "isinstance") (fun vs H Q=>∃ v T t b,vs=[v,.ref T]∧TyOf X.K H v t∧PySem.W.kitOne X.K t (.ref T)=some b∧Q (.bl b) H):=by
  intro pins s σ H vs us Q I rs h
  obtain ⟨v,T,t,b,rfl,h1,h2,h3⟩:=h
  obtain ⟨u,w,rfl,ru,rw'⟩:=vals2 rs
  obtain rfl:w=Value.ref T:=rw'
  exact QkM I ru h1 h2 fun tk=>⟨.bl b,H,I.tok tk,rfl,h3⟩
theorem Qew {tab:List (Addr×Bool)} {T:Addr} (hall:∀ D b,tab.lookup D=some b→IsiC X.K T D b) (h:EM X ms e m) (hg:Gl X "isinstance") (hm:X.mg "isinstance"=none) (hgT:Gl X x) (hmT:X.mg x=some (.ref T))
    (hdb:(x==("__debug__":Str))=false:=by decide)
    (hs1:starEach (e :: [.Name x p3]) X.env=(false,eval e X.env) :: starEach [.Name x p3] X.env:=by rfl) (hs2:starEach [.Name x p3] X.env=(false,eval (.Name x p3) X.env) :: starEach [] X.env:=by rfl) (hpl:(backTo pos (starEach [.Name x p3] X.env)).any (·.1)=false:=by rfl) :
    EM X ms (.Call (.Name "isinstance" p2) [e,.Name x p3] [] pos) (Qhl tab m) :=
  PE.imp (Qbp Qli hg hm (by kernel_rfl) (QbM h (QbM (QjT (v := .ref T) hgT hmT rfl hdb) QgK hs2) hs1) (by decide) (by decide) hs1 hpl) fun σ H Q ⟨F,γ,r,k1,k2,k3,w⟩=>by
    obtain ⟨q,e1,e2⟩:=Qg k3
    refine ⟨F,γ,q,k1,k2,e1,fun v H1 F1 g1 q1 => ?_⟩
    cases q with
    | obj D ks ps =>
      obtain ⟨b,eb,rfl⟩:=Yv (show (tab.lookup D).map PV.bl=some r from e2)
      have i:=hall D b eb
      unfold Rep at q1
      obtain ⟨a,dx,vs,rfl,h2,h3,h4,h5⟩:=q1
      exact ⟨.ref a,T,_,b,rfl,.ins (g1.sub _ _ h2) i.cl i.ha i.hn i.htk i.hm,i.one,(w.go g1).here g1.sub (Yt _)⟩
    | _=>cases e2
theorem pe_cls {B fa:Addr} {fd:FuncData} {ps:List Str} {sp:Sp} {t:TA} {pl:Sem Bool} (F:FnOk X.prog X.w X.K X.mg X.base CX0 k fa fd ps sp) (hr:Room k X.A) (hg:Gl X x) (hm:X.mg x=some (.ref B))
    (h1:PySem.W.specialIn X.K (.ref B) "__getattribute__"=some (some (.builtin "type.__getattribute__"))) (h2:PySem.W.readsIn X.K B (.type "type")=true) (h3:PySem.W.findCls X.K (.ref B) (.type "type") mm=some (.val (.ref fa))) (hk:PySem.W.keepIn X.K (.ref fa)=true) (hb:YV X.K fd ps [])
    (ha:PA X (e :: es) t) (hdb:(x==("__debug__":Str))=false:=by decide) (hst:starEach (e :: es) X.env=(false,eval e X.env) :: starEach es X.env:=by rfl) (hpl:(backTo pos (starEach es X.env)).any (·.1)=false:=by rfl)
    (ht:eval (.Call (.Attribute (.Name x p) mm apos) (e :: es) [] pos) X.env=(do
      let ov ← eval (.Name x p) X.env
      standAt apos.atName
      let (f,first) ← holding [ov] (getMethod ov mm pl)
      callWith pos f first (backTo pos (starEach (e :: es) X.env)) (backToKw pos (keywordEach [] X.env))):=by rfl) :
    PE X (.Call (.Attribute (.Name x p) mm apos) (e :: es) [] pos) (QgV sp [] E0 t):=by
  intro pins s σ H Q I h
  refine PySem.W.methodCall_KW (pl:=pl) (thn (QjT (v := .ref B) hg hm rfl hdb pins s σ H (fun v H1=>v = .ref B∧QgV sp [] E0 t σ H1 Q) I ⟨rfl,h⟩) fun u s1 ⟨x,H1,I1,rx,ex,q⟩ => ?_) ht
  subst ex
  obtain rfl:u=Value.ref B:=rx
  refine PySem.W.method_cls I1.kIn h1 (PySem.W.cls_value I1.kIn h2 h3 rfl ?_)
  have I2:=I1.tok (s1.toks + 1)
  refine PySem.W.callWith_K (first:=[]) (h₀:=X.base) I.ok.mod.kin hk (thn (ha pos pins _ σ H1 _ I2 q) fun us s2 ⟨vs,H2,I3,r,q2⟩=>⟨I3.kIn,?_⟩) hst hpl
  exact Qju F hr hb .nil Qhb I3 r q2
theorem Qll {g:Addr→List PV→OT→Option OT} {a:Addr} {t t':OT} {qs:List PV} (h:baseK g a t qs=some t'):∃ rs,qs = .opq a :: rs∧g a rs t=some t':=by
  unfold baseK at h
  split at h
  · rename_i b rs
    obtain ⟨rfl,h⟩:=QcF h
    exact ⟨rs,rfl,h⟩
  · cases h
theorem xm_base {g:Addr→List PV→OT→Option OT} {st:Stmt} {E0':XK} (hn:∀ a qs t t',g a qs t=some t'→qs.length + 1=n)
    (ps:PS X st (Qln (QgV (spX X.K (ObjG X.K C km) n g) [] E0' (tMA X.K ms ma)))):XM X (ObjG X.K C km) j st (QeQ j ms g ma):=PS.imp ps fun D σ H ⟨B,F₀,F,E,a,γ,t,o,S,e,ok⟩=>by
  obtain ⟨qs,e1,e⟩:=Qg e
  obtain ⟨a',e2,e⟩:=Qg e
  rw [S.at_] at e2
  cases e2
  obtain ⟨t',e3,rfl⟩:=Yv e
  obtain ⟨rs,rfl,e4⟩:=Qll e3
  obtain ⟨F1,S1,x1,er⟩:=S.sr.see ms
  refine ⟨F1,γ,_,S1.sub,er,e1,fun us H' F' gr q => ?_⟩
  dsimp only
  rw [List.append_nil]
  unfold RepL at q
  obtain ⟨v,us,rfl,q1,q⟩:=q
  unfold Rep at q1
  subst q1
  have T:=S1.grow gr
  have hE:Same E H':=fun b o e=>gr.same b o (S.sr.base b o (Qbh (S.db b o e) e))
  have hat:=opq_frz ms S.at_
  have SX1:=S.next (QfA X.K C km) T (hat.trans S.at_.symm) (x1.trans gr.ext)
  refine ⟨by have:=hn _ _ _ _ e4;rw [List.length_cons,q.length];exact this,F',E,_,t,us,rs,t',rfl,gr.sub,hE,SX1.df,SX1.own,q,e4,fun H2 F2 E2 G hp => ?_⟩
  exact ok σ H2 F2 E2 (SX.called T hat S.db G hp)
theorem Qlm {pl:Sem Bool} {g:Addr→List PV→OT→Option OT} (c:CalB X.prog X.w X.K X.mg X.base k C km x mm n g) (hn:∀ a qs t t',g a qs t=some t'→qs.length + 1=n) (hr:Room k X.A) (hg:Gl X x)
    (ha:AM X ms (e :: es) ma) (hdb:(x==("__debug__":Str))=false:=by decide) (hst:starEach (e :: es) X.env=(false,eval e X.env) :: starEach es X.env:=by rfl) (hpl:(backTo cpos (starEach es X.env)).any (·.1)=false:=by rfl)
    (ht:eval (.Call (.Attribute (.Name x p2) mm apos) (e :: es) [] cpos) X.env=(do
      let ov ← eval (.Name x p2) X.env
      standAt apos.atName
      let (f,first) ← holding [ov] (getMethod ov mm pl)
      callWith cpos f first (backTo cpos (starEach (e :: es) X.env)) (backToKw cpos (keywordEach [] X.env))):=by rfl)
    (hs:swapsWith (.Call (.Attribute (.Name x p2) mm apos) (e :: es) [] cpos) none pos.line X.env=pure false:=by rfl) :
    XM X (ObjG X.K C km) j (.Expr (.Call (.Attribute (.Name x p2) mm apos) (e :: es) [] cpos) pos) (QeQ j ms g ma):=by
  obtain ⟨f,fd,ps,B,F,hm,h1,h2,h3,hk,hb⟩:=c
  exact xm_base hn (YD (pe_cls F hr hg hm h1 h2 h3 hk hb ha hdb hst hpl ht) hs)
end
end L2.PM

noncomputable section
namespace L2.PM
open PySem PySem.Spec PyProof.Rows
end L2.PM
namespace L2.PM
open PySem PySem.Spec PyProof.Rows
section
variable {X:Cx} {e a b c:Expr} {es:List Expr} {ms ns ls:List Nat} {m m1 m2 m3:MEx} {ma:PEnv→Option (List PV)} {pos p p1 p2 p3 pos':Pos} {x:Str} {id T:String} {tg:Expr}
end
end L2.PM

noncomputable section
namespace L2.PM
open PySem PySem.Spec PyProof.Rows
end L2.PM

noncomputable section
namespace L2.PM
open PySem PySem.Spec PyProof.Rows
noncomputable def sClr (i:Nat):MSt:=fun γ=>match γ[i]? with
  | some (.ow _)=>some (.nx (γ.set i (.ow [])))
  | _=>none
noncomputable def Qjr (tab:List (Addr×(List PV→Option (List PV)))) (f:Str):PV→Option (List PV→Option (List PV))
  | .obj D ks _=>if ks.contains f=false then tab.lookup D else none
  | _=>none
noncomputable def QcU (tab:List (Addr×(List PV→Option (List PV)))) (f:Str) (m:MEx) (ma:PEnv→Option (List PV)):PEnv→Option (List PV):=fun γ=>(m γ).bind fun q=>(Qjr tab f q).bind fun g=>(ma γ).bind fun ps=>g (q :: ps)
end L2.PM
namespace L2.PM
open PySem PySem.Spec PyProof.Rows
section
variable {X:Cx} {o e:Expr} {es:List Expr} {ms ns:List Nat} {mo:MEx} {ma:PEnv→Option (List PV)} {f mm x:Str} {p2 pos apos cpos:Pos} {n i:Nat}
theorem sm_clr (ps:PS X (.Expr (.Call (.Attribute (.Name x p2) "clear" apos) [] [] cpos) pos) (Qln (tBM0 X.K "list" rClear (tVar i)))):SM X (.Expr (.Call (.Attribute (.Name x p2) "clear" apos) [] [] cpos) pos) (sClr i):=PS.imp ps fun D σ H ⟨B,F₀,F,γ,o,S,e,ok⟩=>by
  unfold sClr at e
  split at e
  · rename_i xs hi
    cases e
    obtain ⟨a,vs,h1,h2,_⟩:=S.ow i xs hi
    exact ⟨.ref a,h1,Qhw (.of h2),a,vs,rfl,rfl,h2,ok _ _ F (S.write (ys:=[]) (us:=[]) hi h1 (by unfold RepL;rfl))⟩
  · cases e
noncomputable def Qbf (P:Program) (w:World) (K:PySem.W.Frag) (mg:Str→Option Value) (base:Heap) (k:Nat) (C:Addr) (m:Str) (n:Nat) (g:List PV→Option (List PV)):Prop :=
  ∃ f fd ps,FnOk P w K mg base CX0 k f fd ps (spO K n g)∧Cls K C∧Meth K C m f∧YV K fd ps []
noncomputable def CalRO (X:Cx) (C:Addr) (m:Str) (n:Nat) (g:List PV→Option (List PV)):Prop:=∃ k,Qbf X.prog X.w X.K X.mg X.base k C m n g∧Room k X.A
theorem Qla {tab:List (Addr×(List PV→Option (List PV)))} {q:PV} {g:List PV→Option (List PV)} (h:Qjr tab f q=some g):∃ D ks ps,q = .obj D ks ps∧ks.contains f=false∧tab.lookup D=some g:=by
  cases q with
  | obj D ks ps =>
    obtain ⟨h1,h2⟩:=QcF (show (if ks.contains f=false then tab.lookup D else none)=some g from h)
    exact ⟨D,ks,ps,rfl,h1,h2⟩
  | _=>cases h
theorem QhX {tab:List (Addr×(List PV→Option (List PV)))} {pl:Sem Bool} (h:EM X ms o mo) (hall:∀ D g,tab.lookup D=some g→CalRO X D mm n g∧∀ ps r,g ps=some r→ps.length=n)
    (ha:AM X ns (e :: es) ma) (hst:starEach (e :: es) X.env=(false,eval e X.env) :: starEach es X.env:=by rfl) (hpl:(backTo pos (starEach es X.env)).any (·.1)=false:=by rfl)
    (ht:eval (.Call (.Attribute o mm apos) (e :: es) [] pos) X.env=(do
      let ov ← eval o X.env
      standAt apos.atName
      let (f,first) ← holding [ov] (getMethod ov mm pl)
      callWith pos f first (backTo pos (starEach (e :: es) X.env)) (backToKw pos (keywordEach [] X.env))):=by rfl) :
    EO X (ms++ns) (.Call (.Attribute o mm apos) (e :: es) [] pos) (QcU tab mm mo ma) :=
  PE.imp (pe_methS h ha hst hpl ht) fun σ H Q ⟨F,γ,r,k1,k2,k3,w⟩=>by
    obtain ⟨q,e1,k3⟩:=Qg k3
    obtain ⟨g,e4,k3⟩:=Qg k3
    obtain ⟨xs,e2,k3⟩:=Qg k3
    obtain ⟨D,ks,qs,rfl,hk,hl⟩:=Qla e4
    obtain ⟨⟨k,⟨fa,fd,ps,FO,hc,hm,hb⟩,hr⟩,hn⟩:=hall D g hl
    refine ⟨F,γ,_,k1,k2.left,e1,fun v H1 F1 g1 q1 => ?_⟩
    have q0:=q1
    unfold Rep at q1
    obtain ⟨a,dx,vs,rfl,h2,h3,h4,h5⟩:=q1
    refine ⟨a,D,dx,_,fa,fd,ps,_,k,rfl,g1.sub _ _ h2,Qdv hk,hc,hm,FO,hr,hb,F1,γ,xs,g1.sub,k2.right.mono g1.ext,e2,fun us H2 F2 g2 q2 => ?_⟩
    dsimp only
    rw [List.append_nil]
    exact ⟨by have:=hn _ _ k3;rw [List.length_cons] at this ⊢;rw [q2.length];exact this,F2,_,r,g2.sub,.cons (q0.mono g2.ext) q2,k3,w.go (g1.trans g2)⟩
end
end L2.PM

noncomputable section
namespace L2.PM
open PySem PySem.Spec PyProof.Rows
noncomputable def Qjm (i:Nat) (g:PV→PEnv→Option PEnv) (b:MSt):MSt:=fun γ=>match γ[i]? with
  | some (.ow xs)=>open Classical in if h:xs.all flat=true∧∃ γ':PEnv,i < γ'.length∧∀ a,forL g b xs (γ.set i (.fz (.opq a)))=some (.nx (γ'.set i (.fz (.opq a)))) then some (.nx ((Classical.choose h.2).set i (.ow xs))) else none
  | _=>none
theorem sForO_of {i:Nat} {g:PV→PEnv→Option PEnv} {b:MSt} {γ γ':PEnv} {xs:List PV} (h1:γ[i]?=some (.ow xs)) (h2:xs.all flat=true) (h3:i < γ'.length) (h4:∀ a,forL g b xs (γ.set i (.fz (.opq a)))=some (.nx (γ'.set i (.fz (.opq a))))):Qjm i g b γ=some (.nx (γ'.set i (.ow xs))):=by
  unfold Qjm
  rw [h1]
  have h:xs.all flat=true∧∃ γ':PEnv,i < γ'.length∧∀ a,forL g b xs (γ.set i (.fz (.opq a)))=some (.nx (γ'.set i (.fz (.opq a)))):=⟨h2,γ',h3,h4⟩
  dsimp only
  rw [dif_pos h]
  have q:=(Classical.choose_spec h.2).2 0
  rw [h4 0] at q
  have q2:γ'.set i (.fz (.opq 0))=(Classical.choose h.2).set i (.fz (.opq 0)):=by
    have:=Option.some.inj q
    injection this
  have q3:=congrArg (fun l=>l.set i (Slot.ow xs)) q2
  simp only [List.set_set] at q3
  rw [q3]
end L2.PM
namespace L2.PM
open PySem PySem.Spec PyProof.Rows
noncomputable def one1 (a:Addr) (o:HO):Hp:=fun b=>if b=a then some o else none
section
variable {K:PySem.W.Frag} {B F₀ F H:Hp} {σ:St} {γ γ':PEnv} {i:Nat} {xs:List PV} {vs:List V} {a:Addr}
theorem SR.lend (S:SR K B F₀ F σ H γ) (hi:γ[i]?=some (.ow xs)) (ha:σ[i]?=some (some (.ref a))) (hH:H a=some (.lst vs)) (hF:F a=none) (hB:B a=none):SR K (orH B (one1 a (.lst vs))) F₀ F σ H (γ.set i (.fz (.opq a))):=by
  have hlt:i < γ.length:=(List.getElem?_eq_some_iff.mp hi).1
  refine ⟨S.sub,fun b o e => ?_,S.f0,fun b o e => ?_,by rw [List.length_set];exact S.len,fun j p e => ?_,fun j ys e => ?_,fun j k ys zs c hjk e1 e2 => ?_⟩
  · rcases QaH e with z | ⟨_,z⟩
    · exact S.base b o z
    · unfold one1 at z
      split at z
      · rename_i q;subst q;cases z;exact hH
      · cases z
  · rcases S.fb b o e with z | z
    · exact .inl z
    · refine .inr (QcA z ?_)
      unfold one1
      split
      · rename_i q;subst q;rw [hF] at e;cases e
      · rfl
  · by_cases hij:i=j
    · subst hij
      rw [List.getElem?_set_self hlt] at e
      cases e
      exact ⟨.ref a,ha,by unfold Rep;rfl⟩
    · rw [List.getElem?_set_ne hij] at e
      exact S.fz j p e
  · by_cases hij:i=j
    · subst hij
      rw [List.getElem?_set_self hlt] at e
      cases e
    · rw [List.getElem?_set_ne hij] at e
      obtain ⟨c,us,k1,k2,k3,k4,k5⟩:=S.ow j ys e
      refine ⟨c,us,k1,k2,k3,k4,QcA k5 ?_⟩
      unfold one1
      split
      · rename_i q;subst q;exact absurd k1 (S.dj i j xs ys c hij hi e ha)
      · rfl
  · by_cases h1:i=j
    · subst h1
      rw [List.getElem?_set_self hlt] at e1
      cases e1
    · by_cases h2:i=k
      · subst h2
        rw [List.getElem?_set_self hlt] at e2
        cases e2
      · rw [List.getElem?_set_ne h1] at e1
        rw [List.getElem?_set_ne h2] at e2
        exact S.dj j k ys zs c hjk e1 e2
theorem SR.back (S:SR K (orH B (one1 a (.lst vs))) F₀ F σ H (γ'.set i (.fz (.opq a)))) (hlt:i < γ'.length) (hf:xs.all flat=true) (r:∀ F,RepL K F xs vs) (h0:F₀ a=none) (hB:B a=none):SR K B F₀ F σ H (γ'.set i (.ow xs)):=by
  have hE:(orH B (one1 a (.lst vs))) a=some (.lst vs):=Qbh hB (by unfold one1;rw [if_pos rfl])
  obtain ⟨v,k1,k2⟩:=S.fz i (.opq a) (List.getElem?_set_self hlt)
  unfold Rep at k2
  subst k2
  have hFa:F a=none:=by
    cases q:F a with
    | none=>rfl
    | some o =>
      rcases S.fb a o q with z | z
      · rw [h0] at z;cases z
      · rw [hE] at z;cases z
  refine ⟨S.sub,QeR.trans S.base,S.f0,fun b o e=>(S.fb b o e).imp id fun z=>(Xw z).1,by rw [List.length_set];rw [S.len,List.length_set],fun j p e => ?_,fun j ys e => ?_,fun j k ys zs c hjk e1 e2 e3 e4 => ?_⟩
  · by_cases hij:i=j
    · subst hij
      rw [List.getElem?_set_self hlt] at e
      cases e
    · rw [List.getElem?_set_ne hij] at e
      exact S.fz j p (by rw [List.getElem?_set_ne hij];exact e)
  · by_cases hij:i=j
    · subst hij
      rw [List.getElem?_set_self hlt] at e
      cases e
      exact ⟨a,vs,k1,S.base a _ hE,r F,hFa,hB⟩
    · rw [List.getElem?_set_ne hij] at e
      obtain ⟨c,us,q1,q2,q3,q4,q5⟩:=S.ow j ys (by rw [List.getElem?_set_ne hij];exact e)
      exact ⟨c,us,q1,q2,q3,q4,(Xw q5).1⟩
  · have far:∀ j ys,i≠j→γ'[j]?=some (.ow ys)→σ[j]?≠some (some (.ref a)):=fun j ys hij e z=>by
      obtain ⟨c,us,q1,q2,q3,q4,q5⟩:=S.ow j ys (by rw [List.getElem?_set_ne hij];exact e)
      rw [z] at q1
      cases q1
      rw [hE] at q5
      cases q5
    by_cases h1:i=j
    · subst h1
      rw [k1] at e3
      cases e3
      rw [List.getElem?_set_ne hjk] at e2
      exact far k zs hjk e2 e4
    · by_cases h2:i=k
      · subst h2
        rw [k1] at e4
        cases e4
        rw [List.getElem?_set_ne h1] at e1
        exact far j ys h1 e1 e3
      · rw [List.getElem?_set_ne h1] at e1
        rw [List.getElem?_set_ne h2] at e2
        exact S.dj j k ys zs c hjk (by rw [List.getElem?_set_ne h1];exact e1) (by rw [List.getElem?_set_ne h2];exact e2) e3 e4
theorem for_base {g:PV→PEnv→Option PEnv} {ts:List Nat} {sb:MSt} {D:Ends} {J:It} {γ1:PEnv} {o:Out} (S1:SR K B F₀ F σ H γ1) (go:∀ i H,i < xs.length→Same B H→J.go i H) (yld:∀ i H x H',i < xs.length→Same B H→J.yld i H x H'→H'=H∧∃ p,xs[i]?=some p∧∀ F,Rep K F p x) (stop:∀ H,Same B H→J.stop xs.length H)
    (e2:forL g sb xs γ1=some o) (ok:OutOk K B F₀ D o) :
    ∃ W:Nat→Nat→St→Hp→Prop,(∃ m,W 0 m σ H)∧∀ i m σ H,W i m σ H →
      (J.stop i H∧D.nx σ H)∨(J.go i H∧∃ N:St→Hp→Prop,(∀ σ' H',N σ' H'→∃ m',m' < m∧W (i + 1) m' σ' H')∧∀ x H',J.yld i H x H'→tMG K ts g x σ H' fun σ2 H2=>tMS K sb { D with nx:=N,ct:=N,bk:=D.nx } σ2 H2):=by
  refine ⟨fun i m σ H=>m=xs.length - i∧i≤xs.length∧∃ F γ,SR K B F₀ F σ H γ∧forL g sb (xs.drop i) γ=some o,⟨xs.length,by simp,Nat.zero_le _,F,γ1,S1,by simpa using e2⟩,?_⟩
  rintro i m σ2 H2 ⟨rfl,hi,F2,γ2,S2,e2⟩
  by_cases hlt:i < xs.length
  · refine .inr ⟨go i H2 hlt S2.base,fun σ H=>∃ F γ,SR K B F₀ F σ H γ∧forL g sb (xs.drop (i + 1)) γ=some o,fun σ' H' q=>⟨xs.length - (i + 1),by omega,rfl,hlt,q⟩,fun x H3 y => ?_⟩
    obtain ⟨rfl,p,e3,r3⟩:=yld i H2 x H3 hlt S2.base y
    have ed:xs.drop i=p :: xs.drop (i + 1):=by
      obtain ⟨q1,q2⟩:=List.getElem?_eq_some_iff.mp e3
      rw [← q2]
      exact List.drop_eq_getElem_cons q1
    rw [ed] at e2
    unfold forL at e2
    obtain ⟨γ4,e4,e2⟩:=Qg e2
    obtain ⟨ob,e5,e2⟩:=Qg e2
    refine ⟨B,F₀,F2,γ2,p,γ4,S2,r3 F2,e4,fun σ4 S4 _ _ => ?_⟩
    refine ⟨B,F₀,F2,γ4,ob,S4,e5,?_⟩
    cases ob with
    | nx γ5=>exact fun σ H F S=>⟨F,γ5,S,e2⟩
    | ct γ5=>exact fun σ H F S=>⟨F,γ5,S,e2⟩
    | bk γ5 =>
      cases e2
      exact fun σ H F S=>ok σ H F S
    | rt p =>
      cases e2
      exact fun v H F gr r=>ok v H F gr r
    | ro ys =>
      cases e2
      exact fun a vs H F gr n nF hH r=>ok a vs H F gr n nF hH r
  · have e:i=xs.length:=by omega
    subst e
    rw [List.drop_length] at e2
    cases e2
    exact .inl ⟨stop H2 S2.base,ok σ2 H2 F2 S2⟩
end
section
variable {X:Cx} {p2 pos:Pos} {x:Str} {i:Nat}
theorem sm_forO {tg:Expr} {ts:List Nat} {g:PV→PEnv→Option PEnv} {sb:MSt} {body:List Stmt} (hp:PassesOwn (model X.prog X.w) X.A X.env X.xe) (hc:X.calm=true) (hx:PE X (.Name x p2) (tVar i)) (hg:GM X ts tg g) (hb:SMs X body sb)
    (hs:∀ y,foldedSetIterable (.Name x p2) X.env y=pure y:=by intro _;rfl):SM X (.For tg (.Name x p2) body [] pos) (Qjm i g sb):=PS.imp (Qjy hp hc (QjS hx) hg hb hs) fun D σ H ⟨B,F₀,F,γ,o,S,e,ok⟩=>by
  unfold Qjm at e
  split at e
  · rename_i xs hi
    split at e
    · rename_i h
      cases e
      have hlt:=(Classical.choose_spec h.2).1
      have hall:=(Classical.choose_spec h.2).2
      generalize Classical.choose h.2=γ' at *
      obtain ⟨a,vs,h1,h2,h3,h4,h5⟩:=S.ow i xs hi
      have rr:∀ F,RepL X.K F xs vs:=fun F=>h3.flat h.1
      have h0:F₀ a=none:=by
        cases q:F₀ a with
        | none=>rfl
        | some o=>rw [S.f0 a o q] at h4;cases h4
      have hE:(orH B (one1 a (.lst vs))) a=some (.lst vs):=Qbh h5 (by unfold one1;rw [if_pos rfl])
      refine ⟨.ref a,h1,a,rfl,⟨vs,.of h2⟩,for_base (xs:=xs) (S.lend hi h1 h2 h4 h5) (fun k H hk e => ?_) (fun k H z H' hk e y => ?_) (fun H e => ?_) (hall a) fun σ H F S'=>ok σ H F (S'.back hlt h.1 rr h0 h5)⟩
      · have hv:k < vs.length:=by rw [h3.length];exact hk
        exact ⟨vs,vs[k],.of (e a _ hE),by simp [hv]⟩
      · obtain ⟨rfl,y⟩:=y
        have hz:=y vs (.of (e a _ hE))
        obtain ⟨p,e2,_⟩:=h3.back hz
        refine ⟨rfl,p,e2,fun F => ?_⟩
        obtain ⟨v,q1,q2⟩:=(rr F).get e2
        rw [hz] at q1
        cases q1
        exact q2
      · exact ⟨vs,.of (e a _ hE),by rw [h3.length];exact Nat.le_refl _⟩
    · cases e
  · cases e
end
end L2.PM

noncomputable section
namespace L2.PM
open PySem PySem.Spec PyProof.Rows

theorem Qjh {i j:Int} (h1 : -(2 ^ 64) < j) (h2:j < 2 ^ 64):cMul i j=true:=by
  unfold cMul
  rw [Bool.or_eq_true]
  exact .inr (Qfp ⟨h1,h2⟩)
theorem Qlk {i j:Int} (h1 : -(2 ^ 64) < i) (h2:i < 2 ^ 64):cMul i j=true:=by
  unfold cMul
  rw [Bool.or_eq_true]
  exact .inl (Qfp ⟨h1,h2⟩)
theorem pAdd_i (i j:Int):pAdd (.int i) (.int j)=some (.int (i + j)):=rfl
theorem pSub_i (i j:Int):pSub (.int i) (.int j)=some (.int (i - j)):=rfl
theorem pMul_l {i j:Int} (h1 : -(2 ^ 64) < i) (h2:i < 2 ^ 64):pMul (.int i) (.int j)=some (.int (i * j)):=if_pos (Qlk h1 h2)
theorem pMul_r {i j:Int} (h1 : -(2 ^ 64) < j) (h2:j < 2 ^ 64):pMul (.int i) (.int j)=some (.int (i * j)):=if_pos (Qjh h1 h2)
theorem pMod_i {i j:Int} (h:0 < j):pMod (.int i) (.int j)=some (.int (i % j)):=if_pos (decide_eq_true h)
theorem pDiv_i {i j:Int} (h:0 < j) (h2:j < 2 ^ 200):pDiv (.int i) (.int j)=some (.int (i / j)):=if_pos (Qfp ⟨h,h2⟩)
theorem pLt_i (i j:Int):pLt (.int i) (.int j)=some (.bl (decide (i < j))):=rfl
theorem pGt_i (i j:Int):pGt (.int i) (.int j)=some (.bl (decide (j < i))):=rfl
theorem pAnd_i (i j:Int):pAnd (.int i) (.int j)=some (.int (Builtin.bitAnd i j)):=rfl
theorem pOr_i (i j:Int):pOr (.int i) (.int j)=some (.int (Builtin.bitOr i j)):=rfl
theorem pShl_one {k:Int} (h0:0≤k) (h1:k≤1000000):pShl (.int 1) (.int k)=some (.int (2 ^ k.toNat)):=by
  have e:pShl (.int 1) (.int k)=some (.int (1 * 2 ^ k.toNat)):=if_pos (Qfp ⟨h0,h1,by decide⟩)
  rw [e,Int.one_mul]
theorem pShr_i {i k:Int} (h0:0≤k):pShr (.int i) (.int k)=some (.int (i / 2 ^ k.toNat)):=if_pos (decide_eq_true h0)
theorem QcS (i:Int):okv (.int i)=true:=by simp [okv,dep,okS]
theorem QjW {s:Str} (h:PyData.strOk s=true):okv (.str s)=true:=by simp [okv,dep,okS,h]
theorem QjA {p q:PV} (h1:okv p=true) (h2:okv q=true):pEq p q=some (.bl (peq p q)):=if_pos ⟨h1,h2⟩
theorem Qjz {p q:PV} (h1:okv p=true) (h2:okv q=true):pNe p q=some (.bl (!peq p q)):=if_pos ⟨h1,h2⟩
theorem pEq_i (i j:Int):pEq (.int i) (.int j)=some (.bl (i==j)):=by rw [QjA (QcS i) (QcS j)];rfl
theorem pNe_i (i j:Int):pNe (.int i) (.int j)=some (.bl (!(i==j))):=by rw [Qjz (QcS i) (QcS j)];rfl
theorem pIs_non (p:PV):pIs p .non=some (.bl (isN p)):=by cases p <;> rfl
theorem pIsNot_non (p:PV):QgL p .non=some (.bl (!isN p)):=by cases p <;> rfl
theorem XI {n:Nat} (h:n≤100000):n≤LIM:=Nat.le_trans h (by decide)
theorem lt_lim {n:Nat} (h:n≤100000):n < LIM:=Nat.lt_of_le_of_lt h (by decide)
theorem keepE_true (ms:List Nat) (γ:PEnv):ZD true ms γ=γ:=rfl
theorem keepE_false (ms:List Nat) (γ:PEnv):ZD false ms γ=frz ms γ:=rfl
theorem flat_int (i:Int):flat (.int i)=true:=rfl
theorem flat_bl (i:Bool):flat (.bl i)=true:=rfl
theorem flat_str (i:Str):flat (.str i)=true:=rfl
theorem flat_non:flat .non=true:=rfl
theorem flat_tup (i:List PV):flat (.tup i)=false:=rfl
theorem flat_lst (i:List PV):flat (.lst i)=false:=rfl
theorem allflat_ints (ns:List Int):(ns.map PV.int).all flat=true:=by simp [flat]
theorem allflat_strs (ns:List Str):(ns.map PV.str).all flat=true:=by simp [flat]
theorem pIx_lst (xs:List PV) (i:Int):pIx (.lst xs) (.int i)=atI xs i:=rfl
theorem pIx_tup (xs:List PV) (i:Int):pIx (.tup xs) (.int i)=atI xs i:=rfl

theorem QeK {α:Type} {g:PV→PEnv→Option PEnv} {t:PEnv→Option Bool} {e:MEx} {γ:PEnv} (f:α→PV) (b:α→Bool) (y:α→PV) :
    ∀ (xs:List α),(∀ x∈xs,∃ γ1,g (f x) γ=some γ1∧t γ1=some (b x)∧(b x=true→e γ1=some (y x)))→Xy g t e γ (xs.map f)=some ((xs.filter b).map y)
  | [],_=>rfl
  | x :: xs,h=>by
    obtain ⟨γ1,h1,h2,h3⟩:=h x List.mem_cons_self
    have ih:=QeK f b y xs fun z hz=>h z (List.mem_cons_of_mem _ hz)
    rw [List.map_cons,Xy,h1,Option.bind_some,h2,Option.bind_some]
    cases hb:b x with
    | true =>
      rw [if_pos rfl,h3 hb,Option.bind_some,ih,List.filter_cons_of_pos hb]
      rfl
    | false =>
      rw [if_neg Bool.false_ne_true,ih,List.filter_cons_of_neg (by simp [hb])]
theorem Qaa {α:Type} {g:PV→PEnv→Option PEnv} {e:MEx} {γ:PEnv} (f:α→PV) (y:α→PV) (xs:List α) (h:∀ x∈xs,∃ γ1,g (f x) γ=some γ1∧e γ1=some (y x)):Xy g XE e γ (xs.map f)=some (xs.map y):=by
  have:=QeK (g:=g) (t:=XE) (e:=e) (γ:=γ) f (fun _=>true) y xs fun x hx=>by
    obtain ⟨γ1,h1,h2⟩:=h x hx
    exact ⟨γ1,h1,rfl,fun _=>h2⟩
  rw [this,List.filter_eq_self.mpr (fun _ _=>rfl)]
theorem QhW {α β:Type} {g:PV→PEnv→Option PEnv} {b:MSt} (f:α→PV) (step:β→α→β) (R:β→PEnv→Prop) :
    ∀ (xs:List α) (acc:β) (γ:PEnv),R acc γ→(∀ acc γ x,x∈xs→R acc γ→∃ γ1 γ2,g (f x) γ=some γ1∧b γ1=some (.nx γ2)∧R (step acc x) γ2)→∃ γ',forL g b (xs.map f) γ=some (.nx γ')∧R (xs.foldl step acc) γ'
  | [],acc,γ,r,_=>⟨γ,rfl,r⟩
  | x :: xs,acc,γ,r,h=>by
    obtain ⟨γ1,γ2,h1,h2,h3⟩:=h acc γ x List.mem_cons_self r
    obtain ⟨γ',e,r'⟩:=QhW f step R xs (step acc x) γ2 h3 fun a γ z hz=>h a γ z (List.mem_cons_of_mem _ hz)
    refine ⟨γ',?_,r'⟩
    rw [List.map_cons,forL,h1,Option.bind_some,h2,Option.bind_some]
    exact e
theorem Ym {α:Type} {g:PV→PEnv→Option PEnv} {b:MSt} (f:α→PV) (R:List α→PEnv→Prop) (xs:List α) :
    ∀ (ys pre:List α) (γ:PEnv),pre++ys=xs→R pre γ→(∀ pre x post γ,pre++x :: post=xs→R pre γ→∃ γ1 γ2,g (f x) γ=some γ1∧b γ1=some (.nx γ2)∧R (pre++[x]) γ2)→∃ γ',forL g b (ys.map f) γ=some (.nx γ')∧R xs γ'
  | [],pre,γ,e,r,_=>by
    rw [List.append_nil] at e
    subst e
    exact ⟨γ,rfl,r⟩
  | x :: ys,pre,γ,e,r,h=>by
    obtain ⟨γ1,γ2,h1,h2,h3⟩:=h pre x ys γ e r
    obtain ⟨γ',e',r'⟩:=Ym f R xs ys (pre++[x]) γ2 (by rw [List.append_assoc];exact e) h3 h
    refine ⟨γ',?_,r'⟩
    rw [List.map_cons,forL,h1,Option.bind_some,h2,Option.bind_some]
    exact e'
theorem Qgw {sep:Str} {ss:List Str} (h:(ss.map Str.length).sum + ss.length * sep.length≤LIM):Qgg (.str sep) [.lst (ss.map .str)]=some (.str (Txt.join sep ss)):=by
  show (match PM.strs? (ss.map PV.str) with
    | some ys=>if (ys.map Str.length).sum + ys.length * sep.length≤LIM then some (PV.str (Txt.join sep ys)) else none
    | none=>none)=_
  rw [PM.strs?_map]
  exact if_pos h
end L2.PM

noncomputable section
namespace L2.PM
open PySem PySem.Spec PyProof.Rows
noncomputable def pw (row:List Nat):Nat:=(row.map fun i=>2 ^ i).sum
noncomputable def bitsN (m:Nat):Nat:=if m=0 then 0 else m.log2 + 1
noncomputable def plN (m:Nat):List Nat:=(List.range (bitsN m)).filter fun k=>m.testBit k
theorem Qgi {m k:Nat} (h:m.testBit k=true):k < bitsN m:=by
  have h1:2 ^ k≤m:=Nat.ge_two_pow_of_testBit h
  have h0:m≠0:=by
    rintro rfl
    simp at h
  unfold bitsN
  rw [if_neg h0]
  have:=(Nat.le_log2 h0).mpr h1
  omega
theorem QcT {m k:Nat}:k∈plN m↔m.testBit k=true:=by
  unfold plN
  rw [List.mem_filter,List.mem_range]
  exact ⟨fun h=>h.2,fun h=>⟨Qgi h,h⟩⟩
theorem plN_asc (m:Nat):(plN m).Pairwise (· < ·):=List.Pairwise.filter _ List.pairwise_lt_range
theorem asc_eq {a b:List Nat} (ha:a.Pairwise (· < ·)) (hb:b.Pairwise (· < ·)) (h:∀ x,x∈a↔x∈b):a=b:=by
  have na:a.Nodup:=ha.imp fun h=>Nat.ne_of_lt h
  have nb:b.Nodup:=hb.imp fun h=>Nat.ne_of_lt h
  have p:a.Perm b:=(List.perm_ext_iff_of_nodup na nb).mpr h
  exact List.Perm.eq_of_pairwise (le:=(· < ·)) (fun x y _ _ h1 h2=>absurd (Nat.lt_trans h1 h2) (Nat.lt_irrefl _)) ha hb p
theorem Qhn (m:Nat):Builtin.Int.intBits (m:Int)=bitsN m:=by
  unfold Builtin.Int.intBits bitsN
  by_cases h:m=0
  · subst h;rfl
  · rw [if_neg h,if_neg (by simpa using h)]
    simp
theorem QkA (m:Nat):Qhd (.int (m:Int)) []=some (.int (bitsN m:Nat)):=by
  have e:=Qhn m
  show some (PV.int ((Builtin.Int.intBits (m:Int):Nat):Int))=_
  rw [e]
end L2.PM

noncomputable section
namespace L2.PM
open PySem PySem.Spec PyProof.Rows

theorem rngL_0 (j:Int):rngL 0 j=(List.range j.toNat).map fun (k:Nat)=>PV.int k:=by
  unfold rngL
  rw [show (j - 0)=j by omega]
  exact List.map_congr_left fun k _=>by simp
noncomputable def rg1:PV→Option (List PV)
  | .int j=>if rOk j=true then some (rngL 0 j) else none
  | _=>none
theorem rg1_i {j:Int} (h1 : -100000≤j) (h2:j≤100000):rg1 (.int j)=some ((List.range j.toNat).map fun (k:Nat)=>PV.int k):=by
  have e:rg1 (.int j)=if rOk j=true then some (rngL 0 j) else none:=rfl
  rw [e,if_pos (Qjw (by omega) (by omega)),rngL_0]
theorem ev_iRg1 (m:MEx) (γ:PEnv):iRg1 m γ=(m γ).bind rg1:=by
  unfold iRg1
  cases m γ with
  | none=>rfl
  | some p=>cases p <;> rfl
noncomputable def itL:PV→Option (List PV)
  | .lst xs=>some xs
  | _=>none
theorem itL_l (xs:List PV):itL (.lst xs)=some xs:=rfl
theorem ev_iLst (m:MEx) (γ:PEnv):iLst m γ=(m γ).bind itL:=by
  unfold iLst
  cases m γ with
  | none=>rfl
  | some p=>cases p <;> rfl
noncomputable def itT:PV→Option (List PV)
  | .tup xs=>some xs
  | _=>none
theorem itT_t (xs:List PV):itT (.tup xs)=some xs:=rfl
theorem ev_iTpl (m:MEx) (γ:PEnv):iTpl m γ=(m γ).bind itT:=by
  unfold iTpl
  cases m γ with
  | none=>rfl
  | some p=>cases p <;> rfl
noncomputable def itS:PV→Option (List PV)
  | .lst xs=>some xs
  | .tup xs=>some xs
  | _=>none
theorem itS_l (xs:List PV):itS (.lst xs)=some xs:=rfl
theorem itS_t (xs:List PV):itS (.tup xs)=some xs:=rfl
theorem ev_iSeq (m:MEx) (γ:PEnv):iSeq m γ=(m γ).bind itS:=by
  unfold iSeq
  cases m γ with
  | none=>rfl
  | some p=>cases p <;> rfl
theorem pEnum_l (xs:List PV):QgM [.lst xs]=some (xs.zipIdx.map fun x => .tup [pN x.2,x.1]):=rfl
theorem pEnum_t (xs:List PV):Qfj [.tup xs]=some (xs.zipIdx.map fun x => .tup [pN x.2,x.1]):=rfl
theorem pRev_l (xs:List PV):pRev [.lst xs]=some xs.reverse:=rfl
noncomputable def cmpK (g:PV→PEnv→Option PEnv) (t:PEnv→Option Bool) (e:MEx) (γ:PEnv) (xs:List PV):Option (List PV):=if xs.length≤LIM then Xy g t e γ xs else none
theorem cmpK_ok {g:PV→PEnv→Option PEnv} {t:PEnv→Option Bool} {e:MEx} {γ:PEnv} {xs:List PV} (h:xs.length≤100000):cmpK g t e γ xs=Xy g t e γ xs:=if_pos (XI h)
theorem ev_mComp (mi:PEnv→Option (List PV)) (nt:Nat) (caps:List Nat) (g:PV→PEnv→Option PEnv) (t:PEnv→Option Bool) (e:MEx) (γ:PEnv):YT mi nt caps g t e γ=(mi γ).bind (cmpK g t e (blkG nt caps γ)):=rfl
noncomputable def seqK (s2:MSt):Out→Option Out
  | .nx γ=>s2 γ
  | o=>some o
theorem seqK_nx (s2:MSt) (γ:PEnv):seqK s2 (.nx γ)=s2 γ:=rfl
theorem seqK_rt (s2:MSt) (p:PV):seqK s2 (.rt p)=some (.rt p):=rfl
theorem seqK_ro (s2:MSt) (p:List PV):seqK s2 (.ro p)=some (.ro p):=rfl
theorem seqK_ct (s2:MSt) (γ:PEnv):seqK s2 (.ct γ)=some (.ct γ):=rfl
theorem seqK_bk (s2:MSt) (γ:PEnv):seqK s2 (.bk γ)=some (.bk γ):=rfl
theorem ev_sSeq (s1 s2:MSt) (γ:PEnv):sSeq s1 s2 γ=(s1 γ).bind (seqK s2):=by
  unfold sSeq
  cases s1 γ with
  | none=>rfl
  | some o=>cases o <;> rfl
theorem ev_startG1 (N:Nat) (ps:List PV):ZM N ps=ps.map .fz++List.replicate (N - ps.length) .un:=rfl
theorem outV_rt (p:PV):outV (.rt p)=some p:=rfl
theorem outV_ro (xs:List PV):outV (.ro xs)=some (.lst xs):=rfl
theorem outV_nx (γ:PEnv):outV (.nx γ)=some .non:=rfl
theorem ev_bin2 {α:Type} (f:PV→PV→Option α) (m1 m2:MEx) (γ:PEnv):bin2 f m1 m2 γ=(m1 γ).bind fun x=>(m2 γ).bind (f x):=rfl
theorem ev_mVar (i:Nat) (γ:PEnv):mVar i γ=getV γ i:=rfl
theorem ev_mC (p:PV) (γ:PEnv):mC p γ=some p:=rfl
theorem ev_mCall {α:Type} (g:List PV→Option α) (ma:PEnv→Option (List PV)) (γ:PEnv):Qk g ma γ=(ma γ).bind g:=rfl
theorem ev_mLst (m:PEnv→Option (List PV)) (γ:PEnv):mLst m γ=(m γ).map PV.lst:=rfl
noncomputable def tupK (xs:List PV):Option PV:=if xs.length≤LIM then some (.tup xs) else none
theorem tupK_ok {xs:List PV} (h:xs.length≤100000):tupK xs=some (.tup xs):=if_pos (XI h)
theorem ev_mTup (m:PEnv→Option (List PV)) (γ:PEnv):mTup m γ=(m γ).bind tupK:=rfl
noncomputable def limK (xs:List PV):Option (List PV):=if xs.length≤LIM then some xs else none
theorem limK_ok {xs:List PV} (h:xs.length≤100000):limK xs=some xs:=if_pos (XI h)
theorem ev_mLim (m:PEnv→Option (List PV)) (γ:PEnv):mLim m γ=(m γ).bind limK:=rfl
theorem ev_aNil (γ:PEnv):aNil γ=some []:=rfl
theorem ev_aCons (m:MEx) (ma:PEnv→Option (List PV)) (γ:PEnv):Qe m ma γ=(m γ).bind fun x=>(ma γ).map (x :: ·):=rfl
theorem isB_bl (b:Bool):isB (.bl b)=some b:=rfl
theorem ev_truB (m:MEx) (γ:PEnv):truB m γ=(m γ).bind isB:=rfl
theorem ev_mIsi (f:PV→Bool) (m:MEx) (γ:PEnv):mIsi f m γ=(m γ).bind (isiK f):=rfl
theorem isiK_i (f:PV→Bool) (i:Int):isiK f (.int i)=some (.bl (f (.int i))):=rfl
theorem isiK_b (f:PV→Bool) (i:Bool):isiK f (.bl i)=some (.bl (f (.bl i))):=rfl
theorem isiK_s (f:PV→Bool) (i:Str):isiK f (.str i)=some (.bl (f (.str i))):=rfl
theorem isiK_t (f:PV→Bool) (i:List PV):isiK f (.tup i)=some (.bl (f (.tup i))):=rfl
theorem isiK_l (f:PV→Bool) (i:List PV):isiK f (.lst i)=some (.bl (f (.lst i))):=rfl
theorem isiK_0 (f:PV→Bool):isiK f .non=some (.bl (f .non)):=rfl
theorem isiK_n (f:PV→Bool) (i:Nat):isiK f (pN i)=some (.bl (f (pN i))):=rfl
theorem getV_0 (s:Slot) (γ:PEnv):getV (s :: γ) 0=s.val:=rfl
theorem getV_s (s:Slot) (γ:PEnv) (i:Nat):getV (s :: γ) (i + 1)=getV γ i:=rfl
theorem val_fz (p:PV):(Slot.fz p).val=some p:=rfl
theorem val_ow (p:List PV):(Slot.ow p).val=some (.lst p):=rfl
noncomputable def keep (k:Bool) (ms:List Nat) (γ:PEnv):PEnv:=ZD k ms γ
theorem ev_sRet (m:MEx) (γ:PEnv):sRet m γ=(m γ).map .rt:=rfl
theorem ev_sRetO (m:PEnv→Option (List PV)) (γ:PEnv):Qcl m γ=(m γ).map .ro:=rfl
noncomputable def retS:Option Slot→Option Out
  | some (.ow xs)=>some (.ro xs)
  | some (.fz p)=>some (.rt p)
  | _=>none
theorem retS_ow (xs:List PV):retS (some (.ow xs))=some (.ro xs):=rfl
theorem retS_fz (p:PV):retS (some (.fz p))=some (.rt p):=rfl
theorem ev_sRetV (i:Nat) (γ:PEnv):QbH i γ=retS γ[i]?:=by
  unfold QbH
  cases γ[i]? with
  | none=>rfl
  | some s=>cases s <;> rfl
noncomputable def ifK (s1 s2:MSt) (γ:PEnv) (k:Bool):Option Out:=if k=true then s1 γ else s2 γ
theorem ifK_t (s1 s2:MSt) (γ:PEnv):ifK s1 s2 γ true=s1 γ:=rfl
theorem ifK_f (s1 s2:MSt) (γ:PEnv):ifK s1 s2 γ false=s2 γ:=rfl
theorem ev_sIf (t:PEnv→Option Bool) (s1 s2:MSt) (γ:PEnv):sIf t s1 s2 γ=(t γ).bind (ifK s1 s2 γ):=rfl
theorem ev_sNx (γ:PEnv):sNx γ=some (.nx γ):=rfl
theorem ev_sBk (γ:PEnv):sBk γ=some (.bk γ):=rfl
theorem ev_sCt (γ:PEnv):sCt γ=some (.ct γ):=rfl
theorem ev_sSet (ms:List Nat) (i:Nat) (m:MEx) (γ:PEnv):sSet ms i m γ=(m γ).map fun r => .nx ((ZD (flat r) ms γ).set i (.fz r)):=rfl
theorem ev_sSetO (ms:List Nat) (i:Nat) (m:PEnv→Option (List PV)) (γ:PEnv):YF ms i m γ=(m γ).map fun xs => .nx ((ZD (xs.all flat) ms γ).set i (.ow xs)):=rfl
noncomputable def augK (i:Nat) (γ:PEnv) (r:PV):Option Out:=if flat r=true then some (.nx (γ.set i (.fz r))) else none
theorem augK_i (i:Nat) (γ:PEnv) (r:Int):augK i γ (.int r)=some (.nx (γ.set i (.fz (.int r)))):=rfl
theorem ev_sAug (i:Nat) (f:PV→PV→Option PV) (m:MEx) (γ:PEnv):sAug i f m γ=(getV γ i).bind fun x=>(m γ).bind fun y=>(f x y).bind (augK i γ):=rfl
theorem ev_gSet (i:Nat) (p:PV) (γ:PEnv):gSet i p γ=some (γ.set i (.fz p)):=rfl
theorem gSet2_t (i j:Nat) (x y:PV) (γ:PEnv):Qbj i j (.tup [x,y]) γ=some ((γ.set i (.fz x)).set j (.fz y)):=rfl
theorem gSet3_t (i j k:Nat) (x y z:PV) (γ:PEnv):gSet3 i j k (.tup [x,y,z]) γ=some (((γ.set i (.fz x)).set j (.fz y)).set k (.fz z)):=rfl
noncomputable def appK (ms:List Nat) (i:Nat) (γ:PEnv) (r:PV):Option Slot→Option Out
  | some (.ow xs)=>if xs.length < LIM∧(flat r || !ms.contains i)=true then some (.nx ((ZD (flat r) ms γ).set i (.ow (xs++[r])))) else none
  | _=>none
theorem Xc {ms:List Nat} {i:Nat} {γ:PEnv} {r:PV} {xs:List PV} (h:xs.length≤100000) (h2:(flat r || !ms.contains i)=true):appK ms i γ r (some (.ow xs))=some (.nx ((ZD (flat r) ms γ).set i (.ow (xs++[r])))):=if_pos ⟨lt_lim h,h2⟩
theorem ev_sApp (ms:List Nat) (i:Nat) (m:MEx) (γ:PEnv):sApp ms i m γ=(m γ).bind fun r=>appK ms i γ r γ[i]?:=by
  unfold sApp
  cases γ[i]? with
  | none=>cases m γ <;> rfl
  | some s =>
    cases s with
    | ow xs=>rfl
    | _=>cases m γ <;> rfl
noncomputable def sixK (ms:List Nat) (i:Nat) (γ:PEnv) (r k:PV):Option Slot→Option Out
  | some (.ow xs)=>match k with
    | .int j=>(ixN xs.length j).bind fun n=>if (flat r || !ms.contains i)=true then some (.nx ((ZD (flat r) ms γ).set i (.ow (xs.set n r)))) else none
    | _=>none
  | _=>none
theorem sixK_ow {ms:List Nat} {i:Nat} {γ:PEnv} {r:PV} {xs:List PV} {j:Int} (h0:0≤j) (h1:j < xs.length) (h2:(flat r || !ms.contains i)=true):sixK ms i γ r (.int j) (some (.ow xs))=some (.nx ((ZD (flat r) ms γ).set i (.ow (xs.set j.toNat r)))):=by
  show ((ixN xs.length j).bind fun n=>if (flat r || !ms.contains i)=true then some (Out.nx ((ZD (flat r) ms γ).set i (.ow (xs.set n r)))) else none)=_
  unfold ixN
  rw [if_pos h0,if_pos h1,Option.bind_some,if_pos h2]
theorem ev_sSetIx (ms:List Nat) (i:Nat) (mv mi:MEx) (γ:PEnv):QdN ms i mv mi γ=(mv γ).bind fun r=>(mi γ).bind fun k=>sixK ms i γ r k γ[i]?:=by
  unfold QdN
  cases γ[i]? with
  | none=>cases mv γ <;> cases mi γ <;> rfl
  | some s =>
    cases s with
    | ow xs =>
      cases mv γ with
      | none=>rfl
      | some r =>
        cases mi γ with
        | none=>rfl
        | some k=>cases k <;> rfl
    | _=>cases mv γ <;> cases mi γ <;> rfl
theorem ev_sFor (ms:List Nat) (mi:PEnv→Option (List PV)) (g:PV→PEnv→Option PEnv) (b:MSt) (γ:PEnv):sFor ms mi g b γ=(mi γ).bind fun xs=>forL g b xs (frz ms γ):=rfl
theorem ev_sForR (mi:PEnv→Option (List PV)) (g:PV→PEnv→Option PEnv) (b:MSt) (γ:PEnv):QgX mi g b γ=(mi γ).bind fun xs=>forL g b xs γ:=rfl
noncomputable def capO:Option PV→Slot
  | some p => .fz p
  | none => .un
theorem capO_s (p:PV):capO (some p) = .fz p:=rfl
theorem ev_capS (γ:PEnv) (j:Nat):capS γ j=capO (getV γ j):=by
  unfold capS
  cases getV γ j <;> rfl
theorem ev_blkG (nt:Nat) (caps:List Nat) (γ:PEnv):blkG nt caps γ=List.replicate nt .un++caps.map (capS γ):=rfl
theorem ev_tYesM (γ:PEnv):XE γ=some true:=rfl
theorem ev_mTru (m:MEx) (γ:PEnv):mTru m γ=(m γ).bind tru:=rfl
theorem tru_i (i:Int):tru (.int i)=some (i != 0):=rfl
theorem tru_b (i:Bool):tru (.bl i)=some i:=rfl
theorem tru_l (i:List PV):tru (.lst i)=some (!i.isEmpty):=rfl
theorem tru_t (i:List PV):tru (.tup i)=some (!i.isEmpty):=rfl
noncomputable def andK (t2:PEnv→Option Bool) (γ:PEnv) (x:Bool):Option Bool:=if x=true then t2 γ else some false
theorem andK_t (t2:PEnv→Option Bool) (γ:PEnv):andK t2 γ true=t2 γ:=rfl
theorem andK_f (t2:PEnv→Option Bool) (γ:PEnv):andK t2 γ false=some false:=rfl
theorem ev_bAnd (t1 t2:PEnv→Option Bool) (γ:PEnv):bAnd t1 t2 γ=(t1 γ).bind (andK t2 γ):=rfl
noncomputable def orK (t2:PEnv→Option Bool) (γ:PEnv) (x:Bool):Option Bool:=if x=true then some true else t2 γ
theorem orK_t (t2:PEnv→Option Bool) (γ:PEnv):orK t2 γ true=some true:=rfl
theorem orK_f (t2:PEnv→Option Bool) (γ:PEnv):orK t2 γ false=t2 γ:=rfl
theorem ev_bOr (t1 t2:PEnv→Option Bool) (γ:PEnv):bOr t1 t2 γ=(t1 γ).bind (orK t2 γ):=rfl
theorem ev_bNot (t1:PEnv→Option Bool) (γ:PEnv):bNot t1 γ=(t1 γ).map not:=rfl
noncomputable def vAndK (m2:MEx) (γ:PEnv) (k:Bool):Option PV:=if k=true then m2 γ else some (.bl false)
theorem vAndK_t (m2:MEx) (γ:PEnv):vAndK m2 γ true=m2 γ:=rfl
theorem vAndK_f (m2:MEx) (γ:PEnv):vAndK m2 γ false=some (.bl false):=rfl
theorem ev_vAnd (m1 m2:MEx) (γ:PEnv):vAnd m1 m2 γ=(m1 γ).bind fun x=>(isB x).bind (vAndK m2 γ):=rfl
theorem ev_un1 (f:PV→Option PV) (m:MEx) (γ:PEnv):un1 f m γ=(m γ).bind f:=rfl
theorem pNeg_i (i:Int):pNeg (.int i)=some (.int (-i)):=rfl
noncomputable def mtK {α:Type} (T:String) (g:PV→List PV→Option α) (q:Option (List PV)) (p:PV):Option α:=if tyOk T p=true then q.bind (g p) else none
theorem mtK_i {α:Type} (g:PV→List PV→Option α) (q:Option (List PV)) (i:Int):mtK "int" g q (.int i)=q.bind (g (.int i)):=rfl
theorem mtK_s {α:Type} (g:PV→List PV→Option α) (q:Option (List PV)) (i:Str):mtK "str" g q (.str i)=q.bind (g (.str i)):=rfl
theorem mtK_l {α:Type} (g:PV→List PV→Option α) (q:Option (List PV)) (i:List PV):mtK "list" g q (.lst i)=q.bind (g (.lst i)):=rfl
theorem ev_mMt {α:Type} (T:String) (g:PV→List PV→Option α) (m:MEx) (ma:PEnv→Option (List PV)) (γ:PEnv):mMt T g m ma γ=(m γ).bind (mtK T g (ma γ)):=rfl
theorem ev_mMt0 {α:Type} (T:String) (g:PV→List PV→Option α) (m:MEx) (γ:PEnv):mMt0 T g m γ=(m γ).bind (mtK T g (some [])):=rfl
theorem ev_sl3 {α:Type} (f:PV→Option Int→Option Int→Option α) (m:MEx) (ml mh:PEnv→Option (Option Int)) (γ:PEnv):sl3 f m ml mh γ=(m γ).bind fun x=>(ml γ).bind fun l=>(mh γ).bind (f x l):=rfl
theorem ev_mNo (γ:PEnv):mNo γ=some none:=rfl
theorem ev_mSo (m:MEx) (γ:PEnv):mSo m γ=(m γ).bind pInt:=rfl
theorem pInt_i (i:Int):pInt (.int i)=some (some i):=rfl
theorem pCut_l (xs:List PV) (lo hi:Option Int):pCut (.lst xs) lo hi=some (cutP xs lo hi):=rfl
theorem pCutS_s {z:Str} (h:z.length≤100000) (lo hi:Option Int):pCutS (.str z) lo hi=some (.str (Txt.slice z lo hi)):=if_pos (XI h)
theorem pTuple_l (xs:List PV):XF [.lst xs]=some (.tup xs):=rfl
theorem pTuple_t (xs:List PV):XF [.tup xs]=some (.tup xs):=rfl
theorem pAdd_s {a b:Str} (h:a.length + b.length≤100000):pAdd (.str a) (.str b)=some (.str (a++b)):=if_pos (XI h)
theorem pCat_l {a b:List PV} (h:a.length + b.length≤100000):pCat (.lst a) (.lst b)=some (a++b):=if_pos (XI h)
theorem tru_bit (b:Bool):(((if b=true then 1 else 0):Int) != 0)=b:=by cases b <;> rfl
theorem isInt_i (i:Int):isInt (.int i)=true:=rfl
theorem isBl_i (i:Int):isBl (.int i)=false:=rfl
theorem isBl_b (i:Bool):isBl (.bl i)=true:=rfl
theorem isStr_s (i:Str):isStr (.str i)=true:=rfl
theorem isTup_t (i:List PV):isTup (.tup i)=true:=rfl
theorem isTup_l (i:List PV):isTup (.lst i)=false:=rfl
theorem isLst_l (i:List PV):isLst (.lst i)=true:=rfl
theorem isN_i (i:Int):isN (.int i)=false:=rfl
theorem isN_n:isN .non=true:=rfl
theorem isN_t (i:List PV):isN (.tup i)=false:=rfl
theorem forL_nx {g:PV→PEnv→Option PEnv} {b:MSt} {x:PV} {xs:List PV} {γ γ1 γ2:PEnv} (h1:g x γ=some γ1) (h2:b γ1=some (.nx γ2)):forL g b (x :: xs) γ=forL g b xs γ2:=by
  rw [forL,h1,Option.bind_some,h2,Option.bind_some]
theorem forL_nil (g:PV→PEnv→Option PEnv) (b:MSt) (γ:PEnv):forL g b [] γ=some (.nx γ):=rfl
theorem runV_0 {N:Nat} {m:MSt}:runV N 0 m []=(m (ZM N [])).bind outV:=rfl
theorem runV_1 {N:Nat} {m:MSt} {a0:PV}:runV N 1 m [a0]=(m (ZM N [a0])).bind outV:=rfl
theorem runV_2 {N:Nat} {m:MSt} {a0 a1:PV}:runV N 2 m [a0,a1]=(m (ZM N [a0,a1])).bind outV:=rfl
theorem runV_3 {N:Nat} {m:MSt} {a0 a1 a2:PV}:runV N 3 m [a0,a1,a2]=(m (ZM N [a0,a1,a2])).bind outV:=rfl
theorem runV_4 {N:Nat} {m:MSt} {a0 a1 a2 a3:PV}:runV N 4 m [a0,a1,a2,a3]=(m (ZM N [a0,a1,a2,a3])).bind outV:=rfl
theorem runV_5 {N:Nat} {m:MSt} {a0 a1 a2 a3 a4:PV}:runV N 5 m [a0,a1,a2,a3,a4]=(m (ZM N [a0,a1,a2,a3,a4])).bind outV:=rfl
theorem runV_6 {N:Nat} {m:MSt} {a0 a1 a2 a3 a4 a5:PV}:runV N 6 m [a0,a1,a2,a3,a4,a5]=(m (ZM N [a0,a1,a2,a3,a4,a5])).bind outV:=rfl
theorem runV_7 {N:Nat} {m:MSt} {a0 a1 a2 a3 a4 a5 a6:PV}:runV N 7 m [a0,a1,a2,a3,a4,a5,a6]=(m (ZM N [a0,a1,a2,a3,a4,a5,a6])).bind outV:=rfl
noncomputable def frzS:Slot→Slot
  | .ow xs => .fz (.lst xs)
  | s=>s
theorem frzS_ow (xs:List PV):frzS (.ow xs) = .fz (.lst xs):=rfl
theorem frzS_fz (p:PV):frzS (.fz p) = .fz p:=rfl
theorem frzS_un:frzS .un = .un:=rfl
theorem frz_nil (γ:PEnv):frz [] γ=γ:=rfl
theorem frz_cons (i:Nat) (ms:List Nat) (γ:PEnv):frz (i :: ms) γ=frz ms (frz1 γ i):=rfl
theorem frz1_0 (s:Slot) (γ:PEnv):frz1 (s :: γ) 0=frzS s :: γ:=by cases s <;> rfl
theorem frz1_s (s:Slot) (γ:PEnv) (i:Nat):frz1 (s :: γ) (i + 1)=s :: frz1 γ i:=by
  unfold frz1
  rw [List.getElem?_cons_succ]
  cases γ[i]? with
  | none=>rfl
  | some t=>cases t <;> rfl
theorem ev_mN (n:Nat) (γ:PEnv):mN n γ=some (pN n):=rfl
noncomputable def encN (xs:List Nat):List PV:=xs.map pN
theorem encN_len (xs:List Nat):(encN xs).length=xs.length:=List.length_map _
theorem flat_n (n:Nat):flat (pN n)=true:=rfl
theorem encN_flat (xs:List Nat):(encN xs).all flat=true:=by
  unfold encN
  rw [List.all_map,List.all_eq_true]
  exact fun _ _=>rfl
theorem Qlb (xs:List Nat):encN xs=(xs.map fun (k:Nat)=>(k:Int)).map .int:=by unfold encN;rw [List.map_map];rfl
theorem QeI (xs ys:List Nat):encN xs++encN ys=encN (xs++ys):=by unfold encN;rw [List.map_append]
theorem pAdd_n (a b:Nat):pAdd (pN a) (pN b)=some (pN (a + b)):=by
  unfold pN;rw [pAdd_i];simp
theorem pSub_n {a b:Nat} (h:b≤a):pSub (pN a) (pN b)=some (pN (a - b)):=by
  unfold pN;rw [pSub_i,Int.ofNat_sub h]
theorem pMul_ln {a b:Nat} (h:a < 2 ^ 60):pMul (pN a) (pN b)=some (pN (a * b)):=by
  unfold pN;rw [pMul_l (by omega) (by omega)];simp
theorem pMul_rn {a b:Nat} (h:b < 2 ^ 60):pMul (pN a) (pN b)=some (pN (a * b)):=by
  unfold pN;rw [pMul_r (by omega) (by omega)];simp
theorem pMod_n {a b:Nat} (h:0 < b):pMod (pN a) (pN b)=some (pN (a % b)):=by
  unfold pN;rw [pMod_i (by omega)];simp
theorem pMod_in {c:Int} {b:Nat} (h:0 < b):pMod (.int c) (pN b)=some (pN (c % (b:Int)).toNat):=by
  unfold pN;rw [pMod_i (by omega),Int.toNat_of_nonneg (Int.emod_nonneg _ (by omega))]
theorem pDiv_n {a b:Nat} (h:0 < b) (h2:b < 2 ^ 100):pDiv (pN a) (pN b)=some (pN (a / b)):=by
  unfold pN;rw [pDiv_i (by omega) (by omega)];simp
theorem pDiv_in {c:Int} {b:Nat} (h:0 < b) (h2:b < 2 ^ 100):pDiv (.int c) (pN b)=some (.int (c / (b:Int))):=by
  unfold pN;rw [pDiv_i (by omega) (by omega)]
theorem pLt_n (a b:Nat):pLt (pN a) (pN b)=some (.bl (decide (a < b))):=by
  unfold pN;rw [pLt_i];simp
theorem pGt_n (a b:Nat):pGt (pN a) (pN b)=some (.bl (decide (b < a))):=by
  unfold pN;rw [pGt_i];simp
theorem QcK (a b:Nat):((a:Int)==(b:Int))=(a==b):=by
  rw [Bool.eq_iff_iff,beq_iff_eq,beq_iff_eq];exact Int.ofNat_inj
theorem pEq_n (a b:Nat):pEq (pN a) (pN b)=some (.bl (a==b)):=by
  unfold pN;rw [pEq_i,QcK]
theorem pNe_n (a b:Nat):pNe (pN a) (pN b)=some (.bl (!(a==b))):=by
  unfold pN;rw [pNe_i,QcK]
theorem bAnd_n (a b:Nat):Builtin.bitAnd (a:Int) (b:Int)=((a&&&b:Nat):Int):=by
  rw [bitAnd_pp (by omega) (by omega)];simp
theorem bOr_n (a b:Nat):Builtin.bitOr (a:Int) (b:Int)=((a|||b:Nat):Int):=by
  unfold Builtin.bitOr
  rw [bitAnd_nn (by unfold Builtin.bitNot;omega) (by unfold Builtin.bitNot;omega)]
  unfold Builtin.bitNot
  have e:∀ a:Nat,(-(-(a:Int) - 1) - 1).toNat=a:=fun a=>by omega
  rw [e,e]
  omega
theorem pAnd_n (a b:Nat):pAnd (pN a) (pN b)=some (pN (a&&&b)):=by unfold pN;rw [pAnd_i,bAnd_n]
theorem pOr_n (a b:Nat):pOr (pN a) (pN b)=some (pN (a|||b)):=by unfold pN;rw [pOr_i,bOr_n]
theorem pShl_n {k:Nat} (h:k≤1000000):pShl (pN 1) (pN k)=some (pN (2 ^ k)):=by
  have e:=pShl_one (k:=(k:Int)) (by omega) (by omega)
  unfold pN
  rw [show ((1:Nat):Int)=1 from rfl,e];simp
theorem pShr_n (m k:Nat):pShr (pN m) (pN k)=some (pN (m / 2 ^ k)):=by
  unfold pN;rw [pShr_i (by omega)];simp
theorem testBit_odd (m k:Nat):((m / 2 ^ k)&&&1 != 0)=m.testBit k:=by
  rw [Nat.testBit,Nat.shiftRight_eq_div_pow,Nat.and_comm]
theorem testBit_mod (m k:Nat):(m / 2 ^ k % 2==1)=m.testBit k:=by
  rw [← testBit_odd,Nat.and_one_is_mod]
  have h:m / 2 ^ k % 2=0∨m / 2 ^ k % 2=1:=by omega
  rcases h with h | h <;> rw [h] <;> rfl
theorem pLen_ln (xs:List PV):pLen [.lst xs]=some (pN xs.length):=rfl
theorem pLen_tn (xs:List PV):pLen [.tup xs]=some (pN xs.length):=rfl
theorem pLen_sn {z:Str} (h:z.length≤100000):pLen [.str z]=some (pN z.length):=if_pos (XI h)
theorem rg1_n {n:Nat} (h:n≤100000):rg1 (pN n)=some (encN (List.range n)):=by
  unfold pN;rw [rg1_i (by omega) (by omega),Int.toNat_natCast];rfl
theorem pBits_pn (m:Nat):Qhd (pN m) []=some (pN (bitsN m)):=QkA m
theorem mtK_n {α:Type} (g:PV→List PV→Option α) (q:Option (List PV)) (i:Nat):mtK "int" g q (pN i)=q.bind (g (pN i)):=rfl
theorem isInt_n (i:Nat):isInt (pN i)=true:=rfl
theorem isBl_n (i:Nat):isBl (pN i)=false:=rfl
theorem isTup_n (i:Nat):isTup (pN i)=false:=rfl
theorem isN_pn (i:Nat):isN (pN i)=false:=rfl
theorem tru_n (i:Nat):tru (pN i)=some (i != 0):=by
  unfold pN;rw [tru_i]
  have:=QcK i 0
  show some (!((i:Int)==((0:Nat):Int)))=_
  rw [this];rfl
theorem pNeg_n (i:Nat):pNeg (pN i)=some (.int (-(i:Int))):=rfl
theorem atI_last1 (xs:List PV) (v:PV):atI (xs++[v]) (-((1:Nat):Int))=some v:=atI_last xs v
theorem pInt_n (i:Nat):pInt (pN i)=some (some (i:Int)):=rfl
theorem Qio {α:Type} (xs:List α) (i:Nat):atI xs (i:Int)=xs[i]?:=by
  cases h:xs[i]? with
  | some v=>exact atI_nat h
  | none =>
    have:=List.getElem?_eq_none_iff.mp h
    unfold atI ixN
    rw [if_pos (by omega),if_neg (by omega)]
    rfl
theorem pIx_ln (xs:List PV) (i:Nat):pIx (.lst xs) (pN i)=xs[i]?:=Qio xs i
theorem pIx_tn (xs:List PV) (i:Nat):pIx (.tup xs) (pN i)=xs[i]?:=Qio xs i
theorem encN_get (xs:List Nat) (i:Nat):(encN xs)[i]?=(xs[i]?).map pN:=by unfold encN;rw [List.getElem?_map]
theorem augK_n (i:Nat) (γ:PEnv) (r:Nat):augK i γ (pN r)=some (.nx (γ.set i (.fz (pN r)))):=rfl
theorem sixK_n {ms:List Nat} {i:Nat} {γ:PEnv} {r:PV} {xs:List PV} {j:Nat} (h1:j < xs.length) (h2:(flat r || !ms.contains i)=true):sixK ms i γ r (pN j) (some (.ow xs))=some (.nx ((ZD (flat r) ms γ).set i (.ow (xs.set j r)))):=by
  have:=sixK_ow (ms:=ms) (i:=i) (γ:=γ) (r:=r) (xs:=xs) (j:=(j:Int)) (by omega) (by omega) h2
  rw [Int.toNat_natCast] at this
  exact this
theorem peq_pn (a b:Nat):peq (pN a) (pN b)=(a==b):=by
  unfold pN
  have:peq (.int (a:Int)) (.int (b:Int))=((a:Int)==(b:Int)):=rfl
  rw [this,QcK]
theorem okv_n (a:Nat):okv (pN a)=true:=QcS _
theorem QhK (xs:List Nat):(encN xs).all okv=true:=by
  unfold encN
  rw [List.all_map,List.all_eq_true]
  exact fun _ _=>okv_n _
theorem any_pn (k:Nat) (xs:List Nat):((encN xs).any fun y=>peq y (pN k))=decide (k∈xs):=by
  unfold encN
  rw [List.any_map,Bool.eq_iff_iff,List.any_eq_true]
  simp [peq_pn]
theorem pIn_nl (k:Nat) (xs:List Nat):pIn (pN k) (.lst (encN xs))=some (.bl (decide (k∈xs))):=by
  have e:pIn (pN k) (.lst (encN xs))=if okv (pN k)=true∧(encN xs).all okv=true then some (.bl ((encN xs).any fun y=>peq y (pN k))) else none:=rfl
  rw [e,if_pos ⟨okv_n k,QhK xs⟩,any_pn]
theorem pIn_nt (k:Nat) (xs:List Nat):pIn (pN k) (.tup (encN xs))=some (.bl (decide (k∈xs))):=by
  have e:pIn (pN k) (.tup (encN xs))=if okv (pN k)=true∧(encN xs).all okv=true then some (.bl ((encN xs).any fun y=>peq y (pN k))) else none:=rfl
  rw [e,if_pos ⟨okv_n k,QhK xs⟩,any_pn]
theorem Qdi {x y:PV} {b:Bool} (h:pIn x y=some (.bl b)):QaZ x y=some (.bl (!b)):=by
  unfold QaZ
  rw [h]
  rfl
theorem pNotIn_nl (k:Nat) (xs:List Nat):QaZ (pN k) (.lst (encN xs))=some (.bl (!decide (k∈xs))):=Qdi (pIn_nl k xs)
theorem pNotIn_nt (k:Nat) (xs:List Nat):QaZ (pN k) (.tup (encN xs))=some (.bl (!decide (k∈xs))):=Qdi (pIn_nt k xs)
theorem compN {α:Type} {g:PV→PEnv→Option PEnv} {t:PEnv→Option Bool} {e:MEx} {γ:PEnv} (b:Nat→Bool) (y:Nat→PV) (xs:List Nat) (h:∀ x∈xs,∃ γ1,g (pN x) γ=some γ1∧t γ1=some (b x)∧(b x=true→e γ1=some (y x))) :
    Xy g t e γ (encN xs)=some ((xs.filter b).map y):=QeK pN b y xs h
theorem Qfo {g:PV→PEnv→Option PEnv} {e:MEx} {γ:PEnv} (y:Nat→PV) (xs:List Nat) (h:∀ x∈xs,∃ γ1,g (pN x) γ=some γ1∧e γ1=some (y x)) :
    Xy g XE e γ (encN xs)=some (xs.map y):=Qaa pN y xs h
theorem compNN {g:PV→PEnv→Option PEnv} {e:MEx} {γ:PEnv} (y:Nat→Nat) (xs:List Nat) (h:∀ x∈xs,∃ γ1,g (pN x) γ=some γ1∧e γ1=some (pN (y x))) :
    Xy g XE e γ (encN xs)=some (encN (xs.map y)):=by
  rw [Qfo (fun x=>pN (y x)) xs h];unfold encN;rw [List.map_map];rfl
theorem compNF {g:PV→PEnv→Option PEnv} {t:PEnv→Option Bool} {e:MEx} {γ:PEnv} (b:Nat→Bool) (xs:List Nat) (h:∀ x∈xs,∃ γ1,g (pN x) γ=some γ1∧t γ1=some (b x)∧e γ1=some (pN x)) :
    Xy g t e γ (encN xs)=some (encN (xs.filter b)):=by
  rw [compN (α:=Nat) b pN xs fun x hx=>by
    obtain ⟨γ1,h1,h2,h3⟩:=h x hx
    exact ⟨γ1,h1,h2,fun _=>h3⟩]
  rfl
end L2.PM

noncomputable section
namespace L2.PM
open PySem PySem.Spec PyProof.Rows

theorem cutP_map {α β:Type} (f:α→β) (xs:List α) (lo hi:Option Int):cutP (xs.map f) lo hi=(cutP xs lo hi).map f:=by
  unfold cutP
  rw [List.length_map,← List.map_drop,← List.map_take]
theorem cutP_len {α:Type} (xs:List α) (lo hi:Option Int):(cutP xs lo hi).length≤xs.length:=by
  unfold cutP
  rw [List.length_take,List.length_drop]
  omega
theorem cutP_nn {α:Type} (xs:List α) (a b:Nat):cutP xs (some (a:Int)) (some (b:Int))=(xs.take b).drop a:=by
  unfold cutP
  rw [HT.sIx_nat,HT.sIx_nat]
  apply List.ext_getElem?
  intro i
  rw [List.getElem?_take,List.getElem?_drop,List.getElem?_drop,List.getElem?_take]
  by_cases h:min a xs.length + i < xs.length
  · have ha:min a xs.length=a:=by omega
    rw [ha]
    by_cases h2:i < min b xs.length - a
    · rw [if_pos h2,if_pos (by omega)]
    · rw [if_neg h2,if_neg (by omega)]
  · have hn:xs[min a xs.length + i]?=none:=List.getElem?_eq_none (by omega)
    rw [hn]
    by_cases h3:a + i < b
    · rw [if_pos h3,List.getElem?_eq_none (by omega)]
      split <;> rfl
    · rw [if_neg h3]
      split <;> rfl
theorem cutP_0n {α:Type} (xs:List α) (b:Nat):cutP xs none (some (b:Int))=xs.take b:=by
  unfold cutP
  rw [HT.sIx_nat,HT.sIx_none]
  simp
theorem cutP_n0 {α:Type} (xs:List α) (a:Nat):cutP xs (some (a:Int)) none=xs.drop a:=by
  unfold cutP
  rw [HT.sIx_nat,HT.sIx_none]
  rw [List.take_of_length_le (by rw [List.length_drop];omega)]
  by_cases h:a≤xs.length
  · rw [Nat.min_eq_left h]
  · rw [Nat.min_eq_right (by omega),List.drop_length,List.drop_of_length_le (by omega)]
theorem QkO (s:Str) (r:List PV):Qbi (.str s :: r)=none:=rfl
theorem QjU {ss:List Str} (h:ss.length < 64):Qhc [.lst (ss.map .str)]=some ((QcZ ss).map .str):=by
  cases ss with
  | nil=>simp [Qhc,Qbi,XJ,QcZ]
  | cons s r =>
    show (match Qbi (.str s :: r.map .str) with
      | some ns=>if ns.length < 64 then some ((XJ ns).map PV.int) else none
      | none=>match strs? ((s :: r).map .str) with
        | some ss=>if ss.length < 64 then some ((QcZ ss).map PV.str) else none
        | none=>none)=_
    rw [QkO,strs?_map]
    exact if_pos h
theorem Qfv (ss:List Str):(QcZ ss).length=ss.length:=(Qas ss).length_eq
theorem QkL (ss:List Int):(XJ ss).length=ss.length:=(Yq ss).length_eq
theorem okv_strs {ss:List Str} (h:∀ s∈ss,PyData.strOk s=true):(ss.map PV.str).all okv=true:=by
  rw [List.all_map,List.all_eq_true]
  exact fun s hs=>QjW (h s hs)
theorem pIn_sl {s:Str} {ss:List Str} (h:PyData.strOk s=true) (hs:∀ s∈ss,PyData.strOk s=true):pIn (.str s) (.lst (ss.map .str))=some (.bl (ss.any (·==s))):=by
  have e:pIn (.str s) (.lst (ss.map .str))=if okv (.str s)=true∧(ss.map PV.str).all okv=true then some (.bl ((ss.map PV.str).any fun y=>peq y (.str s))) else none:=rfl
  rw [e,if_pos ⟨QjW h,okv_strs hs⟩,List.any_map]
  congr 3
theorem allflat_nats (ns:List Nat):(ns.map fun (k:Nat)=>PV.int k).all flat=true:=by simp [flat]
theorem YE (a b:Str):(a++b).length=a.length + b.length:=by
  show (a.cps++b.cps).size=_
  rw [Array.size_append];rfl
theorem Qaj {a b:Str} (h1:PyData.strOk a=true) (h2:PyData.strOk b=true):PyData.strOk (a++b)=true:=by
  unfold PyData.strOk at *
  show (a.cps++b.cps).all _=true
  rw [Array.all_append,h1,h2];rfl
theorem Qkr (sep:Str):Txt.join sep []=("":Str):=by
  unfold Txt.join
  rw [StrLaws.glued_eq_join]
  rfl
theorem Qkq (sep x:Str):Txt.join sep [x]=x:=by
  unfold Txt.join
  rw [StrLaws.glued_eq_join]
  rfl
theorem QiB (sep x:Str) (y:Str) (r:List Str):Txt.join sep (x :: y :: r)=x++sep++Txt.join sep (y :: r):=by
  unfold Txt.join
  rw [StrLaws.glued_eq_join,StrLaws.glued_eq_join]
  rfl
theorem QhM:PyData.strOk ("":Str)=true:=by decide +kernel
theorem Qex (sep:Str) (hs:PyData.strOk sep=true):∀ ss:List Str,(∀ s∈ss,PyData.strOk s=true)→PyData.strOk (Txt.join sep ss)=true
  | [],_=>by rw [Qkr];exact QhM
  | [x],h=>by rw [Qkq];exact h x (by simp)
  | x :: y :: r,h=>by
    rw [QiB]
    exact Qaj (Qaj (h x (by simp)) hs) (Qex sep hs (y :: r) fun s hs=>h s (List.mem_cons_of_mem _ hs))
theorem Qcm (sep:Str) (ss:List Str):(Txt.join sep ss).length=(ss.map Str.length).sum + (ss.length - 1) * sep.length:=by
  unfold Txt.join
  exact PySem.size_glued sep ss
theorem sum_len (ss:List Str) (b:Nat) (h:∀ s∈ss,s.length≤b):(ss.map Str.length).sum≤ss.length * b:=by
  induction ss with
  | nil=>simp
  | cons x l ih =>
    have h1:=ih fun k hk=>h k (List.mem_cons_of_mem _ hk)
    have h2:=h x (by simp)
    simp only [List.map_cons,List.sum_cons,List.length_cons,Nat.succ_mul]
    omega
theorem slice_ok {z:Str} (h:PyData.strOk z=true) (lo hi:Option Int):PyData.strOk (Txt.slice z lo hi)=true:=by
  unfold Txt.slice
  split
  · exact h
  · unfold PyData.strOk at h ⊢
    rw [List.all_toArray,List.all_eq_true]
    intro c hc
    rw [List.mem_filterMap] at hc
    obtain ⟨i,_,hi⟩:=hc
    rw [Array.all_eq_true] at h
    obtain ⟨hlt,rfl⟩:=Array.getElem?_eq_some_iff.mp hi
    exact h i hlt
theorem QiD (l u:Option Int) (n:Nat):(Builtin.Str.strSliceIndices l u 1 n).length≤n:=by
  unfold Builtin.Str.strSliceIndices PySem.sliceRange
  cases l <;> cases u <;> simp only [show (1:Int) > 0 by decide,if_true,List.length_map,List.length_range] <;> (split <;> (try split) <;> (try split) <;> (try simp only [Int.ediv_one]) <;> omega)
theorem Qkt (z:Str) (lo hi:Option Int):(Txt.slice z lo hi).length≤z.length:=by
  unfold Txt.slice
  split
  · exact Nat.le_refl _
  · have h1:=QiD lo hi z.length
    have h2:=List.length_filterMap_le (fun x=>z.cps[x]?) (Builtin.Str.strSliceIndices lo hi 1 z.length)
    show ((List.filterMap _ _).toArray).size≤_
    rw [List.size_toArray]
    omega
theorem EVc:type_of% (And.intro (And.intro (And.intro (And.intro (And.intro (And.intro (And.intro @ev_mN (And.intro @encN_len @encN_flat)) (And.intro @flat_n (And.intro @pAdd_n @pSub_n))) (And.intro (And.intro @pMul_ln (And.intro @pMul_rn @pMod_n)) (And.intro (And.intro @pMod_in @pDiv_n) (And.intro @pDiv_in @pLt_n)))) (And.intro (And.intro (And.intro @pGt_n (And.intro @pEq_n @pNe_n)) (And.intro (And.intro @pAnd_n @pOr_n) (And.intro @pShl_n @pShr_n))) (And.intro (And.intro @testBit_odd (And.intro @testBit_mod @rg1_n)) (And.intro (And.intro @mtK_n @isInt_n) (And.intro @isBl_n @isTup_n))))) (And.intro (And.intro (And.intro (And.intro @isN_pn (And.intro @tru_n @pNeg_n)) (And.intro @atI_last1 (And.intro @pInt_n @pIx_ln))) (And.intro (And.intro @pIx_tn (And.intro @encN_get @augK_n)) (And.intro (And.intro @sixK_n @pIn_nl) (And.intro @pIn_nt @pNotIn_nl)))) (And.intro (And.intro (And.intro @pNotIn_nt (And.intro @runV_0 @runV_1)) (And.intro (And.intro @runV_2 @runV_3) (And.intro @runV_4 @runV_5))) (And.intro (And.intro @runV_6 (And.intro @runV_7 @ev_startG1)) (And.intro (And.intro @ev_sSeq @seqK_nx) (And.intro @seqK_rt @seqK_ro)))))) (And.intro (And.intro (And.intro (And.intro (And.intro @seqK_ct (And.intro @seqK_bk @ev_sSet)) (And.intro @ev_sSetO (And.intro @ev_sRet @ev_sRetO))) (And.intro (And.intro @ev_sRetV (And.intro @retS_ow @retS_fz)) (And.intro (And.intro @ev_sIf @ifK_t) (And.intro @ifK_f @ev_sNx)))) (And.intro (And.intro (And.intro @ev_sBk (And.intro @ev_sCt @ev_bin2)) (And.intro (And.intro @ev_mVar @ev_mC) (And.intro @ev_mCall @ev_mLst))) (And.intro (And.intro @ev_mTup (And.intro @tupK_ok @ev_mLim)) (And.intro (And.intro @limK_ok @ev_aCons) (And.intro @ev_aNil @ev_truB))))) (And.intro (And.intro (And.intro (And.intro @isB_bl (And.intro @ev_mIsi @isiK_i)) (And.intro @isiK_b (And.intro @isiK_s @isiK_t))) (And.intro (And.intro @isiK_l (And.intro @isiK_0 @isiK_n)) (And.intro (And.intro @getV_0 @getV_s) (And.intro @val_fz @val_ow)))) (And.intro (And.intro (And.intro @pAdd_i (And.intro @pSub_i @pLt_i)) (And.intro (And.intro @pGt_i @pEq_i) (And.intro @pNe_i @pLen_ln))) (And.intro (And.intro @pLen_tn (And.intro @pIx_lst @pIx_tup)) (And.intro (And.intro @keepE_true @keepE_false) (And.intro @flat_int @flat_bl))))))) (And.intro (And.intro (And.intro (And.intro (And.intro (And.intro @flat_str (And.intro @flat_non @flat_tup)) (And.intro @flat_lst (And.intro @outV_rt @outV_ro))) (And.intro (And.intro @outV_nx (And.intro @ev_bAnd @andK_t)) (And.intro (And.intro @andK_f @ev_bOr) (And.intro @orK_t @orK_f)))) (And.intro (And.intro (And.intro @ev_bNot (And.intro @ev_vAnd @vAndK_t)) (And.intro (And.intro @vAndK_f @ev_un1) (And.intro @pNeg_i @ev_mMt0))) (And.intro (And.intro @ev_mMt (And.intro @mtK_i @mtK_s)) (And.intro (And.intro @mtK_l @ev_sForR) (And.intro @ev_sFor @ev_mComp))))) (And.intro (And.intro (And.intro (And.intro @cmpK_ok (And.intro @ev_iRg1 @rg1_i)) (And.intro @ev_iLst (And.intro @itL_l @ev_iTpl))) (And.intro (And.intro @itT_t (And.intro @ev_iSeq @itS_l)) (And.intro (And.intro @itS_t @pEnum_l) (And.intro @pEnum_t @pRev_l)))) (And.intro (And.intro (And.intro @ev_blkG (And.intro @ev_capS @capO_s)) (And.intro (And.intro @ev_gSet @gSet2_t) (And.intro @gSet3_t @ev_mTru))) (And.intro (And.intro @tru_i (And.intro @tru_b @tru_l)) (And.intro (And.intro @tru_t @ev_tYesM) (And.intro @pMod_i @pDiv_i)))))) (And.intro (And.intro (And.intro (And.intro (And.intro @pMul_l (And.intro @pMul_r @pBits_pn)) (And.intro @tru_bit (And.intro @ev_sl3 @ev_mNo))) (And.intro (And.intro @ev_mSo (And.intro @pInt_i @pCut_l)) (And.intro (And.intro @pCutS_s @pTuple_l) (And.intro @pTuple_t @pLen_sn)))) (And.intro (And.intro (And.intro @pAdd_s (And.intro @pCat_l @isInt_i)) (And.intro (And.intro @isBl_i @isBl_b) (And.intro @isStr_s @isTup_t))) (And.intro (And.intro @isTup_l (And.intro @isLst_l @isN_i)) (And.intro (And.intro @isN_n @isN_t) (And.intro @pIs_non @pIsNot_non))))) (And.intro (And.intro (And.intro (And.intro @forL_nil (And.intro @frz_nil @frz_cons)) (And.intro (And.intro @frz1_0 @frz1_s) (And.intro @frzS_ow @frzS_fz))) (And.intro (And.intro @frzS_un (And.intro @ev_sAug @augK_i)) (And.intro (And.intro @ev_sApp @ev_sSetIx) (And.intro @sixK_ow @allflat_ints)))) (And.intro (And.intro (And.intro @allflat_strs (And.intro @allflat_nats @cutP_map)) (And.intro (And.intro @Nat.not_lt_zero @decide_true) (And.intro @decide_false @Bool.not_true))) (And.intro (And.intro @Bool.not_false (And.intro @Bool.true_or @Bool.false_or)) (And.intro (And.intro @Bool.or_true @Bool.or_false) (And.intro @Bool.true_and @Bool.false_and)))))))):=(And.intro (And.intro (And.intro (And.intro (And.intro (And.intro (And.intro @ev_mN (And.intro @encN_len @encN_flat)) (And.intro @flat_n (And.intro @pAdd_n @pSub_n))) (And.intro (And.intro @pMul_ln (And.intro @pMul_rn @pMod_n)) (And.intro (And.intro @pMod_in @pDiv_n) (And.intro @pDiv_in @pLt_n)))) (And.intro (And.intro (And.intro @pGt_n (And.intro @pEq_n @pNe_n)) (And.intro (And.intro @pAnd_n @pOr_n) (And.intro @pShl_n @pShr_n))) (And.intro (And.intro @testBit_odd (And.intro @testBit_mod @rg1_n)) (And.intro (And.intro @mtK_n @isInt_n) (And.intro @isBl_n @isTup_n))))) (And.intro (And.intro (And.intro (And.intro @isN_pn (And.intro @tru_n @pNeg_n)) (And.intro @atI_last1 (And.intro @pInt_n @pIx_ln))) (And.intro (And.intro @pIx_tn (And.intro @encN_get @augK_n)) (And.intro (And.intro @sixK_n @pIn_nl) (And.intro @pIn_nt @pNotIn_nl)))) (And.intro (And.intro (And.intro @pNotIn_nt (And.intro @runV_0 @runV_1)) (And.intro (And.intro @runV_2 @runV_3) (And.intro @runV_4 @runV_5))) (And.intro (And.intro @runV_6 (And.intro @runV_7 @ev_startG1)) (And.intro (And.intro @ev_sSeq @seqK_nx) (And.intro @seqK_rt @seqK_ro)))))) (And.intro (And.intro (And.intro (And.intro (And.intro @seqK_ct (And.intro @seqK_bk @ev_sSet)) (And.intro @ev_sSetO (And.intro @ev_sRet @ev_sRetO))) (And.intro (And.intro @ev_sRetV (And.intro @retS_ow @retS_fz)) (And.intro (And.intro @ev_sIf @ifK_t) (And.intro @ifK_f @ev_sNx)))) (And.intro (And.intro (And.intro @ev_sBk (And.intro @ev_sCt @ev_bin2)) (And.intro (And.intro @ev_mVar @ev_mC) (And.intro @ev_mCall @ev_mLst))) (And.intro (And.intro @ev_mTup (And.intro @tupK_ok @ev_mLim)) (And.intro (And.intro @limK_ok @ev_aCons) (And.intro @ev_aNil @ev_truB))))) (And.intro (And.intro (And.intro (And.intro @isB_bl (And.intro @ev_mIsi @isiK_i)) (And.intro @isiK_b (And.intro @isiK_s @isiK_t))) (And.intro (And.intro @isiK_l (And.intro @isiK_0 @isiK_n)) (And.intro (And.intro @getV_0 @getV_s) (And.intro @val_fz @val_ow)))) (And.intro (And.intro (And.intro @pAdd_i (And.intro @pSub_i @pLt_i)) (And.intro (And.intro @pGt_i @pEq_i) (And.intro @pNe_i @pLen_ln))) (And.intro (And.intro @pLen_tn (And.intro @pIx_lst @pIx_tup)) (And.intro (And.intro @keepE_true @keepE_false) (And.intro @flat_int @flat_bl))))))) (And.intro (And.intro (And.intro (And.intro (And.intro (And.intro @flat_str (And.intro @flat_non @flat_tup)) (And.intro @flat_lst (And.intro @outV_rt @outV_ro))) (And.intro (And.intro @outV_nx (And.intro @ev_bAnd @andK_t)) (And.intro (And.intro @andK_f @ev_bOr) (And.intro @orK_t @orK_f)))) (And.intro (And.intro (And.intro @ev_bNot (And.intro @ev_vAnd @vAndK_t)) (And.intro (And.intro @vAndK_f @ev_un1) (And.intro @pNeg_i @ev_mMt0))) (And.intro (And.intro @ev_mMt (And.intro @mtK_i @mtK_s)) (And.intro (And.intro @mtK_l @ev_sForR) (And.intro @ev_sFor @ev_mComp))))) (And.intro (And.intro (And.intro (And.intro @cmpK_ok (And.intro @ev_iRg1 @rg1_i)) (And.intro @ev_iLst (And.intro @itL_l @ev_iTpl))) (And.intro (And.intro @itT_t (And.intro @ev_iSeq @itS_l)) (And.intro (And.intro @itS_t @pEnum_l) (And.intro @pEnum_t @pRev_l)))) (And.intro (And.intro (And.intro @ev_blkG (And.intro @ev_capS @capO_s)) (And.intro (And.intro @ev_gSet @gSet2_t) (And.intro @gSet3_t @ev_mTru))) (And.intro (And.intro @tru_i (And.intro @tru_b @tru_l)) (And.intro (And.intro @tru_t @ev_tYesM) (And.intro @pMod_i @pDiv_i)))))) (And.intro (And.intro (And.intro (And.intro (And.intro @pMul_l (And.intro @pMul_r @pBits_pn)) (And.intro @tru_bit (And.intro @ev_sl3 @ev_mNo))) (And.intro (And.intro @ev_mSo (And.intro @pInt_i @pCut_l)) (And.intro (And.intro @pCutS_s @pTuple_l) (And.intro @pTuple_t @pLen_sn)))) (And.intro (And.intro (And.intro @pAdd_s (And.intro @pCat_l @isInt_i)) (And.intro (And.intro @isBl_i @isBl_b) (And.intro @isStr_s @isTup_t))) (And.intro (And.intro @isTup_l (And.intro @isLst_l @isN_i)) (And.intro (And.intro @isN_n @isN_t) (And.intro @pIs_non @pIsNot_non))))) (And.intro (And.intro (And.intro (And.intro @forL_nil (And.intro @frz_nil @frz_cons)) (And.intro (And.intro @frz1_0 @frz1_s) (And.intro @frzS_ow @frzS_fz))) (And.intro (And.intro @frzS_un (And.intro @ev_sAug @augK_i)) (And.intro (And.intro @ev_sApp @ev_sSetIx) (And.intro @sixK_ow @allflat_ints)))) (And.intro (And.intro (And.intro @allflat_strs (And.intro @allflat_nats @cutP_map)) (And.intro (And.intro @Nat.not_lt_zero @decide_true) (And.intro @decide_false @Bool.not_true))) (And.intro (And.intro @Bool.not_false (And.intro @Bool.true_or @Bool.false_or)) (And.intro (And.intro @Bool.or_true @Bool.or_false) (And.intro @Bool.true_and @Bool.false_and))))))))
end L2.PM

set_option maxHeartbeats 4000000
noncomputable section
namespace DH
open PySem PySem.Spec PyProof.Rows L2 L2.PM
noncomputable def QaS:MSt:=(sSeq (sIf (truB (bin2 pLt (mVar 1) (Qk pLen (Qe (mVar 0) aNil)))) (sRet (bin2 pIx (mVar 0) (mVar 1))) sNx)
  (sRet (mN 0)))
noncomputable def QA:List PV→Option PV:=runV 2 2 QaS
theorem Yj:∀ ps r,QA ps=some r→ps.length=2:=Qw
noncomputable def Yh:MSt:=(sSeq (sIf (bAnd (truB (bin2 pEq (mVar 0) (mN 2))) (bOr (truB (bin2 pLt (bin2 pAdd (mVar 4) (mN 1)) (mVar 1))) (truB (bin2 pEq (bin2 pMod (mVar 4) (mN 2)) (mN 1))))) (sApp [1,4,4,4] 3 (mTup (Qe (bin2 pAdd (mVar 1) (mVar 4)) (Qe (mTup (Qe (bin2 pSub (bin2 pAdd (mVar 4) (mN 1)) (bin2 pMul (mN 2) (bin2 pMod (mVar 4) (mN 2)))) aNil)) aNil)))) sNx)
  (sIf (bAnd (truB (bin2 pEq (mVar 0) (mN 1))) (truB (bin2 pLt (bin2 pAdd (mVar 4) (mN 1)) (mVar 1)))) (sApp [1,4,4] 3 (mTup (Qe (bin2 pAdd (mVar 1) (mVar 4)) (Qe (mTup (Qe (bin2 pAdd (mVar 4) (mN 1)) aNil)) aNil)))) sNx))
noncomputable def QaQ:MSt:=(sSeq (YF [] 3 (mLim aNil))
  (sSeq (QgX (iRg1 (mVar 1)) (gSet 4) Yh)
  (sSeq (sIf (bAnd (truB (bin2 pEq (mVar 0) (mN 2))) (truB (bin2 pGt (mVar 1) (mN 1)))) (YF [3,2,2] 3 (bin2 pCat (mVar 3) (mLst (mLim (Qe (mTup (Qe (mVar 2) (Qe (mTup (Qe (mN 0) aNil)) aNil))) (Qe (mTup (Qe (mVar 2) (Qe (mTup (Qe (mN 1) aNil)) aNil))) aNil)))))) sNx)
  (QbH 3))))
noncomputable def Zm:List PV→Option (List PV):=runO 5 3 QaQ
theorem QbR:∀ ps r,Zm ps=some r→ps.length=3:=Qbo
noncomputable def QaR:MSt:=(sSeq (sSet [0,1,1,1] 2 (bin2 pMod (bin2 pAdd (bin2 pAdd (bin2 pAdd (bin2 pMod (mVar 0) (mN 2147483249)) (bin2 pMul (mN 15485867) (mVar 1))) (bin2 pMul (bin2 pMul (mN 523) (mVar 1)) (mVar 1))) (mN 37)) (mN 2147483249)))
  (sSeq (sSet [2,2] 2 (bin2 pMod (bin2 pMul (mVar 2) (mVar 2)) (mN 1499999957)))
  (sRet (bin2 pDiv (bin2 pMod (bin2 pMul (mVar 2) (bin2 pAdd (mN 27277) (bin2 pMul (mN 22) (mVar 1)))) (mN 1499999927)) (mN 3)))))
noncomputable def Qj:List PV→Option PV:=runV 3 2 QaR
theorem Qq:∀ ps r,Qj ps=some r→ps.length=2:=Qw
noncomputable def ZH:MSt:=(sIf (bOr (truB (bin2 pEq (mVar 3) (mN 0))) (bAnd (truB (bin2 pEq (mVar 4) (mN 0))) (truB (bin2 pEq (bin2 pMod (Qk Qj (Qe (mVar 1) (Qe (bin2 pAdd (mN 30) (mVar 6)) aNil))) (mN 2)) (mN 0))))) (QdN [1,6,2,3] 5 (bin2 pMod (Qk Qj (Qe (mVar 1) (Qe (bin2 pAdd (mN 20) (mVar 6)) aNil))) (bin2 pAdd (mVar 2) (mVar 3))) (mVar 6)) sNx)
noncomputable def Yf:MSt:=(sIf (bAnd (truB (bin2 pGt (mVar 3) (mN 0))) (truB (bin2 pLt (Qk pLen (Qe (mVar 7) aNil)) (mN 10)))) (sSeq (YF [1,1,2,3] 8 (YT (iRg1 (bin2 pMod (Qk Qj (Qe (mVar 1) (Qe (mN 1) aNil))) (mN 3))) 1 [1,2,3] (gSet 0) XE (bin2 pMod (Qk Qj (Qe (mVar 1) (Qe (bin2 pAdd (mN 4) (mVar 0)) aNil))) (bin2 pAdd (mVar 2) (mVar 3)))))
  (sSeq (sSet [2,1,3,8] 9 (mTup (Qe (bin2 pAdd (mVar 2) (bin2 pMod (Qk Qj (Qe (mVar 1) (Qe (mN 2) aNil))) (mVar 3))) (Qe (Qk XF (Qe (mLst (Qk Qbq (Qe (mVar 8) aNil))) aNil)) aNil))))
  (sIf (truB (bin2 QaZ (mVar 9) (mVar 7))) (sApp [9] 7 (mVar 9)) sNx))) sNx)
noncomputable def QaT:MSt:=(sSeq (sSet [0] 1 (Qk QA (Qe (mVar 0) (Qe (mN 0) aNil))))
  (sSeq (sSet [1] 2 (bin2 pMod (Qk Qj (Qe (mVar 1) (Qe (mN 0) aNil))) (mN 5)))
  (sSeq (sSet [2,1] 3 (bin2 pAdd (bin2 pAdd (mVar 2) (mN 1)) (bin2 pMod (Qk Qj (Qe (mVar 1) (Qe (mN 1) aNil))) (mN 4))))
  (sSeq (sSet [1] 4 (bin2 pMod (Qk Qj (Qe (mVar 1) (Qe (mN 2) aNil))) (mN 3)))
  (sSeq (sIf (truB (bin2 pEq (bin2 pMod (Qk Qj (Qe (mVar 1) (Qe (mN 3) aNil))) (mN 8)) (mN 4))) (sSeq (sSet [] 3 (mN 0))
  (sSet [] 4 (mN 0))) sNx)
  (sSeq (YF [2,2] 5 (YT (iRg1 (mVar 2)) 1 [2] (gSet 0) XE (bin2 pAdd (mVar 1) (mVar 0))))
  (sSeq (QgX (iRg1 (mVar 2)) (gSet 6) ZH)
  (sSeq (YF [4,2,2,3] 7 (Qk Zm (Qe (mVar 4) (Qe (mVar 2) (Qe (bin2 pSub (bin2 pAdd (mVar 2) (mVar 3)) (mN 1)) aNil)))))
  (sSeq (sFor [0] (iLst (mLst (sl3 pCut (mVar 0) (mSo (mN 3)) (mSo (mN 93))))) (gSet 1) Yf)
  (sRet (mTup (Qe (bin2 pAdd (mVar 2) (mVar 3)) (Qe (Qk XF (Qe (mVar 5) aNil)) (Qe (Qk XF (Qe (mVar 7) aNil)) aNil))))))))))))))
noncomputable def Zn:List PV→Option PV:=runV 10 1 QaT
theorem QbS:∀ ps r,Zn ps=some r→ps.length=1:=Qw
noncomputable def QaP:MSt:=(sSeq (sSet [] 2 (mC (.str "abcdefghijklmnopqrstuvwxyz")))
  (sRet (mMt "str" Qgg (mC (.str "")) (Qe (mLst (YT (iRg1 (mVar 1)) 1 [2,0] (gSet 0) XE (bin2 pIx (mVar 1) (bin2 pMod (Qk Qj (Qe (mVar 2) (Qe (bin2 pAdd (mN 3) (mVar 0)) aNil))) (mN 26))))) aNil))))
noncomputable def QY:List PV→Option PV:=runV 3 2 QaP
theorem Xg:∀ ps r,QY ps=some r→ps.length=2:=Qw
noncomputable def Yg:MSt:=(sSeq (sSet [4,3,0,6,8,5] 9 (bin2 pAdd (bin2 pAdd (mVar 4) (bin2 pIx (mVar 3) (bin2 pMod (bin2 pAdd (mVar 0) (bin2 pMul (mVar 6) (mVar 8))) (mN 26)))) (mVar 5)))
  (sSeq (sIf (truB (bin2 pEq (bin2 pMod (bin2 pDiv (mVar 0) (mN 2)) (mN 2)) (mN 0))) (sSet [9,9,0,8,5] 9 (sl3 pCutS (mVar 9) mNo (mSo (bin2 pSub (Qk pLen (Qe (mVar 9) aNil)) (bin2 pMod (Qk Qj (Qe (mVar 0) (Qe (bin2 pAdd (mN 40) (mVar 8)) aNil))) (bin2 pAdd (Qk pLen (Qe (mVar 5) aNil)) (mN 1))))))) sNx)
  (sSeq (sIf (truB (bin2 pIn (mVar 9) (mLst (mLim (Qe (mC (.str "guess")) (Qe (mC (.str "unless")) (Qe (mC (.str "if")) aNil))))))) (sSet [9] 9 (bin2 pAdd (mVar 9) (mC (.str "q")))) sNx)
  (sApp [9] 7 (mVar 9)))))
noncomputable def QaO:MSt:=(sSeq (sSet [] 3 (mC (.str "abcdefghijklmnopqrstuvwxyz")))
  (sSeq (sSet [0,0] 4 (Qk QY (Qe (mVar 0) (Qe (bin2 pMod (Qk Qj (Qe (mVar 0) (Qe (mN 0) aNil))) (mN 6)) aNil))))
  (sSeq (sSet [0,0] 5 (Qk QY (Qe (bin2 pDiv (mVar 0) (mN 3)) (Qe (bin2 pMod (Qk Qj (Qe (mVar 0) (Qe (mN 1) aNil))) (mN 7)) aNil))))
  (sSeq (sSet [0] 6 (bin2 pIx (mLst (mLim (Qe (mN 1) (Qe (mN 3) (Qe (mN 5) (Qe (mN 7) (Qe (mN 9) (Qe (mN 11) aNil)))))))) (bin2 pMod (Qk Qj (Qe (mVar 0) (Qe (mN 2) aNil))) (mN 6))))
  (sSeq (YF [] 7 (mLim aNil))
  (sSeq (QgX (iRg1 (mVar 1)) (gSet 8) Yg)
  (sRet (Qk XF (Qe (mLst (bin2 pCat (mLst (Qk Qhc (Qe (mLst (sl3 pCut (mVar 7) mNo (mSo (mVar 2)))) aNil))) (mLst (Qk Qhc (Qe (mLst (sl3 pCut (mVar 7) (mSo (mVar 2)) mNo)) aNil))))) aNil)))))))))
noncomputable def QX:List PV→Option PV:=runV 10 3 QaO
theorem Xf:∀ ps r,QX ps=some r→ps.length=3:=Qw
noncomputable def Qig:MSt:=(Qcl (YT (iRg1 (mMt0 "int" Qhd (mVar 0))) 1 [0] (gSet 0) (mTru (bin2 pAnd (bin2 pShr (mVar 1) (mVar 0)) (mN 1))) (mVar 0)))
noncomputable def YA:List PV→Option PV:=runV 1 1 Qig
theorem Qcp:∀ ps r,YA ps=some r→ps.length=1:=Qw
noncomputable def Qih:MSt:=(sRet (bin2 pEq (bin2 pAnd (mVar 0) (mVar 1)) (mVar 0)))
noncomputable def QM:List PV→Option PV:=runV 2 2 Qih
theorem Zw:∀ ps r,QM ps=some r→ps.length=2:=Qw
noncomputable def Qay:MSt:=(sAug 1 pOr (bin2 pShl (mN 1) (mVar 2)))
noncomputable def Qdo:MSt:=(sSeq (sSet [] 1 (mN 0))
  (sSeq (sFor [0] (iSeq (mVar 0)) (gSet 2) Qay)
  (QbH 1)))
noncomputable def Zo:List PV→Option PV:=runV 3 1 Qdo
theorem XC:∀ ps r,Zo ps=some r→ps.length=1:=Qw
noncomputable def QbB:MSt:=(sRet (bin2 pOr (mVar 1) (Qk Zo (Qe (mLst (YT (iLst (mVar 2)) 1 [0] (gSet 0) XE (bin2 pIx (bin2 pIx (bin2 pIx (mVar 1) (mN 2)) (mVar 0)) (mN 0)))) aNil))))
noncomputable def ZA:List PV→Option PV:=runV 3 3 QbB
theorem Qch:∀ ps r,ZA ps=some r→ps.length=3:=Qw
noncomputable def ZL:MSt:=(sSeq (sSet [8] 9 (bin2 pShl (mN 1) (bin2 pIx (mVar 8) (mN 0))))
  (sIf (bAnd (bNot (mTru (Qk QM (Qe (mVar 9) (Qe (mVar 4) aNil))))) (mTru (Qk QM (Qe (bin2 pIx (mVar 3) (mVar 7)) (Qe (mVar 4) aNil))))) (sSeq (sAug 4 pOr (mVar 9))
  (sSeq (sApp [7] 5 (mVar 7))
  (sSet [] 6 (mC (.bl true))))) sNx))
noncomputable def ZK:MSt:=(sSeq (sSet [] 6 (mC (.bl false)))
  (sFor [2] (Qk Qfj (Qe (mVar 2) aNil)) (Qbj 7 8) ZL))
noncomputable def XS:MSt:=(sSeq (sSet [0] 2 (bin2 pIx (mVar 0) (mN 2)))
  (sSeq (YF [2] 3 (YT (iTpl (mVar 2)) 1 [] (gSet 0) XE (Qk Zo (Qe (bin2 pIx (mVar 0) (mN 1)) aNil))))
  (sSeq (sSet [1] 4 (mVar 1))
  (sSeq (YF [] 5 (mLim aNil))
  (sSeq (sSet [] 6 (mC (.bl true)))
  (sSeq (Qfg 1000 (mTru (mVar 6)) ZK)
  (QbH 5)))))))
noncomputable def QP:List PV→Option PV:=runV 10 2 XS
theorem QaI:∀ ps r,QP ps=some r→ps.length=2:=Qw
noncomputable def QfP:MSt:=(sRet (Qk ZA (Qe (mVar 0) (Qe (mVar 1) (Qe (Qk QP (Qe (mVar 0) (Qe (mVar 1) aNil))) aNil)))))
noncomputable def Yc:List PV→Option PV:=runV 2 2 QfP
theorem Qby:∀ ps r,Yc ps=some r→ps.length=2:=Qw
noncomputable def Qcr:MSt:=(sRet (Qk QM (Qe (bin2 pShl (mN 1) (mVar 2)) (Qe (Qk Yc (Qe (mVar 0) (Qe (mVar 1) aNil))) aNil))))
noncomputable def Zx:List PV→Option PV:=runV 3 3 Qcr
theorem XQ:∀ ps r,Zx ps=some r→ps.length=3:=Qw
noncomputable def Xz:MSt:=(sSeq (sSet [3,4] 5 (bin2 pAnd (mVar 3) (un1 pInv (bin2 pShl (mN 1) (mVar 4)))))
  (sIf (mTru (Qk Zx (Qe (mVar 0) (Qe (mVar 5) (Qe (mVar 2) aNil))))) (sSet [5] 3 (mVar 5)) sNx))
noncomputable def Qcf:MSt:=(sSeq (sIf (bNot (mTru (Qk Zx (Qe (mVar 0) (Qe (mVar 1) (Qe (mVar 2) aNil)))))) (sRet (mC .non)) sNx)
  (sSeq (sSet [1] 3 (mVar 1))
  (sSeq (sFor [1] (iLst (Qk YA (Qe (mVar 1) aNil))) (gSet 4) Xz)
  (QbH 3))))
noncomputable def QI:List PV→Option PV:=runV 6 3 Qcf
theorem QaM:∀ ps r,QI ps=some r→ps.length=3:=Qw
noncomputable def QaU:MX OT:=(xSeq (QdH [1] "word" (mVar 1))
  (QdH [2] "name" (mVar 2)))
noncomputable def Qr:Addr→List PV→OT→Option OT:=runX 3 3 (QaU)
theorem ZE:∀ a qs t t',Qr a qs t=some t'→qs.length + 1=3:=Qbn
noncomputable def XU:MX OT:=(xSeq (QeQ 0 [0,1] Qr (Qe (mVar 0) (Qe (mVar 1) (Qe (mC (.str "maybe")) aNil))))
  (xSeq (QdH [2] "camp" (mVar 2))
  (xSeq (QdH [3] "reason" (mVar 3))
  (QdH [4] "other" (mVar 4)))))
noncomputable def QR:Addr→List PV→OT→Option OT:=runX 5 5 (XU)
theorem QaK:∀ a qs t t',QR a qs t=some t'→qs.length + 1=5:=Qbn
noncomputable def Xh:MX OT:=(xSeq (QeQ 0 [0,1] Qr (Qe (mVar 0) (Qe (mVar 1) (Qe (mC (.str "settled")) aNil))))
  (QdH [2] "reason" (mVar 2)))
noncomputable def QD:Addr→List PV→OT→Option OT:=runX 3 3 (Xh)
theorem XY:∀ a qs t t',QD a qs t=some t'→qs.length + 1=3:=Qbn
noncomputable def Qao:MX OT:=(xSeq (QeQ 0 [0,1] Qr (Qe (mVar 0) (Qe (mVar 1) (Qe (mC (.str "sure")) aNil))))
  (QdH [2] "pairs" (mVar 2)))
noncomputable def Za:Addr→List PV→OT→Option OT:=runX 3 3 (Qao)
theorem Qbl:∀ a qs t t',Za a qs t=some t'→qs.length + 1=3:=Qbn
noncomputable def XT:MX OT:=(QeQ 0 [0,1] Qr (Qe (mVar 0) (Qe (mVar 1) (Qe (mC (.str "never")) aNil))))
noncomputable def QQ:Addr→List PV→OT→Option OT:=runX 2 2 (XT)
theorem QaJ:∀ a qs t t',QQ a qs t=some t'→qs.length + 1=2:=Qbn
noncomputable def QbC:MSt:=(sRet (bin2 pSub (bin2 pShl (mN 1) (Qk pLen (Qe (bin2 pIx (mVar 0) (mN 1)) aNil))) (mN 1)))
noncomputable def QT:List PV→Option PV:=runV 1 1 QbC
theorem Xu:∀ ps r,QT ps=some r→ps.length=1:=Qw
noncomputable def Qid:MSt:=(sSeq (sSet [0,1] 2 (Qk Yc (Qe (mVar 0) (Qe (mVar 1) aNil))))
  (sRet (Qk Zo (Qe (mLst (YT (Qk Qfj (Qe (bin2 pIx (mVar 0) (mN 1)) aNil)) 2 [2] (Qbj 0 1) (mTru (Qk QM (Qe (bin2 pShl (mN 1) (mVar 1)) (Qe (mVar 2) aNil)))) (mVar 0))) aNil))))
noncomputable def Yz:List PV→Option PV:=runV 3 2 Qid
theorem Qco:∀ ps r,Yz ps=some r→ps.length=2:=Qw
noncomputable def Qej:MSt:=(sRet (bin2 pAnd (Qk QT (Qe (mVar 0) aNil)) (un1 pInv (Qk Yz (Qe (mVar 0) (Qe (mVar 1) aNil))))))
noncomputable def ZU:List PV→Option PV:=runV 2 2 Qej
theorem QaL:∀ ps r,ZU ps=some r→ps.length=2:=Qw
noncomputable def Qek:MSt:=(sRet (Qk ZU (Qe (mVar 0) (Qe (Qk ZU (Qe (mVar 0) (Qe (mVar 1) aNil))) aNil))))
noncomputable def Zb:List PV→Option PV:=runV 2 2 Qek
theorem Xj:∀ ps r,Zb ps=some r→ps.length=2:=Qw
noncomputable def Qdp:MSt:=(sSeq (sSet [0,1] 1 (Qk Zb (Qe (mVar 0) (Qe (mVar 1) aNil))))
  (sApp [1] 2 (mVar 1)))
noncomputable def Qif:MSt:=(sSeq (sSet [] 1 (mN 0))
  (sSeq (YF [1] 2 (mLim (Qe (mVar 1) aNil)))
  (sSeq (Qfg 1000 (truB (bin2 pNe (Qk Zb (Qe (mVar 0) (Qe (mVar 1) aNil))) (mVar 1))) Qdp)
  (QbH 2))))
noncomputable def Xt:List PV→Option PV:=runV 3 1 Qif
theorem Qgl:∀ ps r,Xt ps=some r→ps.length=1:=Qw
noncomputable def YM:MSt:=(sIf (mTru (Qk QM (Qe (bin2 pShl (mN 1) (mVar 1)) (Qe (mVar 3) aNil)))) (QbH 2) sNx)
noncomputable def QfR:MSt:=(sSeq (sFor [0] (Qk QgM (Qe (mVar 0) aNil)) (Qbj 2 3) YM)
  (sRet (mC .non)))
noncomputable def YQ:List PV→Option PV:=runV 4 2 QfR
theorem QeV:∀ ps r,YQ ps=some r→ps.length=2:=Qw
noncomputable def QfQ:MSt:=(sSeq (sSet [0] 1 (Qk Xt (Qe (mVar 0) aNil)))
  (sSeq (YF [0,1] 2 (YT (iRg1 (Qk pLen (Qe (bin2 pIx (mVar 0) (mN 1)) aNil))) 1 [1] (gSet 0) XE (Qk YQ (Qe (mVar 1) (Qe (mVar 0) aNil)))))
  (sRet (mTup (Qe (bin2 pIx (mVar 1) (un1 pNeg (mN 1))) (Qe (Qk XF (Qe (mVar 2) aNil)) aNil))))))
noncomputable def YO:List PV→Option PV:=runV 3 1 QfQ
theorem QeU:∀ ps r,YO ps=some r→ps.length=1:=Qw
noncomputable def Qel:MSt:=(sRet (bin2 pEq (bin2 pAnd (mVar 1) (Qk Yz (Qe (mVar 0) (Qe (mVar 1) aNil)))) (mN 0)))
noncomputable def Yp:List PV→Option PV:=runV 2 2 Qel
theorem QdW:∀ ps r,Yp ps=some r→ps.length=2:=Qw
noncomputable def Qie:MSt:=(sRet (vAnd (Qk Yp (Qe (mVar 0) (Qe (mVar 1) aNil))) (Qk QM (Qe (mVar 1) (Qe (Qk Zb (Qe (mVar 0) (Qe (mVar 1) aNil))) aNil)))))
noncomputable def Xs:List PV→Option PV:=runV 2 2 Qie
theorem Qgk:∀ ps r,Xs ps=some r→ps.length=2:=Qw
noncomputable def QeP:MSt:=(sSeq (sSet [2,3] 4 (Qk Qlq (Qe (mLst (YT (iLst (mVar 2)) 1 [3] (gSet 0) XE (Qk QM (Qe (mVar 1) (Qe (mVar 0) aNil))))) aNil)))
  (sIf (bAnd (bNot (mTru (mVar 4))) (mTru (Qk Xs (Qe (mVar 0) (Qe (mVar 3) aNil))))) (sApp [3] 2 (mVar 3)) sNx))
noncomputable def Qki:MSt:=(sSeq (YF [] 2 (mLim aNil))
  (sSeq (QgX (iRg3 (Qk QT (Qe (mVar 0) aNil)) (un1 pNeg (mN 1)) (un1 pNeg (mN 1))) (gSet 3) QeP)
  (sRet (Qk XF (Qe (mLst (YT (Qk pRev (Qe (mVar 2) aNil)) 1 [1] (gSet 0) (mTru (Qk QM (Qe (mVar 1) (Qe (mVar 0) aNil)))) (mVar 0))) aNil)))))
noncomputable def QaG:List PV→Option PV:=runV 5 2 Qki
theorem QgZ:∀ ps r,QaG ps=some r→ps.length=2:=Qw
noncomputable def d_lot (C:Nat→Addr):MSt:=(sSeq (sSet [0,0,1] 2 (Qk QI (Qe (mVar 0) (Qe (bin2 pIx (Qk YO (Qe (mVar 0) aNil)) (mN 0)) (Qe (mVar 1) aNil)))))
  (sSeq (sIf (truB (bin2 QgL (mVar 2) (mC .non))) (sRet (mNew (C 1) QD (Qe (mVar 1) (Qe (mVar 2) aNil)))) sNx)
  (sSeq (YF [0,0,1] 3 (YT (iTpl (Qk QaG (Qe (mVar 0) (Qe (mN 0) aNil)))) 1 [0,1] (gSet 0) XE (mTup (Qe (mVar 0) (Qe (Qk QI (Qe (mVar 1) (Qe (mVar 0) (Qe (mVar 2) aNil)))) aNil)))))
  (sSeq (YF [3] 4 (YT (iLst (mVar 3)) 1 [] (gSet 0) (truB (bin2 QgL (bin2 pIx (mVar 0) (mN 1)) (mC .non))) (mVar 0)))
  (sSeq (YF [3] 5 (YT (iLst (mVar 3)) 1 [] (gSet 0) (truB (bin2 pIs (bin2 pIx (mVar 0) (mN 1)) (mC .non))) (bin2 pIx (mVar 0) (mN 0))))
  (sSeq (sIf (bNot (mTru (mVar 5))) (sRet (mNew (C 2) Za (Qe (mVar 1) (Qe (Qk XF (Qe (mVar 4) aNil)) aNil)))) sNx)
  (sSeq (sIf (bNot (mTru (mVar 4))) (sRet (mNew (C 4) QQ (Qe (mVar 1) aNil))) sNx)
  (sRet (mNew (C 3) QR (Qe (mVar 1) (Qe (bin2 pIx (bin2 pIx (mVar 4) (mN 0)) (mN 0)) (Qe (bin2 pIx (bin2 pIx (mVar 4) (mN 0)) (mN 1)) (Qe (bin2 pIx (mVar 5) (mN 0)) aNil)))))))))))))
noncomputable def Qgf (C:Nat→Addr):List PV→Option PV:=runV 6 2 (d_lot C)
theorem Qky (C:Nat→Addr):∀ ps r,Qgf C ps=some r→ps.length=2:=Qw
noncomputable def Qcs:MSt:=(sRet (bin2 pAdd (bin2 pAdd (mC (.str "{")) (mMt "str" Qgg (mC (.str " ")) (Qe (mLst (YT (iRg1 (Qk pLen (Qe (mVar 0) aNil))) 1 [1,0] (gSet 0) (truB (bin2 pEq (bin2 pAnd (bin2 pShr (mVar 1) (mVar 0)) (mN 1)) (mN 1))) (bin2 pIx (mVar 2) (mVar 0)))) aNil))) (mC (.str "}"))))
noncomputable def QE:List PV→Option PV:=runV 2 2 Qcs
theorem QF:∀ ps r,QE ps=some r→ps.length=2:=Qw
noncomputable def XD (C:Nat→Addr):MSt:=(sApp [1,3,1,4] 2 (bin2 pAdd (bin2 pAdd (Qk QE (Qe (mVar 1) (Qe (mVar 3) aNil))) (mC (.str " "))) (Qk QE (Qe (mVar 1) (Qe (mVar 4) aNil)))))
noncomputable def Yx (C:Nat→Addr):MSt:=(sSeq (sIf (mTru (Qhl [(C 1,true),(C 2,false),(C 3,false),(C 4,false)] (mVar 0))) (Qcl (mLim (Qe (bin2 pAdd (mC (.str "settled ")) (Qk QE (Qe (mVar 1) (Qe (XH [C 1,C 2,C 3,C 4] "reason" (mVar 0)) aNil)))) aNil))) sNx)
  (sSeq (sIf (mTru (Qhl [(C 1,false),(C 2,true),(C 3,false),(C 4,false)] (mVar 0))) (sSeq (YF [] 2 (mLim (Qe (mC (.str "sure")) aNil)))
  (sSeq (sFor [0] (iTpl (XH [C 1,C 2,C 3,C 4] "pairs" (mVar 0))) (Qbj 3 4) (XD C))
  (QbH 2))) sNx)
  (sSeq (sIf (mTru (Qhl [(C 1,false),(C 2,false),(C 3,true),(C 4,false)] (mVar 0))) (sSeq (sSet [1,0,1,0] 5 (bin2 pAdd (bin2 pAdd (Qk QE (Qe (mVar 1) (Qe (XH [C 1,C 2,C 3,C 4] "camp" (mVar 0)) aNil))) (mC (.str " "))) (Qk QE (Qe (mVar 1) (Qe (XH [C 1,C 2,C 3,C 4] "reason" (mVar 0)) aNil)))))
  (Qcl (mLim (Qe (mC (.str "maybe")) (Qe (mVar 5) (Qe (Qk QE (Qe (mVar 1) (Qe (XH [C 1,C 2,C 3,C 4] "other" (mVar 0)) aNil))) aNil)))))) sNx)
  (sSeq (sIf (mTru (Qhl [(C 1,false),(C 2,false),(C 3,false),(C 4,true)] (mVar 0))) (Qcl (mLim (Qe (mC (.str "never")) aNil))) sNx)
  (Qcl (mLim aNil))))))
noncomputable def QV (C:Nat→Addr):List PV→Option PV:=runV 6 2 (Yx C)
theorem QcN (C:Nat→Addr):∀ ps r,QV C ps=some r→ps.length=2:=Qw
noncomputable def Qdy:MSt:=(sRet (bin2 pAdd (bin2 pAdd (mC (.str "{")) (mMt "str" Qgg (mC (.str " ")) (Qe (mLst (YT (iLst (Qk YA (Qe (mVar 1) aNil))) 1 [0] (gSet 0) XE (bin2 pIx (mVar 1) (mVar 0)))) aNil))) (mC (.str "}"))))
noncomputable def QL:List PV→Option PV:=runV 2 2 Qdy
theorem Yd:∀ ps r,QL ps=some r→ps.length=2:=Qw
noncomputable def Qap (C:Nat→Addr):MSt:=(Qcl (mLim (Qe (bin2 pAdd (bin2 pAdd (XH [C 1,C 2,C 3,C 4] "name" (mVar 0)) (mC (.str " "))) (Qk QL (Qe (mVar 1) (Qe (XH [C 1,C 2,C 3,C 4] "reason" (mVar 0)) aNil)))) aNil)))
noncomputable def QC (C:Nat→Addr):List PV→Option (List PV):=runO 2 2 (Qap C)
theorem YX (C:Nat→Addr):∀ ps r,QC C ps=some r→ps.length=2:=Qbo
noncomputable def Qcq:MSt:=(sRet (bin2 pAdd (bin2 pAdd (Qk QL (Qe (mVar 0) (Qe (mVar 1) aNil))) (mC (.str " "))) (Qk QL (Qe (mVar 0) (Qe (mVar 2) aNil)))))
noncomputable def Ze:List PV→Option PV:=runV 3 3 Qcq
theorem XO:∀ ps r,Ze ps=some r→ps.length=3:=Qw
noncomputable def Qct (C:Nat→Addr):MSt:=(Qcl (bin2 pCat (mLst (mLim (Qe (XH [C 1,C 2,C 3,C 4] "name" (mVar 0)) aNil))) (mLst (YT (iTpl (XH [C 1,C 2,C 3,C 4] "pairs" (mVar 0))) 2 [1] (Qbj 0 1) XE (Qk Ze (Qe (mVar 2) (Qe (mVar 0) (Qe (mVar 1) aNil))))))))
noncomputable def Zf (C:Nat→Addr):List PV→Option (List PV):=runO 2 2 (Qct C)
theorem XR (C:Nat→Addr):∀ ps r,Zf C ps=some r→ps.length=2:=Qbo
noncomputable def QbD (C:Nat→Addr):MSt:=(Qcl (mLim (Qe (XH [C 1,C 2,C 3,C 4] "name" (mVar 0)) (Qe (Qk Ze (Qe (mVar 1) (Qe (XH [C 1,C 2,C 3,C 4] "camp" (mVar 0)) (Qe (XH [C 1,C 2,C 3,C 4] "reason" (mVar 0)) aNil)))) (Qe (Qk QL (Qe (mVar 1) (Qe (XH [C 1,C 2,C 3,C 4] "other" (mVar 0)) aNil))) aNil)))))
noncomputable def QU (C:Nat→Addr):List PV→Option (List PV):=runO 2 2 (QbD C)
theorem Xv (C:Nat→Addr):∀ ps r,QU C ps=some r→ps.length=2:=Qbo
noncomputable def Qdz (C:Nat→Addr):MSt:=(Qcl (mLim (Qe (XH [C 1,C 2,C 3,C 4] "name" (mVar 0)) aNil)))
noncomputable def Zy (C:Nat→Addr):List PV→Option (List PV):=runO 2 2 (Qdz C)
theorem Qan (C:Nat→Addr):∀ ps r,Zy C ps=some r→ps.length=2:=Qbo
noncomputable def YW (C:Nat→Addr):MSt:=(sIf (bNot (mTru (mIsi isStr (mVar 4)))) (sRet (mC (.bl false))) sNx)
noncomputable def QaN (C:Nat→Addr):MSt:=(sSeq (sSet [0,1] 2 (Qk (QV C) (Qe (mVar 0) (Qe (mVar 1) aNil))))
  (sSeq (YF [0,1] 3 (QcU [(C 1,(QC C)),(C 2,(Zf C)),(C 3,(QU C)),(C 4,(Zy C))] "shown" (mVar 0) (Qe (mVar 1) aNil)))
  (sSeq (sIf (bOr (bNot (mTru (mIsi isLst (mVar 3)))) (truB (bin2 pEq (mVar 2) (mLst (mLim aNil))))) (sRet (mC (.bl false))) sNx)
  (sSeq (Qjm 3 (gSet 4) (YW C))
  (sSeq (sIf (truB (bin2 pNe (mVar 3) (mVar 2))) (sRet (mC (.bl false))) sNx)
  (sSeq (sClr 3)
  (sRet (bin2 pEq (mLst (QcU [(C 1,(QC C)),(C 2,(Zf C)),(C 3,(QU C)),(C 4,(Zy C))] "shown" (mVar 0) (Qe (mVar 1) aNil))) (mVar 2)))))))))
noncomputable def QH (C:Nat→Addr):List PV→Option PV:=runV 5 2 (QaN C)
theorem Yi (C:Nat→Addr):∀ ps r,QH C ps=some r→ps.length=2:=Qw
noncomputable def Qaz (C:Nat→Addr):MSt:=(sIf (bAnd (truB (bin2 pGt (bin2 pIx (mVar 1) (mN 0)) (mN 0))) (truB (bin2 QaZ (bin2 pMod (mVar 5) (bin2 pIx (mVar 1) (mN 0))) (mVar 4)))) (sApp [5,1] 4 (bin2 pMod (mVar 5) (bin2 pIx (mVar 1) (mN 0)))) sNx)
noncomputable def Qcg (C:Nat→Addr):MSt:=(sSeq (sSet [1,6] 7 (Qk (Qgf C) (Qe (mVar 1) (Qe (mVar 6) aNil))))
  (sIf (bOr (bNot (mTru (Qk (QH C) (Qe (mVar 7) (Qe (mVar 2) aNil))))) (bOr (bNot (mTru (Qk (QH C) (Qe (mVar 7) (Qe (mVar 3) aNil))))) (bNot (mTru (Qk (QH C) (Qe (mVar 7) (Qe (mVar 2) aNil))))))) (sRet (mC (.bl false))) sNx))
noncomputable def QfS (C:Nat→Addr):MSt:=(sSeq (sSet [0] 1 (Qk Zn (Qe (mVar 0) aNil)))
  (sSeq (sSet [0,1,1] 2 (Qk QX (Qe (Qk QA (Qe (mVar 0) (Qe (mN 1) aNil))) (Qe (bin2 pIx (mVar 1) (mN 0)) (Qe (Qk pLen (Qe (bin2 pIx (mVar 1) (mN 1)) aNil)) aNil)))))
  (sSeq (sSet [0,1,1] 3 (Qk QX (Qe (Qk QA (Qe (mVar 0) (Qe (mN 2) aNil))) (Qe (bin2 pIx (mVar 1) (mN 0)) (Qe (Qk pLen (Qe (bin2 pIx (mVar 1) (mN 1)) aNil)) aNil)))))
  (sSeq (YF [] 4 (mLim aNil))
  (sSeq (sFor [1,0] (iLst (mLst (bin2 pCat (mLst (mLim (Qe (bin2 pSub (bin2 pIx (mVar 1) (mN 0)) (mN 1)) aNil))) (mLst (sl3 pCut (mVar 0) (mSo (un1 pNeg (mN 3))) mNo))))) (gSet 5) (Qaz C))
  (sSeq (sFor [4] (iLst (mVar 4)) (gSet 6) (Qcg C))
  (sRet (mC (.bl true)))))))))
noncomputable def Qbw (C:Nat→Addr):List PV→Option PV:=runV 8 1 (QfS C)
end DH

noncomputable section
namespace DH
open PySem PySem.Spec PyProof.Rows L2 L2.PM
local macro_rules | `(tactic| walk_at "ev") => `(tactic| try simp (disch:=first | assumption | omega | (simp only [encN_len,List.length_map,List.length_range,List.length_cons,List.length_nil,List.length_append];omega) | decide) only [EVc,List.length_cons,List.length_nil,if_true,List.map_cons,List.map_nil,List.replicate_zero,List.replicate_succ,List.cons_append,List.nil_append,List.getElem?_cons_zero,List.getElem?_cons_succ,Option.bind_some,Option.map_some,List.set_cons_zero,List.set_cons_succ,List.length_map,List.length_range,List.all_nil,List.all_cons,List.length_append])
theorem e_cell (ns:List Int) (k:Nat):QA [.lst (ns.map .int),pN k]=some (.int (ns.getD k 0)):=by
  unfold QA QaS
  walk_at "ev"
  by_cases h:k < ns.length
  · rw [decide_eq_true h]
    walk_at "ev"
    simp [h]
    rfl
  · rw [decide_eq_false h]
    walk_at "ev"
    simp [h]
    rfl
end DH

noncomputable section
namespace DH
open PySem PySem.Spec PyProof.Rows L2 L2.PM
end DH

noncomputable section
namespace DH
open PySem PySem.Spec PyProof.Rows L2 L2.PM
noncomputable def XG (row:List Nat):Nat:=row.foldl (fun m k=>m|||2 ^ k) 0
theorem Qcn (k:Nat):∀ (row:List Nat) (m:Nat),(row.foldl (fun m k=>m|||2 ^ k) m).testBit k=(m.testBit k||decide (k∈row))
  | [],m=>by simp
  | x :: r,m=>by
    rw [List.foldl_cons,Qcn k r,Nat.testBit_or,Nat.testBit_two_pow]
    by_cases h:x=k
    · subst h;simp
    · have h':k≠x:=fun e=>h e.symm
      simp [h,h']
theorem Qag (row:List Nat) (k:Nat):(XG row).testBit k=decide (k∈row):=by
  unfold XG
  rw [Qcn];simp
noncomputable def insB (a b:Nat):Bool:=(a&&&b)==a
theorem ZQ {a b:Nat}:insB a b=true↔∀ k,a.testBit k=true→b.testBit k=true:=by
  unfold insB
  rw [beq_iff_eq]
  constructor
  · intro h k hk
    rw [← h,Nat.testBit_and] at hk
    simp at hk
    exact hk.2
  · intro h
    refine Nat.eq_of_testBit_eq fun k => ?_
    rw [Nat.testBit_and]
    cases hk:a.testBit k with
    | false=>rfl
    | true=>rw [h k hk];rfl
theorem QcG {k b:Nat}:insB (2 ^ k) b=b.testBit k:=by
  rw [Bool.eq_iff_iff,ZQ]
  constructor
  · intro h;exact h k Nat.testBit_two_pow_self
  · intro h j hj
    rw [Nat.testBit_two_pow] at hj
    simp at hj
    rw [← hj];exact h
theorem QkQ {row:List Nat} {b:Nat}:insB (XG row) b=row.all fun k=>b.testBit k:=by
  rw [Bool.eq_iff_iff,ZQ,List.all_eq_true]
  constructor
  · intro h k hk;exact h k (by rw [Qag];simpa using hk)
  · intro h k hk;rw [Qag] at hk;exact h k (by simpa using hk)
local macro_rules | `(tactic| walk_at "ev") => `(tactic| try simp (disch:=first | assumption | omega | (simp only [encN_len,List.length_map,List.length_range,List.length_cons,List.length_nil,List.length_append];omega) | decide) only [EVc,List.length_cons,List.length_nil,if_true,List.map_cons,List.map_nil,List.replicate_zero,List.replicate_succ,List.cons_append,List.nil_append,List.getElem?_cons_zero,List.getElem?_cons_succ,Option.bind_some,Option.map_some,List.set_cons_zero,List.set_cons_succ,List.length_map,List.length_range,List.all_nil,List.all_cons,List.length_append])
theorem e_inside (a b:Nat):QM [pN a,pN b]=some (.bl (insB a b)):=by
  unfold QM Qih
  walk_at "ev"
  rfl
theorem QhQ {row:List Nat} (h:∀ k∈row,k≤1000) (s2:Slot) (sl:Slot):∃ s2',forL (gSet 2) Qay (encN row) [sl,.fz (pN 0),s2]=some (.nx [sl,.fz (pN (XG row)),s2']):=by
  obtain ⟨γ',e,s2',rfl⟩:=QhW (g:=gSet 2) (b:=Qay) pN (fun (m:Nat) (k:Nat)=>m|||2 ^ k)
    (fun m γ=>∃ s2,γ=[sl,.fz (pN m),s2]) row 0 [sl,.fz (pN 0),s2] ⟨s2,rfl⟩ (by
      rintro m γ k hk ⟨s2,rfl⟩
      have:=h k hk
      refine ⟨_,_,rfl,?_,.fz (pN k),rfl⟩
      unfold Qay
      walk_at "ev")
  exact ⟨s2',e⟩
theorem Qib {row:List Nat} (h:∀ k∈row,k≤1000):Zo [.lst (encN row)]=some (pN (XG row)):=by
  unfold Zo Qdo
  walk_at "ev"
  obtain ⟨s,e⟩:=QhQ h .un (.fz (.lst (encN row)))
  rw [e]
  walk_at "ev"
theorem e_mask_t {row:List Nat} (h:∀ k∈row,k≤1000):Zo [.tup (encN row)]=some (pN (XG row)):=by
  unfold Zo Qdo
  walk_at "ev"
  obtain ⟨s,e⟩:=QhQ h .un (.fz (.tup (encN row)))
  rw [e]
  walk_at "ev"
end DH

noncomputable section
namespace DH
open PySem PySem.Spec PyProof.Rows L2 L2.PM
structure Rule where
  head:Nat
  body:List Nat
structure Bk where
  words:Nat
  banes:List Nat
  rules:List Rule
noncomputable def Rule.enc (r:Rule):PV := .tup [pN r.head,.tup (encN r.body)]
noncomputable def Bk.enc (b:Bk):PV := .tup [pN b.words,.tup (encN b.banes),.tup (b.rules.map Rule.enc)]
structure Bk.Ok (b:Bk):Prop where
  g8:b.banes.length≤8
  gw:b.banes.length≤b.words
  w60:b.words≤60
  r40:b.rules.length≤48
  bane:∀ x∈b.banes,x < b.words
  hd:∀ r∈b.rules,b.banes.length≤r.head∧r.head < b.words
  bd:∀ r∈b.rules,r.body.Pairwise (· < ·)∧∀ x∈r.body,x < b.words
inductive Way (b:Bk) (held:Nat):List Nat→Nat→Prop
  | nil:Way b held [] held
  | snoc {steps known i r}:Way b held steps known→b.rules[i]?=some r→(∀ x∈r.body,known.testBit x=true)→known.testBit r.head=false→Way b held (steps++[i]) (known|||2 ^ r.head)
noncomputable def Qbe (b:Bk) (known:Nat):Prop:=∀ r∈b.rules,(∀ x∈r.body,known.testBit x=true)→known.testBit r.head=true
inductive Der (b:Bk) (held:Nat):Nat→Prop
  | held {w}:held.testBit w=true→Der b held w
  | rule {r}:r∈b.rules→(∀ x∈r.body,Der b held x)→Der b held r.head
theorem ZR (m k j:Nat):(m|||2 ^ k).testBit j=(m.testBit j||decide (k=j)):=by
  rw [Nat.testBit_or,Nat.testBit_two_pow]
theorem Way.der {b:Bk} {held:Nat} {steps:List Nat} {known:Nat} (h:Way b held steps known):∀ w,known.testBit w=true→Der b held w:=by
  induction h with
  | nil=>exact fun w hw => .held hw
  | snoc _ hr hb _ ih =>
    intro w hw
    rw [ZR] at hw
    simp at hw
    rcases hw with hw | hw
    · exact ih w hw
    · subst hw;exact .rule (List.mem_of_getElem? hr) fun x hx=>ih x (hb x hx)
theorem Way.sub {b:Bk} {held:Nat} {steps:List Nat} {known:Nat} (h:Way b held steps known):∀ w,held.testBit w=true→known.testBit w=true:=by
  induction h with
  | nil=>exact fun w hw=>hw
  | snoc _ hr hb _ ih =>
    intro w hw
    rw [ZR,ih w hw];rfl
theorem Qbe.der {b:Bk} {held known:Nat} (c:Qbe b known) (s:∀ w,held.testBit w=true→known.testBit w=true) {w:Nat} (h:Der b held w):known.testBit w=true:=by
  induction h with
  | held hw=>exact s _ hw
  | rule hr _ ih=>exact c _ hr ih
noncomputable def IsYl (b:Bk) (held known:Nat):Prop:=∀ w,known.testBit w=true↔Der b held w
theorem IsYl.of {b:Bk} {held:Nat} {steps:List Nat} {known:Nat} (h:Way b held steps known) (c:Qbe b known):IsYl b held known:=fun w=>⟨h.der w,c.der h.sub⟩
theorem IsYl.unique {b:Bk} {held k1 k2:Nat} (h1:IsYl b held k1) (h2:IsYl b held k2):k1=k2 :=
  Nat.eq_of_testBit_eq fun w=>by rw [Bool.eq_iff_iff,h1 w,h2 w]
theorem Der.mono {b:Bk} {h1 h2:Nat} (s:∀ w,h1.testBit w=true→h2.testBit w=true) {w:Nat} (d:Der b h1 w):Der b h2 w:=by
  induction d with
  | held hw=>exact .held (s _ hw)
  | rule hr _ ih=>exact .rule hr ih
theorem Der.lt {b:Bk} (ok:b.Ok) {held:Nat} (hh:held < 2 ^ b.words) {w:Nat} (d:Der b held w):w < b.words:=by
  induction d with
  | held hw =>
    rename_i w
    rcases Nat.lt_or_ge w b.words with h | h
    · exact h
    · have:held < 2 ^ w:=Nat.lt_of_lt_of_le hh (Nat.pow_le_pow_right (by decide) h)
      rw [Nat.testBit_lt_two_pow this] at hw;cases hw
  | rule hr _ _=>exact (ok.hd _ hr).2
theorem Der.guess {b:Bk} (ok:b.Ok) {held g:Nat} (hg:g < b.banes.length) (d:Der b held g):held.testBit g=true:=by
  cases d with
  | held hw=>exact hw
  | rule hr _=>have:=(ok.hd _ hr).1;omega
noncomputable def left (b:Bk) (known:Nat):Nat:=(b.rules.filter fun r => !known.testBit r.head).length
theorem Qdm {α:Type} {p q:α→Bool}:∀ {l:List α} {x:α},x∈l→p x=true→q x=false→(∀ y,q y=true→p y=true)→(l.filter q).length < (l.filter p).length
  | y :: l,x,hx,hp,hq,hi=>by
    have le:∀ l:List α,(l.filter q).length≤(l.filter p).length:=by
      intro l
      induction l with
      | nil=>exact Nat.le_refl _
      | cons z l ih =>
        rw [List.filter_cons,List.filter_cons]
        cases hz:q z with
        | true=>rw [hi z hz];simp;exact ih
        | false=>cases p z <;> simp <;> omega
    rcases List.mem_cons.mp hx with e | e
    · subst e
      rw [List.filter_cons_of_pos hp,List.filter_cons_of_neg (by simp [hq])]
      have:=le l
      simp only [List.length_cons];omega
    · have:=Qdm e hp hq hi
      rw [List.filter_cons,List.filter_cons]
      cases hz:q y with
      | true=>rw [hi y hz];simp;omega
      | false=>cases p y <;> simp <;> omega
theorem Way.left {b:Bk} {held:Nat} {steps:List Nat} {known:Nat} (h:Way b held steps known):steps.length + left b known≤b.rules.length:=by
  induction h with
  | nil=>rw [List.length_nil,Nat.zero_add];exact List.length_filter_le _ _
  | snoc _ hr hb hn ih =>
    rename_i st kn i r _
    have:DH.left b (kn|||2 ^ r.head) < DH.left b kn:=Qdm (List.mem_of_getElem? hr) (by simp [hn]) (by rw [ZR];simp) (fun y hy=>by
      rw [ZR] at hy
      simp at hy
      simp [hy.1])
    simp only [List.length_append,List.length_cons,List.length_nil]
    omega
noncomputable def hds (b:Bk) (steps:List Nat):List Nat:=steps.map fun i=>(b.rules.getD i ⟨0,[]⟩).head
theorem Way.known {b:Bk} {held:Nat} {steps:List Nat} {known:Nat} (h:Way b held steps known):known=held|||XG (hds b steps):=by
  induction h with
  | nil=>show held=held|||0;simp
  | snoc _ hr hb _ ih =>
    rename_i st kn i r _ _
    have e:(b.rules.getD i ⟨0,[]⟩)=r:=by simp [hr]
    have e2:XG (hds b (st++[i]))=XG (hds b st)|||2 ^ r.head:=by
      unfold hds XG
      rw [List.map_append,List.foldl_append]
      simp only [List.map_cons,List.map_nil,List.foldl_cons,List.foldl_nil,e]
    rw [e2,ih,Nat.or_assoc]
theorem Way.lt {b:Bk} {held:Nat} {steps:List Nat} {known:Nat} (h:Way b held steps known):∀ i∈steps,i < b.rules.length:=by
  induction h with
  | nil=>simp
  | snoc _ hr hb _ ih =>
    intro i hi
    rcases List.mem_append.mp hi with h | h
    · exact ih i h
    · rw [List.mem_singleton.mp h];exact (List.getElem?_eq_some_iff.mp hr).1
theorem Qdc {t:PEnv→Option Bool} {b:MSt} {Post:PEnv→Prop} (I:Nat→PEnv→Prop)
    (step:∀ n γ,I n γ→(t γ=some false∧Post γ)∨(t γ=some true∧∃ γ2 m,b γ=some (.nx γ2)∧m < n∧I m γ2)) :
    ∀ (N n:Nat) (γ:PEnv),I n γ→n < N→∃ γ',QaX t b N γ=some (.nx γ')∧Post γ'
  | 0,_,_,_,h=>by omega
  | N + 1,n,γ,hI,hn=>by
    rcases step n γ hI with ⟨ht,hp⟩ | ⟨ht,γ2,m,hb,hm,h2⟩
    · exact ⟨γ,by unfold QaX;rw [ht];rfl,hp⟩
    · obtain ⟨γ',e,p⟩:=Qdc I step N m γ2 h2 (by omega)
      exact ⟨γ',by unfold QaX;rw [ht,Option.bind_some,if_pos rfl,hb];exact e,p⟩
end DH

noncomputable section
namespace DH
open PySem PySem.Spec PyProof.Rows L2 L2.PM
theorem enc_ix0 (b:Bk):pIx b.enc (pN 0)=some (pN b.words):=rfl
theorem enc_ix1 (b:Bk):pIx b.enc (pN 1)=some (.tup (encN b.banes)):=rfl
theorem enc_ix2 (b:Bk):pIx b.enc (pN 2)=some (.tup (b.rules.map Rule.enc)):=rfl
theorem renc_ix0 (r:Rule):pIx r.enc (pN 0)=some (pN r.head):=rfl
theorem renc_ix1 (r:Rule):pIx r.enc (pN 1)=some (.tup (encN r.body)):=rfl
theorem flat_benc (b:Bk):flat b.enc=false:=rfl
theorem flat_renc (r:Rule):flat r.enc=false:=rfl
noncomputable def Qlz (b:Bk):List PV:=b.rules.map fun r=>pN (XG r.body)
theorem zipIdx_map {α β:Type} (f:α→β) (xs:List α):(xs.map f).zipIdx=xs.zipIdx.map fun p=>(f p.1,p.2):=by
  rw [List.zipIdx_map]
  exact List.map_congr_left fun p _=>rfl
local macro_rules | `(tactic| walk_at "ev") => `(tactic| try simp (disch:=first | assumption | omega | (simp only [encN_len,encN_len,List.length_map,List.length_range,List.length_cons,List.length_nil,List.length_append];omega) | decide) only [encN_len,encN_flat,enc_ix0,enc_ix1,enc_ix2,renc_ix0,renc_ix1,flat_benc,flat_renc,e_inside,EVc,List.length_cons,List.length_nil,if_true,List.map_cons,List.map_nil,List.replicate_zero,List.replicate_succ,List.cons_append,List.nil_append,List.getElem?_cons_zero,List.getElem?_cons_succ,Option.bind_some,Option.map_some,List.set_cons_zero,List.set_cons_succ,List.length_map,List.length_range,List.all_nil,List.all_cons,List.length_append])
noncomputable def look (b:Bk) (held:Nat) (known:Nat) (steps:List Nat) (grown:Bool) (s7 s8 s9:Slot):PEnv :=
  [.fz b.enc,.fz (pN held),.fz (.tup (b.rules.map Rule.enc)),.ow (Qlz b),.fz (pN known),.ow (encN steps),.fz (.bl grown),s7,s8,s9]
noncomputable def Qho (known:Nat) (r:Rule):Bool := !known.testBit r.head&&r.body.all fun k=>known.testBit k
theorem turn_b1 {b:Bk} (ok:b.Ok) {held known i:Nat} {steps:List Nat} {grown:Bool} {s9:Slot} {r:Rule} (hi:b.rules[i]?=some r) (hs:steps.length≤100) :
    ∃ s7 s8 s9',ZL (look b held known steps grown (.fz (pN i)) (.fz r.enc) s9)=some (.nx (match Qho known r with
      | true=>look b held (known|||2 ^ r.head) (steps++[i]) true s7 s8 s9' | false=>look b held known steps grown s7 s8 s9')):=by
  have hm:=List.mem_of_getElem? hi
  have hh:=(ok.hd r hm).2
  have hw:=ok.w60
  refine ⟨.fz (pN i),.fz r.enc,.fz (pN (2 ^ r.head)),?_⟩
  unfold ZL look Qho
  walk_at "ev"
  rw [QcG]
  cases hk:known.testBit r.head with
  | true=>walk_at "ev"
  | false =>
    walk_at "ev"
    have e:(Qlz b)[i]?=some (pN (XG r.body)):=by unfold Qlz;rw [List.getElem?_map,hi];rfl
    rw [e]
    walk_at "ev"
    rw [QkQ]
    cases hb:r.body.all fun k=>known.testBit k with
    | true =>
      walk_at "ev"
      rw [Xc (by rw [encN_len];omega) rfl]
      walk_at "ev"
      simp [encN]
    | false=>walk_at "ev"
theorem QfI {known:Nat} {r:Rule}:Qho known r=true↔known.testBit r.head=false∧∀ x∈r.body,known.testBit x=true:=by
  unfold Qho
  simp
theorem round_b2 {b:Bk} (ok:b.Ok) {held known:Nat} {steps:List Nat} {grown:Bool} {s7 s8 s9:Slot} (w:Way b held steps known) :
    ∃ known' steps' grown' s7' s8' s9',ZK (look b held known steps grown s7 s8 s9)=some (.nx (look b held known' steps' grown' s7' s8' s9'))∧Way b held steps' known' ∧
      (grown'=false→Qbe b known')∧(grown'=true→steps.length < steps'.length)∧steps.length≤steps'.length:=by
  unfold ZK look
  walk_at "ev"
  rw [zipIdx_map,List.map_map]
  obtain ⟨γ',e,known',steps',grown',t7,t8,t9,rfl,h1,h2,h3,h4⟩:=Ym (g:=Qbj 7 8) (b:=ZL) (fun (p:Rule×Nat)=>PV.tup [pN p.2,p.1.enc])
    (fun pre γ=>∃ known' steps' grown' t7 t8 t9,γ=look b held known' steps' grown' t7 t8 t9∧Way b held steps' known'∧steps.length≤steps'.length ∧
      (grown'=false→∀ p∈pre,Qho known' p.1=false)∧(grown'=true→steps.length < steps'.length))
    b.rules.zipIdx b.rules.zipIdx [] (look b held known steps false s7 s8 s9) rfl ⟨known,steps,false,s7,s8,s9,rfl,w,Nat.le_refl _,by simp,by simp⟩ (by
      rintro pre p post γ hpre ⟨kn,st,gr,t7,t8,t9,rfl,h1,h2,h3,h4⟩
      have hp:p∈b.rules.zipIdx:=by rw [← hpre];simp
      have hi:b.rules[p.2]?=some p.1:=by
        have:=List.mem_zipIdx_iff_getElem?.mp hp
        simpa using this
      have hl:=h1.left
      have hr:=ok.r40
      obtain ⟨u7,u8,u9,e⟩:=turn_b1 ok (held:=held) (known:=kn) (steps:=st) (grown:=gr) (s9:=t9) hi (by omega)
      refine ⟨_,_,rfl,e,?_⟩
      cases hf:Qho kn p.1 with
      | true =>
        obtain ⟨f1,f2⟩:=QfI.mp hf
        refine ⟨_,_,_,_,_,_,rfl,h1.snoc hi f2 f1,by simp;omega,by simp,fun _=>by simp;omega⟩
      | false =>
        refine ⟨_,_,_,_,_,_,rfl,h1,h2,fun hg q hq => ?_,h4⟩
        rcases List.mem_append.mp hq with z | z
        · exact h3 hg q z
        · rw [List.mem_singleton.mp z];exact hf)
  unfold look at e
  refine ⟨known',steps',grown',t7,t8,t9,?_,h1,fun hg r hr hb => ?_,h4,h2⟩
  · exact e
  · obtain ⟨i,hi,hri⟩:=List.mem_iff_getElem.mp hr
    have:=h3 hg (r,i) (List.mem_zipIdx_iff_getElem?.mpr (by simp [hi,hri]))
    cases hk:known'.testBit r.head with
    | true=>rfl
    | false =>
      have:=QfI.mpr ⟨hk,hb⟩
      simp_all
theorem Qjc {b:Bk} (ok:b.Ok) (held:Nat):∃ steps known,QP [b.enc,pN held]=some (.lst (encN steps))∧Way b held steps known∧Qbe b known:=by
  unfold QP XS
  have hr:=ok.r40
  have hw:=ok.w60
  walk_at "ev"
  rw [Qaa Rule.enc (fun r=>pN (XG r.body)) b.rules fun r hr=>⟨_,rfl,?_⟩]
  · have fl:(b.rules.map fun r=>pN (XG r.body)).all flat=true:=by rw [List.all_map,List.all_eq_true];exact fun _ _=>rfl
    rw [Option.map_some,fl]
    walk_at "ev"
    obtain ⟨γ',e,known,steps,s7,s8,s9,rfl,h1,h2⟩:=Qdc (t:=mTru (mVar 6)) (b:=ZK)
      (Post:=fun γ=>∃ known steps s7 s8 s9,γ=look b held known steps false s7 s8 s9∧Way b held steps known∧Qbe b known)
      (fun n γ=>∃ known steps grown s7 s8 s9,γ=look b held known steps grown s7 s8 s9∧Way b held steps known∧(grown=false→Qbe b known)∧n=2 * (b.rules.length + 1 - steps.length) + (if grown=true then 1 else 0))
      (by
        rintro n γ ⟨known,steps,grown,s7,s8,s9,rfl,h1,h2,rfl⟩
        have hl:=h1.left
        cases grown with
        | false =>
          refine .inl ⟨?_,known,steps,s7,s8,s9,rfl,h1,h2 rfl⟩
          unfold look
          walk_at "ev"
        | true =>
          refine .inr ⟨?_,?_⟩
          · unfold look
            walk_at "ev"
          · obtain ⟨kn,st,gr,t7,t8,t9,e,w,c,l,l2⟩:=round_b2 ok (grown:=true) (s7:=s7) (s8:=s8) (s9:=s9) h1
            have hl2:=w.left
            cases gr with
            | true=>exact ⟨_,_,e,by have:=l rfl;simp;omega,kn,st,true,t7,t8,t9,rfl,w,c,rfl⟩
            | false=>exact ⟨_,_,e,by simp;omega,kn,st,false,t7,t8,t9,rfl,w,c,rfl⟩)
      1000 (2 * (b.rules.length + 1) + 1) (look b held held [] true .un .un .un) ⟨held,[],true,.un,.un,.un,rfl,.nil,by simp,by simp⟩ (by omega)
    unfold look at e
    refine ⟨steps,known,?_,h1,h2⟩
    unfold Qfg
    rw [show Qlz b=b.rules.map fun r=>pN (XG r.body) from rfl,show encN []=[] from rfl] at e
    rw [e]
    walk_at "ev"
  · have:=(ok.bd r hr).2
    walk_at "ev"
    rw [e_mask_t fun k hk=>by have:=this k hk;omega]
noncomputable def yl (b:Bk) (held:Nat):Nat:=Classical.epsilon (IsYl b held)
theorem way_ex {b:Bk} {held:Nat}:∀ (n:Nat) (steps:List Nat) (known:Nat),Way b held steps known→b.rules.length - steps.length=n→∃ steps' known',Way b held steps' known'∧Qbe b known':=by
  intro n
  induction n with
  | zero =>
    intro steps known h hn
    refine ⟨steps,known,h,fun r hr hb=>Classical.byContradiction fun hc => ?_⟩
    obtain ⟨i,hi⟩:=List.getElem?_of_mem hr
    have:=(Way.snoc h hi hb (by simpa using hc)).left
    simp only [List.length_append,List.length_cons,List.length_nil] at this
    omega
  | succ n ih =>
    intro steps known h hn
    by_cases hc:Qbe b known
    · exact ⟨steps,known,h,hc⟩
    · obtain ⟨r,hr⟩:=Classical.not_forall.mp hc
      obtain ⟨hr,hr2⟩:=Classical.not_imp.mp hr
      obtain ⟨hb,hh⟩:=Classical.not_imp.mp hr2
      obtain ⟨i,hi⟩:=List.getElem?_of_mem hr
      exact ih _ _ (Way.snoc h hi hb (by simpa using hh)) (by simp only [List.length_append,List.length_cons,List.length_nil];omega)
theorem yl_is {b:Bk} (ok:b.Ok) (held:Nat):IsYl b held (yl b held):=by
  obtain ⟨steps,known,h1,h2⟩:=way_ex _ [] held .nil rfl
  exact Classical.epsilon_spec (p:=IsYl b held) ⟨known,.of h1 h2⟩
theorem yl_eq {b:Bk} (ok:b.Ok) {held known:Nat} (h:IsYl b held known):known=yl b held:=h.unique (yl_is ok held)
theorem hds_lt {b:Bk} (ok:b.Ok) {steps:List Nat} (h:∀ i∈steps,i < b.rules.length):∀ k∈hds b steps,k < b.words:=by
  intro k hk
  obtain ⟨i,hi,rfl⟩:=List.mem_map.mp hk
  have:=h i hi
  have e:b.rules.getD i ⟨0,[]⟩=b.rules[i]:=by simp [this]
  rw [e]
  exact (ok.hd _ (List.getElem_mem this)).2
theorem Qfd {b:Bk} (ok:b.Ok) {held known:Nat} {steps:List Nat} (w:Way b held steps known):ZA [b.enc,pN held,.lst (encN steps)]=some (pN known):=by
  have hl:=w.left
  have hr:=ok.r40
  have hw:=ok.w60
  unfold ZA QbB
  walk_at "ev"
  rw [show encN steps=steps.map pN from rfl,Qaa pN (fun i=>pN (b.rules.getD i ⟨0,[]⟩).head) steps fun i hi=>⟨_,rfl,?_⟩]
  · rw [show (steps.map fun i=>pN (b.rules.getD i ⟨0,[]⟩).head)=encN (hds b steps) by unfold encN hds;rw [List.map_map];rfl]
    walk_at "ev"
    rw [Qib fun k hk=>by have:=hds_lt ok w.lt k hk;omega]
    walk_at "ev"
    rw [← w.known]
  · have hi:=w.lt i hi
    have e:b.rules[i]?=some (b.rules.getD i ⟨0,[]⟩):=by simp [hi]
    walk_at "ev"
    rw [List.getElem?_map,e]
    walk_at "ev"
end DH

noncomputable section
namespace DH
open PySem PySem.Spec PyProof.Rows L2 L2.PM
local macro_rules | `(tactic| walk_at "ev") => `(tactic| try simp (disch:=first | assumption | omega | (simp only [encN_len,encN_len,List.length_map,List.length_range,List.length_cons,List.length_nil,List.length_append];omega) | decide) only [encN_len,encN_flat,enc_ix0,enc_ix1,enc_ix2,renc_ix0,renc_ix1,flat_benc,flat_renc,e_inside,EVc,List.length_cons,List.length_nil,if_true,List.map_cons,List.map_nil,List.replicate_zero,List.replicate_succ,List.cons_append,List.nil_append,List.getElem?_cons_zero,List.getElem?_cons_succ,Option.bind_some,Option.map_some,List.set_cons_zero,List.set_cons_succ,List.length_map,List.length_range,List.all_nil,List.all_cons,List.length_append])
theorem QfK {b:Bk} (ok:b.Ok) (held:Nat):Yc [b.enc,pN held]=some (pN (yl b held)):=by
  obtain ⟨steps,known,e,h1,h2⟩:=Qjc ok held
  have:=yl_eq ok (.of h1 h2)
  subst this
  unfold Yc QfP
  walk_at "ev"
  rw [e]
  walk_at "ev"
  rw [Qfd ok h1]
  walk_at "ev"
end DH

noncomputable section
namespace DH
open PySem PySem.Spec PyProof.Rows L2 L2.PM
theorem Qbs {α:Type} [BEq α] [LawfulBEq α] {y:α}:∀ {xs:List α},y∈once xs↔y∈xs
  | []=>by simp [once]
  | x :: xs=>by
    unfold once
    rw [List.mem_cons,List.mem_cons,List.mem_filter,Qbs (xs:=xs)]
    by_cases h:y=x
    · simp [h]
    · simp [h]
theorem Qec {α:Type} [BEq α] [LawfulBEq α]:∀ xs:List α,(once xs).Nodup
  | []=>by simp [once]
  | x :: xs=>by
    unfold once
    rw [List.nodup_cons]
    refine ⟨by simp [List.mem_filter],List.Pairwise.filter _ (Qec xs)⟩
theorem QeD {α:Type} [BEq α]:∀ xs:List α,(once xs).length≤xs.length
  | []=>by simp [once]
  | x :: xs=>by
    unfold once
    have h1:=List.length_filter_le (fun y => !(y==x)) (once xs)
    have h2:=QeD xs
    simp only [List.length_cons]
    omega
noncomputable def asc (ns:List Nat):List Nat:=(XJ (once (ns.map fun (k:Nat)=>(k:Int)))).map Int.toNat
theorem mem_asc {ns:List Nat} {x:Nat}:x∈asc ns↔x∈ns:=by
  unfold asc
  rw [List.mem_map]
  constructor
  · rintro ⟨i,hi,rfl⟩
    have:=Qbs.mp ((Yq _).mem_iff.mp hi)
    obtain ⟨k,hk,rfl⟩:=List.mem_map.mp this
    simpa using hk
  · intro h
    exact ⟨(x:Int),(Yq _).mem_iff.mpr (Qbs.mpr (List.mem_map.mpr ⟨x,h,rfl⟩)),by simp⟩
theorem asc_enc (ns:List Nat):(XJ (once (ns.map fun (k:Nat)=>(k:Int)))).map PV.int=encN (asc ns):=by
  unfold asc encN
  rw [List.map_map]
  refine List.map_congr_left fun i hi => ?_
  have:=Qbs.mp ((Yq _).mem_iff.mp hi)
  obtain ⟨k,hk,rfl⟩:=List.mem_map.mp this
  rfl
theorem asc_lt (ns:List Nat):(asc ns).Pairwise (· < ·):=by
  have h1:=QhR (once (ns.map fun (k:Nat)=>(k:Int)))
  have h2:(XJ (once (ns.map fun (k:Nat)=>(k:Int)))).Nodup:=(Yq _).nodup_iff.mpr (Qec _)
  have h3:∀ i∈XJ (once (ns.map fun (k:Nat)=>(k:Int))),0≤i:=fun i hi=>by
    have:=Qbs.mp ((Yq _).mem_iff.mp hi)
    obtain ⟨k,hk,rfl⟩:=List.mem_map.mp this
    omega
  unfold asc
  generalize XJ (once (ns.map fun (k:Nat)=>(k:Int)))=l at *
  clear ns
  induction l with
  | nil=>exact .nil
  | cons x l ih =>
    rw [List.pairwise_cons] at h1
    rw [List.nodup_cons] at h2
    rw [List.map_cons,List.pairwise_cons]
    refine ⟨fun y hy => ?_,ih h1.2 h2.2 fun i hi=>h3 i (List.mem_cons_of_mem _ hi)⟩
    obtain ⟨z,hz,rfl⟩:=List.mem_map.mp hy
    have a:=h1.1 z hz
    have b:=h3 x List.mem_cons_self
    have c:x≠z:=fun e=>h2.1 (e ▸ hz)
    omega
theorem asc_len' (ns:List Nat):(asc ns).length=(once (ns.map fun (k:Nat)=>(k:Int))).length:=by
  unfold asc;rw [List.length_map,QkL]
theorem Qjk (ns:List Nat):(asc ns).length≤ns.length:=by
  rw [asc_len']
  have:=QeD (ns.map fun (k:Nat)=>(k:Int))
  rwa [List.length_map] at this
theorem QiG {ns:List Nat} (h:ns.length < 64):Qbq [.lst (encN ns)]=some (encN (asc ns)):=by
  have e:Qbq [.lst (encN ns)]=match Qbi (encN ns) with
    | some ns=>if ns.length < 1000∧(once ns).length < 64 then some ((XJ (once ns)).map PV.int) else none
    | none=>none:=rfl
  rw [e,Qlb,QkP]
  have:=QeD (ns.map fun (k:Nat)=>(k:Int))
  rw [List.length_map] at this
  show (if (ns.map fun (k:Nat)=>(k:Int)).length < 1000∧(once (ns.map fun (k:Nat)=>(k:Int))).length < 64 then _ else none)=_
  rw [if_pos ⟨by rw [List.length_map];omega,by omega⟩,asc_enc]
end DH

noncomputable section
namespace DH
open PySem PySem.Spec PyProof.Rows L2 L2.PM
noncomputable def Yy (g w:Nat) (r:Rule):Prop:=g≤r.head∧r.head < w∧r.body.Pairwise (· < ·)∧r.body.length≤6∧∀ x∈r.body,x < w
end DH

noncomputable section
namespace DH
open PySem PySem.Spec PyProof.Rows L2 L2.PM
end DH

noncomputable section
namespace DH
open PySem PySem.Spec PyProof.Rows L2 L2.PM
theorem Qdn:∀ xs:List Nat,depL (encN xs)=0
  | []=>by simp [encN,depL]
  | x :: xs=>by
    have:=Qdn xs
    unfold encN at *
    rw [List.map_cons]
    unfold depL
    rw [this]
    simp [pN,dep]
theorem Qdj:∀ xs:List Nat,okSL (encN xs)=true
  | []=>by simp [encN,okSL]
  | x :: xs=>by
    have:=Qdj xs
    unfold encN at *
    rw [List.map_cons]
    unfold okSL
    rw [this]
    simp [pN,okS]
theorem QhL (xs:List Nat):okv (.lst (encN xs))=true:=by
  simp [okv,dep,okS,Qdn,Qdj]
theorem QhJ (r:Rule):okv r.enc=true:=by
  unfold Rule.enc
  simp [okv,dep,depL,okS,okSL,Qdn,Qdj,pN]
theorem QkB (rs:List Rule):(rs.map Rule.enc).all okv=true:=by
  rw [List.all_map,List.all_eq_true]
  exact fun r _=>QhJ r
theorem QiN (r:Rule) (rs:List Rule):∃ b,QaZ r.enc (.lst (rs.map Rule.enc))=some (.bl b):=by
  have e:pIn r.enc (.lst (rs.map Rule.enc))=if okv r.enc=true∧(rs.map Rule.enc).all okv=true then some (.bl ((rs.map Rule.enc).any fun y=>peq y r.enc)) else none:=rfl
  exact ⟨_,Qdi (e.trans (if_pos ⟨QhJ r,QkB rs⟩))⟩
end DH

noncomputable section
namespace DH
open PySem PySem.Spec PyProof.Rows L2 L2.PM
theorem Bk.Ok.of {w:Nat} {banes:List Nat} {rules:List Rule} (h8:banes.length≤8) (hgw:banes.length≤w) (hw:w≤60) (hb:∀ x∈banes,x < w) (hr:∀ r∈rules,Yy banes.length w r) (hl:rules.length≤40):(⟨w,banes,rules⟩:Bk).Ok :=
  ⟨h8,hgw,hw,by show rules.length≤48;omega,hb,fun r h=>⟨(hr r h).1,(hr r h).2.1⟩,fun r h=>⟨(hr r h).2.2.1,(hr r h).2.2.2.2⟩⟩
theorem peq_nil (xs:List PV):peq (.lst xs) (.lst [])=xs.isEmpty:=by
  cases xs <;> rfl
end DH

noncomputable section
namespace DH
open PySem PySem.Spec PyProof.Rows L2 L2.PM
noncomputable def tr (w known:Nat):List PV:=(List.range w).map fun k => .bl (known.testBit k)
theorem tr_len (w known:Nat):(tr w known).length=w:=by unfold tr;rw [List.length_map,List.length_range]
theorem tr_get {w known k:Nat} (h:k < w):(tr w known)[k]?=some (.bl (known.testBit k)):=by
  unfold tr
  rw [List.getElem?_map,List.getElem?_range h]
  rfl
theorem tr_set (w known k:Nat):(tr w known).set k (.bl true)=tr w (known|||2 ^ k):=by
  refine List.ext_getElem? fun j => ?_
  by_cases hj:j < w
  · rw [tr_get hj,ZR]
    by_cases h:k=j
    · subst h
      rw [List.getElem?_set_self (by rw [tr_len];exact hj)]
      simp
    · rw [List.getElem?_set_ne h,tr_get hj]
      simp [h]
  · rw [List.getElem?_eq_none (by rw [List.length_set,tr_len];omega),List.getElem?_eq_none (by rw [tr_len];omega)]
theorem tr_flat (w known:Nat):(tr w known).all flat=true:=by
  unfold tr
  rw [List.all_map,List.all_eq_true]
  exact fun _ _=>rfl
theorem testBit_one (m k:Nat):(m / 2 ^ k&&&1==1)=m.testBit k:=by
  rw [Nat.and_one_is_mod]
  exact testBit_mod m k
theorem testBit_zero' (m k:Nat):(m / 2 ^ k&&&1==0) = !m.testBit k:=by
  rw [← testBit_one,Nat.and_one_is_mod]
  have:m / 2 ^ k % 2 < 2:=Nat.mod_lt _ (by decide)
  have:m / 2 ^ k % 2=0∨m / 2 ^ k % 2=1:=by omega
  rcases this with h | h <;> rw [h] <;> rfl
end DH

noncomputable section
namespace DH
open PySem PySem.Spec PyProof.Rows L2 L2.PM
noncomputable def hitL (b:Bk) (known:Nat):List Nat:=(List.range b.banes.length).filter fun g=>known.testBit (b.banes.getD g 0)
noncomputable def stk (b:Bk) (held:Nat):Nat:=XG (hitL b (yl b held))
theorem enumN (xs:List Nat):((encN xs).zipIdx.map fun x=>PV.tup [pN x.2,x.1])=(List.range xs.length).map fun g=>PV.tup [pN g,pN (xs.getD g 0)]:=by
  refine List.ext_getElem? fun j => ?_
  rw [List.getElem?_map,List.getElem?_map,List.getElem?_zipIdx]
  by_cases h:j < xs.length
  · rw [List.getElem?_range h]
    unfold encN
    rw [List.getElem?_map]
    simp [h]
  · rw [List.getElem?_eq_none (by unfold encN;simp;omega),List.getElem?_eq_none (by simp;omega)]
    rfl
theorem XZ {α:Type} {g:PV→PEnv→Option PEnv} {t:PEnv→Option Bool} {e:MEx} {γ:PEnv} (f:α→PV) (p:α→Bool) (y:α→PV):∀ (xs:List α),(∀ x∈xs,∃ γ1,g (f x) γ=some γ1∧t γ1=some (p x)∧(p x=true→e γ1=some (y x))) →
    Xy g t e γ (xs.map f)=some ((xs.filter p).map y)
  | [],_=>rfl
  | x :: xs,h=>by
    obtain ⟨γ1,h1,h2,h3⟩:=h x (by simp)
    have ih:=XZ f p y xs fun z hz=>h z (by simp [hz])
    rw [List.map_cons]
    unfold Xy
    rw [h1,Option.bind_some,h2,Option.bind_some]
    cases hp:p x with
    | true =>
      rw [List.filter_cons_of_pos hp,h3 hp,ih]
      rfl
    | false =>
      rw [List.filter_cons_of_neg (by simp [hp])]
      simp [ih]
local macro_rules | `(tactic| walk_at "ev") => `(tactic| try simp (disch:=first | assumption | omega | (simp only [encN_len,tr_len,encN_len,List.length_map,List.length_range,List.length_cons,List.length_nil,List.length_append];omega) | decide) only [encN_len,encN_flat,enc_ix0,enc_ix1,enc_ix2,renc_ix0,renc_ix1,flat_benc,flat_renc,e_inside,tr_get,tr_flat,tr_set,testBit_one,EVc,List.length_cons,List.length_nil,if_true,List.map_cons,List.map_nil,List.replicate_zero,List.replicate_succ,List.cons_append,List.nil_append,List.getElem?_cons_zero,List.getElem?_cons_succ,Option.bind_some,Option.map_some,List.set_cons_zero,List.set_cons_succ,List.length_map,List.length_range,List.all_nil,List.all_cons,List.length_append])
theorem hitL_lt {b:Bk} {k g:Nat} (h:g∈hitL b k):g < b.banes.length:=List.mem_range.mp (List.mem_filter.mp h).1
theorem bane_lt {b:Bk} (ok:b.Ok) {g:Nat} (h:g < b.banes.length):b.banes.getD g 0 < b.words:=by
  have:b.banes.getD g 0=b.banes[g]:=by simp [h]
  rw [this]
  exact ok.bane _ (List.getElem_mem h)
theorem QhZ {b:Bk} (ok:b.Ok) (held:Nat):Yz [b.enc,pN held]=some (pN (stk b held)):=by
  unfold Yz Qid
  have h8:=ok.g8
  have hw:=ok.w60
  walk_at "ev"
  rw [QfK ok]
  walk_at "ev"
  rw [enumN]
  walk_at "ev"
  rw [XZ (fun g=>PV.tup [pN g,pN (b.banes.getD g 0)]) (fun g=>(yl b held).testBit (b.banes.getD g 0)) pN (List.range b.banes.length) fun g hg=>⟨_,rfl,?_,fun _=>rfl⟩]
  · rw [show (((List.range b.banes.length).filter fun g=>(yl b held).testBit (b.banes.getD g 0)).map pN)=encN (hitL b (yl b held)) from rfl]
    walk_at "ev"
    rw [Qib fun k hk=>by have:=hitL_lt hk;omega]
    rfl
  · have:=bane_lt ok (List.mem_range.mp hg)
    walk_at "ev"
    rw [QcG]
theorem Qjd {b:Bk} (ok:b.Ok) (held:Nat):Yp [b.enc,pN held]=some (.bl (held&&&stk b held==0)):=by
  unfold Yp Qel
  walk_at "ev"
  rw [QhZ ok]
  walk_at "ev"
theorem stk_bit {b:Bk} {held g:Nat}:(stk b held).testBit g=true↔g < b.banes.length∧(yl b held).testBit (b.banes.getD g 0)=true:=by
  unfold stk hitL
  rw [Qag,decide_eq_true_iff,List.mem_filter,List.mem_range]
noncomputable def dif (a b:Nat):Nat:=a - (a&&&b)
theorem or_add:∀ (x y:Nat),x&&&y=0→x|||y=x + y:=by
  intro x
  induction x using Nat.strongRecOn with
  | _ x ih =>
    intro y h
    by_cases hx:x=0
    · subst hx;simp
    · have h2:=ih (x / 2) (by omega) (y / 2) (by rw [← Nat.and_div_two,h])
      have h3:(x&&&y) % 2=0:=by rw [h]
      have h4:(x|||y) / 2=x / 2 + y / 2:=by rw [Nat.or_div_two,h2]
      have a1 := @Nat.or_mod_two_eq_one x y
      have a2 := @Nat.and_mod_two_eq_one x y
      omega
theorem sub_bit:∀ (a c:Nat),(∀ k,c.testBit k=true→a.testBit k=true)→∀ k,(a - c).testBit k=(a.testBit k && !c.testBit k):=by
  intro a c h k
  have e:a=(a - c) + c:=by
    have:c≤a:=by
      have:a&&&c=c:=Nat.eq_of_testBit_eq fun i=>by
        rw [Nat.testBit_and]
        cases hc:c.testBit i with
        | false=>simp
        | true=>rw [h i hc];rfl
      rw [← this]
      exact Nat.and_le_left
    omega
  have e2:a ^^^ c=a - c:=by
    have hx:(a ^^^ c) + c=a:=by
      have hd:(a ^^^ c)&&&c=0:=Nat.eq_of_testBit_eq fun i=>by
        rw [Nat.testBit_and,Nat.testBit_xor,Nat.zero_testBit]
        cases hc:c.testBit i with
        | false=>simp
        | true=>rw [h i hc];rfl
      have ho:(a ^^^ c)|||c=a:=Nat.eq_of_testBit_eq fun i=>by
        rw [Nat.testBit_or,Nat.testBit_xor]
        cases hc:c.testBit i with
        | false=>simp
        | true=>rw [h i hc];rfl
      rw [← or_add _ _ hd,ho]
    omega
  rw [← e2,Nat.testBit_xor]
  cases hc:c.testBit k with
  | false=>simp
  | true=>rw [h k hc];rfl
end DH

noncomputable section
namespace DH
open PySem PySem.Spec PyProof.Rows L2 L2.PM
theorem QjD {g:PV→PEnv→Option PEnv} {b:MSt} (I:Nat→PEnv→Prop) (n:Nat) (γ:PEnv) (h0:I 0 γ)
    (step:∀ j γ,j < n→I j γ→∃ γ1 γ2,g (pN j) γ=some γ1∧b γ1=some (.nx γ2)∧I (j + 1) γ2):∃ γ',forL g b (encN (List.range n)) γ=some (.nx γ')∧I n γ':=by
  obtain ⟨γ',e,h⟩:=Ym (g:=g) (b:=b) pN (fun pre γ=>I pre.length γ) (List.range n) (List.range n) [] γ rfl h0 (by
    intro pre j post γ hpre hI
    have hj:j=pre.length:=by
      have h1:(List.range n)[pre.length]?=some j:=by rw [← hpre];simp
      rw [List.getElem?_eq_some_iff] at h1
      obtain ⟨_,h2⟩:=h1
      simpa using h2.symm
    have hl:pre.length < n:=by
      have:=congrArg List.length hpre
      simp at this
      omega
    subst hj
    obtain ⟨γ1,γ2,a1,a2,a3⟩:=step _ γ hl hI
    exact ⟨γ1,γ2,a1,a2,by simpa using a3⟩)
  rw [List.length_range] at h
  exact ⟨γ',e,h⟩
end DH

noncomputable section
namespace DH
open PySem PySem.Spec PyProof.Rows L2 L2.PM
theorem Qfq {a b:Bool} {t:PEnv→Option Bool} {γ:PEnv} (h:t γ=some b):andK t γ a=some (a&&b):=by
  cases a
  · rfl
  · rw [andK_t,h];rfl
theorem orK_b {a b:Bool} {t:PEnv→Option Bool} {γ:PEnv} (h:t γ=some b):orK t γ a=some (a||b):=by
  cases a
  · rw [orK_f,h];rfl
  · rfl
theorem pNe_nil' (xs:List Nat):pNe (.lst (encN xs)) (.lst [])=some (.bl (!xs.isEmpty)):=by
  rw [Qjz (QhL xs) (show okv (.lst [])=true from QhL []),peq_nil]
  unfold encN
  cases xs <;> rfl
end DH

noncomputable section
namespace DH
open PySem PySem.Spec PyProof.Rows L2 L2.PM
theorem rule_of {n w h size:Nat} {f:Nat→Nat} (h1:n≤h) (h2:h < w) (hs:size≤6) (hf:∀ k,f k < w):Yy n w ⟨h,asc ((List.range size).map f)⟩:=by
  refine ⟨h1,h2,asc_lt _,?_,fun x hx => ?_⟩
  · have:=Qjk ((List.range size).map f)
    rw [List.length_map,List.length_range] at this
    dsimp only
    omega
  · obtain ⟨k,_,rfl⟩:=List.mem_map.mp (mem_asc.mp hx)
    exact hf k
end DH

noncomputable section
namespace DH
open PySem PySem.Spec PyProof.Rows L2 L2.PM
theorem imod_lt (c:Int) {k:Nat} (h:0 < k):(c % (k:Int)).toNat < k:=by
  have:=Int.emod_lt_of_pos c (show (0:Int) < (k:Int) by omega)
  have:=Int.emod_nonneg c (show (k:Int)≠0 by omega)
  omega
end DH

noncomputable section
namespace DH
open PySem PySem.Spec PyProof.Rows L2 L2.PM
theorem pAnd_inv (a b:Nat):pAnd (pN a) (.int (Builtin.bitNot (b:Int)))=some (pN (dif a b)):=by
  unfold pN
  rw [pAnd_i,bitAnd_pn (by omega) (by unfold Builtin.bitNot;omega)]
  have e:(Builtin.bitNot (Builtin.bitNot (b:Int))).toNat=b:=by unfold Builtin.bitNot;omega
  rw [e,Int.toNat_natCast]
  unfold dif
  have := @Nat.and_le_left a b
  congr 2
  omega
theorem QbP (a b k:Nat):(dif a b).testBit k=(a.testBit k && !b.testBit k):=by
  unfold dif
  rw [sub_bit a (a&&&b) (fun k h=>by rw [Nat.testBit_and] at h;simp at h;exact h.1),Nat.testBit_and]
  cases a.testBit k <;> cases b.testBit k <;> rfl
theorem pInv_n (b:Nat):pInv (pN b)=some (.int (Builtin.bitNot (b:Int))):=rfl
noncomputable def uns (b:Bk) (held:Nat):Nat:=dif (2 ^ b.banes.length - 1) (stk b held)
noncomputable def dfd (b:Bk) (held:Nat):Nat:=uns b (uns b held)
theorem uns_bit {b:Bk} {held g:Nat}:(uns b held).testBit g=(decide (g < b.banes.length) && !(stk b held).testBit g):=by
  unfold uns
  rw [QbP,Nat.testBit_two_pow_sub_one]
theorem uns_lt (b:Bk) (held:Nat):uns b held < 2 ^ b.banes.length:=by
  have:=Nat.two_pow_pos b.banes.length
  unfold uns dif
  omega
theorem dfd_lt (b:Bk) (held:Nat):dfd b held < 2 ^ b.banes.length:=uns_lt _ _
theorem QjI {m n k:Nat} (h:m < 2 ^ n) (hk:m.testBit k=true):k < n:=by
  rcases Nat.lt_or_ge k n with h1 | h1
  · exact h1
  · rw [Nat.testBit_lt_two_pow (Nat.lt_of_lt_of_le h (Nat.pow_le_pow_right (by decide) h1))] at hk;cases hk
theorem QjJ {b:Bk} (ok:b.Ok) {h1 h2:Nat} (s:∀ w,h1.testBit w=true→h2.testBit w=true) {w:Nat} (d:(yl b h1).testBit w=true):(yl b h2).testBit w=true :=
  (yl_is ok h2 w).mpr (((yl_is ok h1 w).mp d).mono s)
theorem stk_mono {b:Bk} (ok:b.Ok) {h1 h2:Nat} (s:∀ w,h1.testBit w=true→h2.testBit w=true) {g:Nat} (d:(stk b h1).testBit g=true):(stk b h2).testBit g=true:=by
  rw [stk_bit] at *
  exact ⟨d.1,QjJ ok s d.2⟩
local macro_rules | `(tactic| walk_at "ev") => `(tactic| try simp (disch:=first | assumption | omega | (simp only [encN_len,tr_len,encN_len,List.length_map,List.length_range,List.length_cons,List.length_nil,List.length_append];omega) | decide) only [encN_len,encN_flat,enc_ix0,enc_ix1,enc_ix2,renc_ix0,renc_ix1,flat_benc,flat_renc,e_inside,tr_get,tr_flat,tr_set,testBit_one,pInv_n,pAnd_inv,EVc,List.length_cons,List.length_nil,if_true,List.map_cons,List.map_nil,List.replicate_zero,List.replicate_succ,List.cons_append,List.nil_append,List.getElem?_cons_zero,List.getElem?_cons_succ,Option.bind_some,Option.map_some,List.set_cons_zero,List.set_cons_succ,List.length_map,List.length_range,List.all_nil,List.all_cons,List.length_append])
theorem QbA {b:Bk} (ok:b.Ok):QT [b.enc]=some (pN (2 ^ b.banes.length - 1)):=by
  unfold QT QbC
  have h8:=ok.g8
  have hp:=Nat.two_pow_pos b.banes.length
  walk_at "ev"
theorem Qei {b:Bk} (ok:b.Ok) (held:Nat):ZU [b.enc,pN held]=some (pN (uns b held)):=by
  unfold ZU Qej
  walk_at "ev"
  rw [QbA ok,QhZ ok]
  walk_at "ev"
  rfl
theorem Qcd {b:Bk} (ok:b.Ok) (held:Nat):Zb [b.enc,pN held]=some (pN (dfd b held)):=by
  unfold Zb Qek
  walk_at "ev"
  rw [Qei ok]
  walk_at "ev"
  rw [Qei ok]
  rfl
noncomputable def std (b:Bk) (held:Nat):Bool:=(held&&&stk b held==0)&&insB held (dfd b held)
theorem e_stands {b:Bk} (ok:b.Ok) (held:Nat):Xs [b.enc,pN held]=some (.bl (std b held)):=by
  unfold Xs Qie std
  walk_at "ev"
  rw [Qjd ok]
  cases held&&&stk b held==0 with
  | true =>
    walk_at "ev"
    rw [Qcd ok]
    walk_at "ev"
  | false=>walk_at "ev"
theorem pow8 {n:Nat} (h:n≤8):2 ^ n≤256:=Nat.pow_le_pow_right (n:=2) (by decide) h
end DH

noncomputable section
namespace DH
open PySem PySem.Spec PyProof.Rows L2 L2.PM
theorem pAdd_ni (a:Nat) (b:Int):pAdd (pN a) (.int b)=some (.int ((a:Int) + b)):=pAdd_i _ _
theorem pAdd_in (a:Int) (b:Nat):pAdd (.int a) (pN b)=some (.int (a + (b:Int))):=pAdd_i _ _
end DH
namespace DH
open PySem PySem.Spec PyProof.Rows L2 L2.PM
end DH

noncomputable section
namespace DH
open PySem PySem.Spec PyProof.Rows L2 L2.PM
theorem Qbg {rules:List Rule} {r:Rule} {n w most:Nat} (k1:∀ q∈rules,Yy n w q) (hr:Yy n w r):∀ q∈rules++[r],Yy n w q:=by
  intro q hq
  rcases List.mem_append.mp hq with z | z
  · exact k1 q z
  · rw [List.mem_singleton.mp z];exact hr
end DH

noncomputable section
namespace DH
open PySem PySem.Spec PyProof.Rows L2 L2.PM
end DH

noncomputable section
namespace DH
open PySem PySem.Spec PyProof.Rows L2 L2.PM
theorem runO_2' {N:Nat} {m:MSt} {a0 a1:PV}:runO N 2 m [a0,a1]=(m (ZM N [a0,a1])).bind outO:=rfl
theorem outO_ro' (xs:List PV):outO (.ro xs)=some xs:=rfl
theorem QcE {n w h x:Nat} (h1:n≤h) (h2:h < w) (hx:x < w):Yy n w ⟨h,[x]⟩:=⟨h1,h2,by simp,by simp,by simpa using hx⟩
theorem ifK_set2 {cond:Bool} {ms1 ms2:List Nat} {i1 i2:Nat} {m1 m2:MEx} {γ:PEnv} (x1 y1 x2 y2:Nat) (h:m1 γ=some (pN x1)) (h':m2 (γ.set i1 (.fz (pN x1)))=some (pN x2)) (h2:(γ.set i1 (.fz (pN y1))).set i2 (.fz (pN y2))=γ) :
    ifK (sSeq (sSet ms1 i1 m1) (sSet ms2 i2 m2)) sNx γ cond=some (.nx ((γ.set i1 (.fz (pN (if cond=true then x1 else y1)))).set i2 (.fz (pN (if cond=true then x2 else y2))))):=by
  cases cond with
  | false=>rw [ifK_f,ev_sNx];simp only [Bool.false_eq_true,if_false];rw [h2]
  | true =>
    rw [ifK_t,ev_sSeq,ev_sSet,h]
    simp only [if_true,Option.map_some,flat_n,keepE_true,Option.bind_some,seqK_nx]
    rw [ev_sSet,h']
    simp only [if_true,Option.map_some,flat_n,keepE_true,Option.bind_some,seqK_nx]
end DH

noncomputable section
namespace DH
open PySem PySem.Spec PyProof.Rows L2 L2.PM
theorem isN_l (xs:List PV):isN (.lst xs)=false:=rfl
theorem isN_b (b:Bool):isN (.bl b)=false:=rfl
theorem Qhv {b:Bk} (ok:b.Ok) {h1 h2:Nat} (s:∀ w,h1.testBit w=true→h2.testBit w=true) {g:Nat} (d:(uns b h2).testBit g=true):(uns b h1).testBit g=true:=by
  rw [uns_bit,Bool.and_eq_true] at *
  refine ⟨d.1,?_⟩
  cases hs:(stk b h1).testBit g with
  | false=>rfl
  | true=>have:=stk_mono ok s hs;rw [this] at d;simp at d
theorem dfd_mono {b:Bk} (ok:b.Ok) {h1 h2:Nat} (s:∀ w,h1.testBit w=true→h2.testBit w=true) {g:Nat} (d:(dfd b h1).testBit g=true):(dfd b h2).testBit g=true :=
  Qhv ok (fun _ h=>Qhv ok s h) d
end DH

noncomputable section
namespace DH
open PySem PySem.Spec PyProof.Rows L2 L2.PM
end DH

noncomputable section
namespace DH
open PySem PySem.Spec PyProof.Rows L2 L2.PM
local macro_rules | `(tactic| walk_at "ev") => `(tactic| try simp (disch:=first | assumption | omega | (simp only [encN_len,tr_len,encN_len,List.length_map,List.length_range,List.length_cons,List.length_nil,List.length_append];omega) | decide) only [encN_len,encN_flat,enc_ix0,enc_ix1,enc_ix2,renc_ix0,renc_ix1,flat_benc,flat_renc,e_inside,tr_get,tr_flat,tr_set,testBit_one,testBit_zero',pInv_n,pAnd_inv,EVc,List.length_cons,List.length_nil,if_true,List.map_cons,List.map_nil,List.replicate_zero,List.replicate_succ,List.cons_append,List.nil_append,List.getElem?_cons_zero,List.getElem?_cons_succ,Option.bind_some,Option.map_some,List.set_cons_zero,List.set_cons_succ,List.length_map,List.length_range,List.all_nil,List.all_cons,List.length_append])
theorem QfM {m n:Nat} (hn:n≤60) (h:m < 2 ^ n):YA [pN m]=some (.lst (encN (plN m))):=by
  have hb:bitsN m≤60:=by
    unfold bitsN
    split
    · omega
    · rename_i h0
      have:=(Nat.log2_lt h0).mpr h
      omega
  unfold YA Qig
  walk_at "ev"
  rw [compNF (fun k=>m.testBit k) (List.range (bitsN m)) fun k hk=>⟨_,rfl,by walk_at "ev",rfl⟩]
  rfl
theorem Qah {b:Bk} (ok:b.Ok) (held:Nat) {word:Nat} (hw:word≤1000):Zx [b.enc,pN held,pN word]=some (.bl ((yl b held).testBit word)):=by
  unfold Zx Qcr
  walk_at "ev"
  rw [QfK ok]
  walk_at "ev"
  rw [QcG]
noncomputable def IsRs (b:Bk) (word U:Nat):Prop:=(yl b U).testBit word=true∧∀ g,U.testBit g=true→(yl b (dif U (2 ^ g))).testBit word=false
theorem Qkh (a b k:Nat) (h:(dif a b).testBit k=true):a.testBit k=true:=by
  rw [QbP] at h
  simp at h
  exact h.1
theorem Qje {b:Bk} (ok:b.Ok) {within word:Nat} (hh:within < 2 ^ b.banes.length) (hw:word < b.words) (hy:(yl b within).testBit word=true) :
    ∃ U,QI [b.enc,pN within,pN word]=some (pN U)∧(∀ g,U.testBit g=true→within.testBit g=true)∧IsRs b word U:=by
  have hw60:=ok.w60
  have h8:=ok.g8
  unfold QI Qcf
  walk_at "ev"
  rw [Qah ok _ (by omega),hy]
  walk_at "ev"
  rw [QfM (show b.banes.length≤60 by omega) hh]
  walk_at "ev"
  obtain ⟨γ',e,U,s4,s5,rfl,h1,h2,h3⟩:=Ym (g:=gSet 4) (b:=Xz) pN
    (fun pre γ=>∃ (U:Nat) (s4 s5:Slot),γ=[.fz b.enc,.fz (pN within),.fz (pN word),.fz (pN U),s4,s5]∧(∀ g,U.testBit g=true→within.testBit g=true)∧(yl b U).testBit word=true∧∀ g∈pre,U.testBit g=true→(yl b (dif U (2 ^ g))).testBit word=false)
    (plN within) (plN within) [] [.fz b.enc,.fz (pN within),.fz (pN word),.fz (pN within),.un,.un] rfl ⟨within,.un,.un,rfl,fun _ h=>h,hy,by simp⟩ (by
      rintro pre g post γ hpre ⟨U,s4,s5,rfl,h1,h2,h3⟩
      have hg:g∈plN within:=by rw [← hpre];simp
      have hg8:=QjI hh (QcT.mp hg)
      have e:Xz [.fz b.enc,.fz (pN within),.fz (pN word),.fz (pN U),.fz (pN g),s5]=some (.nx (match (yl b (dif U (2 ^ g))).testBit word with
        | true=>[.fz b.enc,.fz (pN within),.fz (pN word),.fz (pN (dif U (2 ^ g))),.fz (pN g),.fz (pN (dif U (2 ^ g)))]
        | false=>[.fz b.enc,.fz (pN within),.fz (pN word),.fz (pN U),.fz (pN g),.fz (pN (dif U (2 ^ g)))])):=by
        unfold Xz
        walk_at "ev"
        rw [Qah ok _ (by omega)]
        cases (yl b (dif U (2 ^ g))).testBit word with
        | true=>walk_at "ev"
        | false=>walk_at "ev"
      refine ⟨_,_,rfl,e,?_⟩
      cases hk:(yl b (dif U (2 ^ g))).testBit word with
      | true =>
        refine ⟨dif U (2 ^ g),_,_,rfl,fun k hk=>h1 k (Qkh _ _ _ hk),hk,fun k hk2 hb => ?_⟩
        rcases List.mem_append.mp hk2 with z | z
        · cases hy2:(yl b (dif (dif U (2 ^ g)) (2 ^ k))).testBit word with
          | false=>rfl
          | true =>
            have:=QjJ ok (h2:=dif U (2 ^ k)) (fun w hw=>by
              rw [QbP,QbP] at hw
              rw [QbP]
              simp at hw
              simp [hw]) hy2
            rw [h3 k z (Qkh _ _ _ hb)] at this
            cases this
        · rw [List.mem_singleton.mp z,QbP,Nat.testBit_two_pow_self] at hb
          simp at hb
      | false =>
        refine ⟨U,_,_,rfl,h1,h2,fun k hk2 hb => ?_⟩
        rcases List.mem_append.mp hk2 with z | z
        · exact h3 k z hb
        · rw [List.mem_singleton.mp z];exact hk)
  rw [show encN (plN within)=(plN within).map pN from rfl,e]
  walk_at "ev"
  exact ⟨U,rfl,h1,h2,fun g hg=>h3 g (QcT.mpr (h1 g hg)) hg⟩
theorem Qea {b:Bk} (ok:b.Ok) {within word:Nat} (hw:word < b.words) (hy:(yl b within).testBit word=false):QI [b.enc,pN within,pN word]=some .non:=by
  have hw60:=ok.w60
  unfold QI Qcf
  walk_at "ev"
  rw [Qah ok _ (by omega),hy]
  walk_at "ev"
end DH

noncomputable section
namespace DH
open PySem PySem.Spec PyProof.Rows L2 L2.PM
theorem sub_lt {U W n:Nat} (hw:W < 2 ^ n) (h:∀ g,U.testBit g=true→W.testBit g=true):U < 2 ^ n:=Nat.lt_pow_two_of_testBit _ fun i hi=>by
  cases hb:U.testBit i with
  | false=>rfl
  | true=>have:=QjI hw (h i hb);omega
end DH

noncomputable section
namespace DH
open PySem PySem.Spec PyProof.Rows L2 L2.PM
end DH
namespace DH
open PySem PySem.Spec PyProof.Rows L2 L2.PM
end DH

noncomputable section
namespace DH
open PySem PySem.Spec PyProof.Rows L2 L2.PM
theorem pAnyB_l (bs:List Bool):Qlq [.lst (bs.map .bl)]=some (.bl (bs.any id)):=by
  show (bls? (bs.map PV.bl)).map (fun bs=>PV.bl (bs.any id))=_
  rw [Qil];rfl
end DH

noncomputable section
namespace DH
open PySem PySem.Spec PyProof.Rows L2 L2.PM
local macro_rules | `(tactic| walk_at "ev") => `(tactic| try simp (disch:=first | assumption | omega | (simp only [encN_len,tr_len,encN_len,List.length_map,List.length_range,List.length_cons,List.length_nil,List.length_append];omega) | decide) only [encN_len,encN_flat,enc_ix0,enc_ix1,enc_ix2,renc_ix0,renc_ix1,flat_benc,flat_renc,e_inside,tr_get,tr_flat,tr_set,testBit_one,testBit_zero',pInv_n,pAnd_inv,isN_l,isN_b,EVc,List.length_cons,List.length_nil,if_true,List.map_cons,List.map_nil,List.replicate_zero,List.replicate_succ,List.cons_append,List.nil_append,List.getElem?_cons_zero,List.getElem?_cons_succ,Option.bind_some,Option.map_some,List.set_cons_zero,List.set_cons_succ,List.length_map,List.length_range,List.all_nil,List.all_cons,List.length_append])
noncomputable def it (b:Bk):Nat→Nat
  | 0=>0
  | i + 1=>dfd b (it b i)
theorem Qlv (b:Bk):∀ i,it b i < 2 ^ b.banes.length
  | 0=>Nat.two_pow_pos _
  | i + 1=>dfd_lt b _
theorem QgB {b:Bk} (ok:b.Ok):∀ (i:Nat) {g:Nat},(it b i).testBit g=true→(it b (i + 1)).testBit g=true
  | 0,g,h=>by unfold it at h;simp at h
  | i + 1,g,h=>dfd_mono ok (fun w hw=>QgB ok i hw) h
noncomputable def lft (b:Bk) (i:Nat):Nat:=((List.range b.banes.length).filter fun g => !(it b i).testBit g).length
theorem lft_lt {b:Bk} (ok:b.Ok) {i:Nat} (h:it b (i + 1)≠it b i):lft b (i + 1) < lft b i:=by
  obtain ⟨g,hg1,hg2⟩:∃ g,(it b (i + 1)).testBit g=true∧(it b i).testBit g=false:=by
    refine Classical.byContradiction fun hn=>h ?_
    refine Nat.eq_of_testBit_eq fun g => ?_
    cases h1:(it b i).testBit g with
    | true=>exact QgB ok i h1
    | false =>
      cases h2:(it b (i + 1)).testBit g with
      | false=>rfl
      | true=>exact absurd ⟨g,h2,h1⟩ hn
  exact Qdm (x:=g) (List.mem_range.mpr (QjI (Qlv b (i + 1)) hg1)) (by simp [hg2]) (by simp [hg1]) fun y hy=>by
    cases h2:(it b i).testBit y with
    | false=>rfl
    | true=>rw [QgB ok i h2] at hy;cases hy
noncomputable def Last (b:Bk) (m:Nat):Prop:=it b (m + 1)=it b m∧∀ j,j < m→it b (j + 1)≠it b j
theorem Last.unique {b:Bk} {m m':Nat} (h:Last b m) (h':Last b m'):m=m':=by
  rcases Nat.lt_trichotomy m m' with q | q | q
  · exact absurd h.1 (h'.2 m q)
  · exact q
  · exact absurd h'.1 (h.2 m' q)
noncomputable def itL (b:Bk) (m:Nat):List Nat:=(List.range (m + 1)).map (it b)
theorem e_rounds {b:Bk} (ok:b.Ok):∃ m,Xt [b.enc]=some (.lst (encN (itL b m)))∧Last b m∧m≤8:=by
  have h8:=ok.g8
  unfold Xt Qif
  walk_at "ev"
  obtain ⟨γ',e,i,rfl,h1,h2,h3⟩:=Qdc (t:=truB (bin2 pNe (Qk Zb (Qe (mVar 0) (Qe (mVar 1) aNil))) (mVar 1))) (b:=Qdp)
    (Post:=fun γ=>∃ i,γ=[.fz b.enc,.fz (pN (it b i)),.ow (encN (itL b i))]∧it b (i + 1)=it b i∧(∀ j,j < i→it b (j + 1)≠it b j)∧lft b i + i≤lft b 0)
    (fun n γ=>∃ i,γ=[.fz b.enc,.fz (pN (it b i)),.ow (encN (itL b i))]∧(∀ j,j < i→it b (j + 1)≠it b j)∧n=lft b i∧lft b i + i≤lft b 0)
    (by
      rintro n γ ⟨i,rfl,q1,rfl,q3⟩
      have ht:(truB (bin2 pNe (Qk Zb (Qe (mVar 0) (Qe (mVar 1) aNil))) (mVar 1))) [.fz b.enc,.fz (pN (it b i)),.ow (encN (itL b i))]=some (!(it b (i + 1)==it b i)):=by
        walk_at "ev"
        rw [Qcd ok]
        walk_at "ev"
        rfl
      by_cases he:it b (i + 1)=it b i
      · exact .inl ⟨by rw [ht,show (it b (i + 1)==it b i)=true by rw [beq_iff_eq];exact he];rfl,i,rfl,he,q1,q3⟩
      · have hlf:=lft_lt ok he
        refine .inr ⟨by rw [ht,show (it b (i + 1)==it b i)=false by rw [beq_eq_false_iff_ne];exact he];rfl,_,lft b (i + 1),?_,hlf,i + 1,rfl,fun j hj => ?_,rfl,by omega⟩
        · have hi:i≤8:=by
            have:=List.length_filter_le (fun g => !(it b 0).testBit g) (List.range b.banes.length)
            rw [List.length_range] at this
            unfold lft at q3
            omega
          unfold Qdp
          walk_at "ev"
          rw [Qcd ok]
          walk_at "ev"
          rw [Xc (by rw [encN_len];unfold itL;rw [List.length_map,List.length_range];omega) rfl]
          walk_at "ev"
          unfold itL
          rw [List.range_succ (n:=i + 1),List.map_append,← QeI]
          rfl
        · by_cases hj2:j=i
          · subst hj2;exact he
          · exact q1 j (by omega))
    1000 (lft b 0) [.fz b.enc,.fz (pN (it b 0)),.ow (encN (itL b 0))] ⟨0,rfl,by simp,rfl,by omega⟩ (by
      have:=List.length_filter_le (fun g => !(it b 0).testBit g) (List.range b.banes.length)
      rw [List.length_range] at this
      unfold lft
      omega)
  have hi:i≤8:=by
    have:=List.length_filter_le (fun g => !(it b 0).testBit g) (List.range b.banes.length)
    rw [List.length_range] at this
    unfold lft at h3
    omega
  unfold Qfg
  rw [show ([Slot.fz b.enc,Slot.fz (pN 0),Slot.ow [pN 0]]:PEnv)=[.fz b.enc,.fz (pN (it b 0)),.ow (encN (itL b 0))] from rfl,e]
  walk_at "ev"
  exact ⟨i,rfl,⟨h1,h2⟩,hi⟩
theorem QfG {α:Type} {g:PV→PEnv→Option PEnv} {b:MSt} (f:α→PV) (v:α→PV) (p:α→Bool) (I:PEnv→Prop):∀ (xs:List α) (γ:PEnv),I γ →
    (∀ x∈xs,∀ γ,I γ→∃ γ1,g (f x) γ=some γ1∧(p x=false→∃ γ2,b γ1=some (.nx γ2)∧I γ2)∧(p x=true→b γ1=some (.rt (v x)))) →
    (xs.find? p=none∧∃ γ',forL g b (xs.map f) γ=some (.nx γ')∧I γ')∨∃ x,xs.find? p=some x∧forL g b (xs.map f) γ=some (.rt (v x))
  | [],γ,h0,_ => .inl ⟨rfl,γ,rfl,h0⟩
  | x :: xs,γ,h0,step=>by
    obtain ⟨γ1,e1,h1,h2⟩:=step x (by simp) γ h0
    cases hp:p x with
    | true =>
      refine .inr ⟨x,by simp [hp],?_⟩
      rw [List.map_cons]
      unfold forL
      rw [e1,Option.bind_some,h2 hp]
      rfl
    | false =>
      obtain ⟨γ2,e2,h3⟩:=h1 hp
      rw [List.map_cons,forL_nx e1 e2,List.find?_cons_of_neg (by simp [hp])]
      exact QfG f v p I xs γ2 h3 fun y hy=>step y (by simp [hy])
noncomputable def rkV (b:Bk) (n g:Nat):PV:=match (List.range n).find? (fun j=>(it b j).testBit g) with
  | some j=>pN j
  | none => .non
theorem Qlc {b:Bk} {m g:Nat} (hg:g≤1000) (hm:m≤8):YQ [.lst (encN (itL b m)),pN g]=some (rkV b (m + 1) g):=by
  unfold YQ QfR
  walk_at "ev"
  rw [enumN,show (itL b m).length=m + 1 by unfold itL;simp]
  have eg:∀ j,j∈List.range (m + 1)→(itL b m).getD j 0=it b j:=fun j hj=>by
    have:=List.mem_range.mp hj
    unfold itL
    simp [this]
  rw [show ((List.range (m + 1)).map fun j=>PV.tup [pN j,pN ((itL b m).getD j 0)])=(List.range (m + 1)).map fun j=>PV.tup [pN j,pN (it b j)] from List.map_congr_left fun j hj=>by rw [eg j hj]]
  rcases QfG (g:=Qbj 2 3) (b:=YM) (fun j=>PV.tup [pN j,pN (it b j)]) pN (fun j=>(it b j).testBit g) (fun γ=>∃ s2 s3,γ=[.fz (.lst (encN (itL b m))),.fz (pN g),s2,s3])
    (List.range (m + 1)) [.fz (.lst (encN (itL b m))),.fz (pN g),.un,.un] ⟨.un,.un,rfl⟩ (by
      rintro j hj γ ⟨s2,s3,rfl⟩
      refine ⟨_,rfl,?_⟩
      have e:YM [.fz (.lst (encN (itL b m))),.fz (pN g),.fz (pN j),.fz (pN (it b j))]=ifK (QbH 2) sNx [.fz (.lst (encN (itL b m))),.fz (pN g),.fz (pN j),.fz (pN (it b j))] ((it b j).testBit g):=by
        unfold YM
        walk_at "ev"
        rw [QcG]
      show (_→∃ γ2,YM [.fz (.lst (encN (itL b m))),.fz (pN g),.fz (pN j),.fz (pN (it b j))]=_∧_)∧(_→YM [.fz (.lst (encN (itL b m))),.fz (pN g),.fz (pN j),.fz (pN (it b j))]=_)
      rw [e]
      cases (it b j).testBit g with
      | true=>exact ⟨fun h=>(by cases h),fun _=>rfl⟩
      | false=>exact ⟨fun _=>⟨_,rfl,_,_,rfl⟩,fun h=>by cases h⟩) with ⟨ha,γ',e,s2,s3,rfl⟩ | ⟨j,ha,e⟩
  · rw [e]
    walk_at "ev"
    unfold rkV
    rw [ha]
  · rw [e]
    walk_at "ev"
    unfold rkV
    rw [ha]
theorem rk_flat (b:Bk) (n g:Nat):flat (rkV b n g)=true:=by
  unfold rkV
  split <;> rfl
theorem QfL {b:Bk} (ok:b.Ok):∃ m,YO [b.enc]=some (.tup [pN (it b m),.tup ((List.range b.banes.length).map fun g=>rkV b (m + 1) g)])∧Last b m∧m≤8:=by
  have h8:=ok.g8
  obtain ⟨m,e,h1,h2⟩:=e_rounds ok
  refine ⟨m,?_,h1,h2⟩
  unfold YO QfQ
  walk_at "ev"
  rw [e]
  walk_at "ev"
  rw [Qfo (fun g=>rkV b (m + 1) g) (List.range b.banes.length) fun g hg=>⟨_,rfl,by
    have:=List.mem_range.mp hg
    walk_at "ev"
    rw [Qlc (by omega) h2]⟩]
  rw [Option.map_some,show ((List.range b.banes.length).map fun g=>rkV b (m + 1) g).all flat=true by rw [List.all_map,List.all_eq_true];exact fun g _=>rk_flat b _ g]
  walk_at "ev"
  rw [show atI (encN (itL b m)) (-((1:Nat):Int))=some (pN (it b m)) by
    unfold itL
    rw [List.range_succ,List.map_append,← QeI]
    exact atI_last1 _ _]
  walk_at "ev"
end DH

noncomputable section
namespace DH
open PySem PySem.Spec PyProof.Rows L2 L2.PM
end DH

noncomputable section
namespace DH
open PySem PySem.Spec PyProof.Rows L2 L2.PM
theorem QdM {τ:Type} {s1 s2:MX τ} {γ γ':PEnv} {t t':τ} (h:s1 γ t=some (.nx γ' t')):xSeq s1 s2 γ t=s2 γ' t':=by
  unfold xSeq;rw [h];rfl
inductive Una where
  | no | yes (g s:Nat)
noncomputable def Una.pv:Una→PV
  | .no => .non
  | .yes g s => .tup [pN g,pN s]
noncomputable def Una.none:Una→Bool
  | .no=>true
  | _=>false
noncomputable def tk (b:Bk) (h:Nat) (u:Una) (n:Nat):OT:=⟨["book","held","unanswered"],[b.enc,pN h,u.pv],some n⟩
noncomputable def aim (h:Nat):Una→Nat
  | .no=>h
  | .yes _ s=>s
noncomputable def oth (u:Una):Str:=if u.none=true then "speaker" else "doubter"
end DH

noncomputable section
namespace DH
open PySem PySem.Spec PyProof.Rows L2 L2.PM
noncomputable def wv (b:Bk) (h:Nat) (u:Una):PV:=if (aim h u&&&stk b (2 ^ b.banes.length - 1)==0)=true then .str (oth u) else .non
end DH

noncomputable section
namespace DH
open PySem PySem.Spec PyProof.Rows L2 L2.PM
theorem Qkx {pre post:List Nat} {x N:Nat} (h:pre++x :: post=List.range N):pre=List.range x∧x < N:=by
  have hl:=congrArg List.length h
  simp at hl
  have hx:(List.range N)[pre.length]?=some x:=by rw [← h];simp
  rw [List.getElem?_range (by omega)] at hx
  cases hx
  refine ⟨?_,by omega⟩
  have:=congrArg (List.take pre.length) h
  rw [List.take_left,List.take_range,Nat.min_eq_left (by omega)] at this
  exact this
theorem Qgt {V U:Nat} (h:∀ k,V.testBit k=true→U.testBit k=true):V≤U:=by
  have:U&&&V=V:=Nat.eq_of_testBit_eq fun i=>by
    rw [Nat.testBit_and]
    cases hc:V.testBit i with
    | false=>simp
    | true=>rw [h i hc];rfl
  rw [← this]
  exact Nat.and_le_left
noncomputable def cmpB (b:Bk) (h:Nat):Bool:=std b h&&(List.range (2 ^ b.banes.length)).all fun k => !(std b k&&insB h k)||k==h
noncomputable def cmpL (b:Bk) (hold:Nat):List Nat:=(List.range (2 ^ b.banes.length)).filter fun h=>cmpB b h&&insB hold h
theorem QeL {b:Bk} {h:Nat}:cmpB b h=true↔std b h=true∧∀ k,k < 2 ^ b.banes.length→std b k=true→insB h k=true→k=h:=by
  unfold cmpB
  rw [Bool.and_eq_true,List.all_eq_true]
  refine and_congr_right fun _=>⟨fun q k h1 h2 h3 => ?_,fun q k hk => ?_⟩
  · have:=q k (List.mem_range.mpr h1)
    rw [h2,h3] at this
    simpa using this
  · cases h2:std b k with
    | false=>rfl
    | true =>
      cases h3:insB h k with
      | false=>rfl
      | true=>simpa using q k (List.mem_range.mp hk) h2 h3
theorem cmp_in {b:Bk} {h:Nat} (hh:h < 2 ^ b.banes.length) (hs:std b h=true):∃ c,c < 2 ^ b.banes.length∧cmpB b c=true∧insB h c=true:=by
  induction hd:2 ^ b.banes.length - h using Nat.strongRecOn generalizing h with
  | _ d ih =>
    by_cases hc:∃ k,k < 2 ^ b.banes.length∧std b k=true∧insB h k=true∧k≠h
    · obtain ⟨k,k1,k2,k3,k4⟩:=hc
      have:=Qgt (ZQ.mp k3)
      obtain ⟨c,c1,c2,c3⟩:=ih (2 ^ b.banes.length - k) (by omega) k1 k2 rfl
      exact ⟨c,c1,c2,ZQ.mpr fun w hw=>ZQ.mp c3 w (ZQ.mp k3 w hw)⟩
    · refine ⟨h,hh,QeL.mpr ⟨hs,fun k k1 k2 k3 => ?_⟩,ZQ.mpr fun _ z=>z⟩
      exact Classical.byContradiction fun z=>hc ⟨k,k1,k2,k3,z⟩
theorem QhP {b:Bk} {hold h:Nat}:h∈cmpL b hold↔h < 2 ^ b.banes.length∧cmpB b h=true∧insB hold h=true:=by
  unfold cmpL
  rw [List.mem_filter,List.mem_range,Bool.and_eq_true]
theorem Qij {b:Bk} (ok:b.Ok) (hold:Nat):(cmpL b hold).length≤256:=by
  have:=List.length_filter_le (fun h=>cmpB b h&&insB hold h) (List.range (2 ^ b.banes.length))
  rw [List.length_range] at this
  have:=pow8 ok.g8
  unfold cmpL
  omega
theorem cmp_step {b:Bk} {pre post:List Nat} {x:Nat} (h:pre++x :: post=(List.range (2 ^ b.banes.length)).reverse) :
    x < 2 ^ b.banes.length∧(!((pre.filter (cmpB b)).any fun c=>insB x c)&&std b x)=cmpB b x:=by
  have h':post.reverse++x :: pre.reverse=List.range (2 ^ b.banes.length):=by
    have:=congrArg List.reverse h
    simpa using this
  obtain ⟨e1,e2⟩:=Qkx h'
  have hp:∀ y,y∈pre→x < y∧y < 2 ^ b.banes.length:=fun y hy=>by
    have pw:(post.reverse++x :: pre.reverse).Pairwise (· < ·):=by rw [h'];exact List.pairwise_lt_range
    have q:=(List.pairwise_append.mp pw).2.1
    refine ⟨(List.pairwise_cons.mp q).1 y (by simpa using hy),?_⟩
    have:y∈List.range (2 ^ b.banes.length):=by rw [← h'];simp [hy]
    exact List.mem_range.mp this
  have hq:∀ y,x < y→y < 2 ^ b.banes.length→y∈pre:=fun y h1 h2=>by
    have:y∈post.reverse++x :: pre.reverse:=by rw [h'];exact List.mem_range.mpr h2
    rw [e1] at this
    rcases List.mem_append.mp this with z | z
    · have:=List.mem_range.mp z
      omega
    · rcases List.mem_cons.mp z with z | z
      · omega
      · simpa using z
  refine ⟨e2,?_⟩
  rw [Bool.eq_iff_iff,Bool.and_eq_true,Bool.not_eq_true',List.any_eq_false,QeL]
  constructor
  · rintro ⟨k1,k2⟩
    refine ⟨k2,fun k h1 h2 h3=>Classical.byContradiction fun hne => ?_⟩
    obtain ⟨c,c1,c2,c3⟩:=cmp_in h1 h2
    have l1:=Qgt (ZQ.mp h3)
    have l2:=Qgt (ZQ.mp c3)
    exact k1 c (List.mem_filter.mpr ⟨hq c (by omega) c1,c2⟩) (ZQ.mpr fun w hw=>ZQ.mp c3 w (ZQ.mp h3 w hw))
  · rintro ⟨k1,k2⟩
    refine ⟨fun c hc hin => ?_,k1⟩
    obtain ⟨c1,c2⟩:=List.mem_filter.mp hc
    obtain ⟨p1,p2⟩:=hp c c1
    have:=k2 c p2 (QeL.mp c2).1 hin
    omega
theorem rg3_n {a:Nat} (h:a≤100000):rg3K (pN a) (.int (-((1:Nat):Int))) (.int (-((1:Nat):Int)))=some (encN (List.range (a + 1)).reverse):=by
  have h1:rOk ((a:Nat):Int)=true:=Qjw (by omega) (by omega)
  have h2:rOk (-((1:Nat):Int))=true:=Qjw (by omega) (by omega)
  show (if (-((1:Nat):Int)) = -1∧rOk ((a:Nat):Int)=true∧rOk (-((1:Nat):Int))=true then some (rngD a (-((1:Nat):Int))) else none)=_
  rw [if_pos ⟨rfl,h1,h2⟩]
  congr 1
  unfold rngD encN
  rw [show ((a:Int) - -((1:Nat):Int)).toNat=a + 1 by omega]
  refine List.ext_getElem (by simp) fun i h1 h2 => ?_
  simp at h1 h2
  simp [pN]
  omega
theorem ev_iRg3 (m1 m2 m3:MEx) (γ:PEnv):iRg3 m1 m2 m3 γ=(m1 γ).bind fun p=>(m2 γ).bind fun q=>(m3 γ).bind fun r=>rg3K p q r:=rfl
theorem pRev_n (xs:List Nat):pRev [.lst (encN xs)]=some (encN xs.reverse):=by show some (encN xs).reverse=_;unfold encN;rw [List.map_reverse]
local macro_rules | `(tactic| walk_at "ev") => `(tactic| try simp (disch:=first | assumption | omega | (simp only [encN_len,encN_len,List.length_map,List.length_range,List.length_cons,List.length_nil,List.length_append];omega) | decide) only [encN_len,encN_flat,enc_ix0,enc_ix1,enc_ix2,renc_ix0,renc_ix1,flat_benc,flat_renc,e_inside,ev_iRg3,pRev_n,rg3_n,EVc,List.length_cons,List.length_nil,if_true,List.map_cons,List.map_nil,List.replicate_zero,List.replicate_succ,List.cons_append,List.nil_append,List.getElem?_cons_zero,List.getElem?_cons_succ,Option.bind_some,Option.map_some,List.set_cons_zero,List.set_cons_succ,List.length_map,List.length_range,List.all_nil,List.all_cons,List.length_append])
theorem e_camps {b:Bk} (ok:b.Ok) (hold:Nat):QaG [b.enc,pN hold]=some (.tup (encN (cmpL b hold))):=by
  have h8:=ok.g8
  have hp:=Nat.two_pow_pos b.banes.length
  have hp8:=pow8 h8
  unfold QaG Qki
  walk_at "ev"
  rw [QbA ok]
  walk_at "ev"
  rw [show 2 ^ b.banes.length - 1 + 1=2 ^ b.banes.length by omega]
  obtain ⟨γ',e,s3,s4,rfl⟩:=Ym (g:=gSet 3) (b:=QeP) pN (fun pre γ=>∃ s3 s4,γ=[.fz b.enc,.fz (pN hold),.ow (encN (pre.filter (cmpB b))),s3,s4])
    (List.range (2 ^ b.banes.length)).reverse (List.range (2 ^ b.banes.length)).reverse [] [.fz b.enc,.fz (pN hold),.ow (encN []),.un,.un] rfl ⟨.un,.un,rfl⟩ (by
      rintro pre j post γ hpre ⟨s3,s4,rfl⟩
      obtain ⟨hj,hst⟩:=cmp_step hpre
      have hl:(pre.filter (cmpB b)).length≤256:=by
        have h1:=List.length_filter_le (cmpB b) pre
        have h2:=congrArg List.length hpre
        simp at h2
        omega
      refine ⟨_,_,rfl,?_,.fz (pN j),.fz (.bl ((pre.filter (cmpB b)).any fun c=>insB j c)),rfl⟩
      rw [List.filter_append]
      generalize pre.filter (cmpB b)=fo at *
      unfold QeP
      walk_at "ev"
      rw [show encN fo=fo.map pN from rfl,Qaa pN (fun c=>PV.bl (insB j c)) fo fun c hc=>⟨_,rfl,by walk_at "ev"⟩]
      rw [show (fo.map fun c=>PV.bl (insB j c))=(fo.map fun c=>insB j c).map PV.bl by rw [List.map_map];rfl]
      walk_at "ev"
      rw [pAnyB_l,List.any_map,show (id ∘ fun c=>insB j c)=fun c=>insB j c from rfl]
      walk_at "ev"
      rw [show fo.map pN=encN fo from rfl]
      cases ha:fo.any (fun c=>insB j c) with
      | true =>
        rw [ha] at hst
        rw [List.filter_cons_of_neg (by rw [← hst];simp)]
        walk_at "ev"
        simp
      | false =>
        rw [ha] at hst
        walk_at "ev"
        rw [e_stands ok]
        walk_at "ev"
        cases hk:std b j with
        | true =>
          rw [hk] at hst
          rw [List.filter_cons_of_pos (by rw [← hst];rfl)]
          walk_at "ev"
          rw [Xc (by rw [encN_len];omega) rfl]
          walk_at "ev"
          simp [encN]
        | false =>
          rw [hk] at hst
          rw [List.filter_cons_of_neg (by rw [← hst];simp)]
          walk_at "ev"
          simp)
  rw [show ([]:List PV)=encN [] from rfl,show encN (List.range (2 ^ b.banes.length)).reverse=(List.range (2 ^ b.banes.length)).reverse.map pN from rfl,e]
  walk_at "ev"
  have hl2:(List.filter (cmpB b) (List.range (2 ^ b.banes.length)).reverse).length≤256:=by
    have:=List.length_filter_le (cmpB b) (List.range (2 ^ b.banes.length)).reverse
    rw [List.length_reverse,List.length_range] at this
    omega
  rw [show (encN (List.filter (cmpB b) (List.range (2 ^ b.banes.length)).reverse)).reverse=encN (List.filter (cmpB b) (List.range (2 ^ b.banes.length)).reverse).reverse by unfold encN;rw [List.map_reverse],cmpK_ok (by rw [encN_len,List.length_reverse];omega)]
  rw [compNF (fun c=>insB hold c) _ fun c hc=>⟨_,rfl,by walk_at "ev",by walk_at "ev"⟩]
  walk_at "ev"
  rw [← List.filter_reverse,List.reverse_reverse,List.filter_filter]
  unfold cmpL
  congr 4
  funext h
  rw [Bool.and_comm]
end DH

noncomputable section
namespace DH
open PySem PySem.Spec PyProof.Rows L2 L2.PM
end DH

noncomputable section
namespace DH
open PySem PySem.Spec PyProof.Rows L2 L2.PM
theorem encN_set' (xs:List Nat) (j v:Nat):(encN xs).set j (pN v)=encN (xs.set j v):=by unfold encN;rw [List.map_set]
end DH

noncomputable section
namespace DH
open PySem PySem.Spec PyProof.Rows L2 L2.PM
end DH

noncomputable section
namespace DH
open PySem PySem.Spec PyProof.Rows L2 L2.PM
noncomputable def RU (b:Bk) (c w:Nat):Nat:=Classical.epsilon fun U=>QI [b.enc,pN c,pN w]=some (pN U)∧(∀ g,U.testBit g=true→c.testBit g=true)∧IsRs b w U
theorem RU_ok {b:Bk} (ok:b.Ok) {c w:Nat} (hc:c < 2 ^ b.banes.length) (hw:w < b.words) (hy:(yl b c).testBit w=true) :
    QI [b.enc,pN c,pN w]=some (pN (RU b c w))∧(∀ g,(RU b c w).testBit g=true→c.testBit g=true)∧IsRs b w (RU b c w) :=
  Classical.epsilon_spec (p:=fun U=>QI [b.enc,pN c,pN w]=some (pN U)∧(∀ g,U.testBit g=true→c.testBit g=true)∧IsRs b w U) (Qje ok hc hw hy)
noncomputable def aRV (b:Bk) (w c:Nat):PV:=if (yl b c).testBit w=true then pN (RU b c w) else .non
theorem e_ar {b:Bk} (ok:b.Ok) {c w:Nat} (hc:c < 2 ^ b.banes.length) (hw:w < b.words):QI [b.enc,pN c,pN w]=some (aRV b w c):=by
  unfold aRV
  cases hy:(yl b c).testBit w with
  | true=>rw [if_pos rfl];exact (RU_ok ok hc hw hy).1
  | false=>rw [if_neg (by decide)];exact Qea ok hw hy
theorem aRV_N (b:Bk) (w c:Nat):isN (aRV b w c) = !(yl b c).testBit w:=by
  unfold aRV
  cases (yl b c).testBit w <;> rfl
theorem aRV_flat (b:Bk) (w c:Nat):flat (aRV b w c)=true:=by
  unfold aRV
  cases (yl b c).testBit w <;> rfl
noncomputable def prV (b:Bk) (w c:Nat):PV := .tup [pN c,aRV b w c]
theorem Qes {j:Nat} {ms:List Nat} {g:Addr→List PV→OT→Option OT} {ma:PEnv→Option (List PV)} {γ:PEnv} {t t':OT} {a:Addr} {rs:List PV} (h1:ma γ=some (.opq a :: rs)) (h2:QaB γ j=some a) (h3:g a rs t=some t'):QeQ j ms g ma γ t=some (.nx (frz ms γ) t'):=by
  unfold QeQ
  rw [h1,Option.bind_some,h2,Option.bind_some]
  show ((if a=a then g a rs t else none).map _)=_
  rw [if_pos rfl,h3]
  rfl
theorem Qjv {τ:Type} (m:MX τ) (a:Addr) (p q:PV) (t:τ):runX 3 3 m a [p,q] t=(m [.fz (.opq a),.fz p,.fz q] t).bind outX:=rfl
theorem runX2' {τ:Type} (m:MX τ) (a:Addr) (p:PV) (t:τ):runX 2 2 m a [p] t=(m [.fz (.opq a),.fz p] t).bind outX:=rfl
theorem runX5' {τ:Type} (m:MX τ) (a:Addr) (p q r s:PV) (t:τ):runX 5 5 m a [p,q,r,s] t=(m [.fz (.opq a),.fz p,.fz q,.fz r,.fz s] t).bind outX:=rfl
theorem Qlx (a:Addr) (p q:PV):Qr a [p,q] ⟨[],[],none⟩=some ⟨["word","name"],[p,q],none⟩:=by
  unfold Qr QaU
  rw [Qjv,QdM (γ':=[.fz (.opq a),.fz p,.fz q]) (t':=⟨["word"],[p],none⟩) rfl]
  rfl
theorem QkR (a:Addr) (p q:PV):QD a [p,q] ⟨[],[],none⟩=some ⟨["word","name","reason"],[p,.str "settled",q],none⟩:=by
  unfold QD Xh
  rw [Qjv,QdM (Qes (a:=a) (rs:=[p,.str "settled"]) rfl rfl (Qlx a p (.str "settled")))]
  rfl
theorem i_sure (a:Addr) (p q:PV):Za a [p,q] ⟨[],[],none⟩=some ⟨["word","name","pairs"],[p,.str "sure",q],none⟩:=by
  unfold Za Qao
  rw [Qjv,QdM (Qes (a:=a) (rs:=[p,.str "sure"]) rfl rfl (Qlx a p (.str "sure")))]
  rfl
theorem i_never (a:Addr) (p:PV):QQ a [p] ⟨[],[],none⟩=some ⟨["word","name"],[p,.str "never"],none⟩:=by
  unfold QQ XT
  rw [runX2',Qes (a:=a) (rs:=[p,.str "never"]) rfl rfl (Qlx a p (.str "never"))]
  rfl
theorem i_maybe (a:Addr) (p q r s:PV):QR a [p,q,r,s] ⟨[],[],none⟩=some ⟨["word","name","camp","reason","other"],[p,.str "maybe",q,r,s],none⟩:=by
  unfold QR XU
  rw [runX5',QdM (Qes (a:=a) (rs:=[p,.str "maybe"]) rfl rfl (Qlx a p (.str "maybe")))]
  rw [QdM (γ':=[.fz (.opq a),.fz p,.fz q,.fz r,.fz s]) (t':=⟨["word","name","camp"],[p,.str "maybe",q],none⟩) rfl]
  rw [QdM (γ':=[.fz (.opq a),.fz p,.fz q,.fz r,.fz s]) (t':=⟨["word","name","camp","reason"],[p,.str "maybe",q,r],none⟩) rfl]
  rfl
theorem QgP {C:Addr} {g:Addr→List PV→OT→Option OT} {ma:PEnv→Option (List PV)} {γ:PEnv} {qs:List PV} {ks:List Str} {ps:List PV} (h1:ma γ=some qs) (h2:∀ a,g a qs ⟨[],[],none⟩=some ⟨ks,ps,none⟩):mNew C g ma γ=some (.obj C ks ps):=by
  unfold mNew
  rw [h1,Option.bind_some,allB_ok h2]
  rfl
noncomputable def ylds (b:Bk) (w:Nat):List Nat:=(cmpL b 0).filter fun c=>(yl b c).testBit w
noncomputable def nots (b:Bk) (w:Nat):List Nat:=(cmpL b 0).filter fun c => !(yl b c).testBit w
noncomputable def Qbr (C:Nat→Addr) (w U:Nat):PV := .obj (C 1) ["word","name","reason"] [pN w,.str "settled",pN U]
noncomputable def Qls (C:Nat→Addr) (w:Nat) (ps:List PV):PV := .obj (C 2) ["word","name","pairs"] [pN w,.str "sure",.tup ps]
noncomputable def Qfk (C:Nat→Addr) (w c U d:Nat):PV := .obj (C 3) ["word","name","camp","reason","other"] [pN w,.str "maybe",pN c,pN U,pN d]
noncomputable def QgO (C:Nat→Addr) (w:Nat):PV := .obj (C 4) ["word","name"] [pN w,.str "never"]
noncomputable def lotV (C:Nat→Addr) (b:Bk) (m w:Nat):PV :=
  if (yl b (it b m)).testBit w=true then Qbr C w (RU b (it b m) w) else if (nots b w).isEmpty=true then Qls C w ((ylds b w).map (prV b w)) else if (ylds b w).isEmpty=true then QgO C w
  else Qfk C w ((ylds b w).getD 0 0) (RU b ((ylds b w).getD 0 0) w) ((nots b w).getD 0 0)
theorem prV_ix0 (b:Bk) (w c:Nat):pIx (prV b w c) (pN 0)=some (pN c):=rfl
theorem prV_ix1 (b:Bk) (w c:Nat):pIx (prV b w c) (pN 1)=some (aRV b w c):=rfl
theorem enc_emp (xs:List Nat):(encN xs).isEmpty=xs.isEmpty:=by cases xs <;> rfl
theorem map_emp (f:Nat→PV) (xs:List Nat):(xs.map f).isEmpty=xs.isEmpty:=by cases xs <;> rfl
local macro_rules | `(tactic| walk_at "ev") => `(tactic| try simp (disch:=first | assumption | omega | (simp only [encN_len,List.length_map,encN_len,List.length_map,List.length_range,List.length_cons,List.length_nil,List.length_append];omega) | decide) only [encN_len,encN_flat,enc_ix0,enc_ix1,enc_ix2,flat_benc,prV_ix0,prV_ix1,aRV_N,aRV_flat,EVc,List.length_cons,List.length_nil,if_true,List.map_cons,List.map_nil,List.replicate_zero,List.replicate_succ,List.cons_append,List.nil_append,List.getElem?_cons_zero,List.getElem?_cons_succ,Option.bind_some,Option.map_some,List.set_cons_zero,List.set_cons_succ,List.length_map,List.length_range,List.all_nil,List.all_cons,List.length_append])
theorem e_lot (C:Nat→Addr) {b:Bk} (ok:b.Ok) {w m:Nat} (hw:w < b.words) (hl:Last b m):Qgf C [b.enc,pN w]=some (lotV C b m w):=by
  have hw60:=ok.w60
  obtain ⟨m',es,hl',_⟩:=QfL ok
  have:=hl.unique hl'
  subst this
  have hlen:=Qij ok 0
  unfold Qgf d_lot lotV
  walk_at "ev"
  rw [es]
  walk_at "ev"
  rw [e_ar ok (Qlv b m) hw]
  walk_at "ev"
  cases hy:(yl b (it b m)).testBit w with
  | true =>
    walk_at "ev"
    rw [QgP (qs:=[pN w,aRV b w (it b m)]) (by walk_at "ev") (fun a=>QkR a _ _)]
    walk_at "ev"
    unfold aRV Qbr
    rw [hy]
    rfl
  | false =>
    walk_at "ev"
    rw [e_camps ok]
    walk_at "ev"
    rw [Qfo (prV b w) (cmpL b 0) fun c hc=>⟨_,rfl,by
      walk_at "ev"
      rw [e_ar ok (QhP.mp hc).1 hw]
      walk_at "ev"
      rfl⟩]
    have hk1:∀ kk:Bool,ZD kk [0,0,1] [Slot.fz b.enc,.fz (pN w),.fz (aRV b w (it b m)),.un,.un,.un]=[Slot.fz b.enc,.fz (pN w),.fz (aRV b w (it b m)),.un,.un,.un]:=fun kk=>by cases kk <;> rfl
    rw [Option.map_some,hk1]
    walk_at "ev"
    rw [XZ (prV b w) (fun c=>(yl b c).testBit w) (prV b w) (cmpL b 0) fun c hc=>⟨_,rfl,by
      walk_at "ev"
      rw [Bool.not_not],fun _=>by walk_at "ev"⟩]
    obtain ⟨s3,hs3,hk2⟩:∃ s3:Slot,s3.val=some (.lst ((cmpL b 0).map (prV b w)))∧ZD ((((cmpL b 0).filter fun c=>(yl b c).testBit w).map (prV b w)).all flat) [3] [Slot.fz b.enc,.fz (pN w),.fz (aRV b w (it b m)),.ow ((cmpL b 0).map (prV b w)),.un,.un]=[Slot.fz b.enc,.fz (pN w),.fz (aRV b w (it b m)),s3,.un,.un]:=by
      cases (((cmpL b 0).filter fun c=>(yl b c).testBit w).map (prV b w)).all flat with
      | true=>exact ⟨_,rfl,rfl⟩
      | false=>exact ⟨_,rfl,rfl⟩
    rw [Option.map_some,hk2]
    walk_at "ev"
    rw [hs3]
    walk_at "ev"
    rw [XZ (prV b w) (fun c => !(yl b c).testBit w) pN (cmpL b 0) fun c hc=>⟨_,rfl,by walk_at "ev",fun _=>by walk_at "ev"⟩]
    rw [show ((cmpL b 0).filter fun c => !(yl b c).testBit w).map pN=encN (nots b w) from rfl,show ((cmpL b 0).filter fun c=>(yl b c).testBit w)=ylds b w from rfl]
    walk_at "ev"
    rw [Bool.not_not,enc_emp]
    cases hn:(nots b w).isEmpty with
    | true =>
      walk_at "ev"
      rw [QgP (qs:=[pN w,.tup ((ylds b w).map (prV b w))]) (by walk_at "ev") (fun a=>i_sure a _ _)]
      walk_at "ev"
      rfl
    | false =>
      walk_at "ev"
      rw [Bool.not_not,map_emp]
      cases hyl:(ylds b w).isEmpty with
      | true =>
        walk_at "ev"
        rw [QgP (qs:=[pN w]) (by walk_at "ev") (fun a=>i_never a _)]
        walk_at "ev"
        rfl
      | false =>
        obtain ⟨c,cs,ec⟩:∃ c cs,ylds b w=c :: cs:=by
          cases h:ylds b w with
          | nil=>rw [h] at hyl;cases hyl
          | cons c cs=>exact ⟨c,cs,rfl⟩
        obtain ⟨d,ds,ed⟩:∃ d ds,nots b w=d :: ds:=by
          cases h:nots b w with
          | nil=>rw [h] at hn;cases hn
          | cons c cs=>exact ⟨c,cs,rfl⟩
        have hc:(yl b c).testBit w=true:=by
          have:c∈ylds b w:=by rw [ec];simp
          unfold ylds at this
          exact (List.mem_filter.mp this).2
        rw [ec,ed]
        walk_at "ev"
        rw [QgP (qs:=[pN w,pN c,aRV b w c,pN d]) (by walk_at "ev") (fun a=>i_maybe a _ _ _ _)]
        walk_at "ev"
        unfold aRV Qfk
        rw [hc]
        rfl
end DH

noncomputable section
namespace DH
open PySem PySem.Spec PyProof.Rows L2 L2.PM
noncomputable abbrev Four (C:Nat→Addr):Prop:=([C 1,C 2,C 3,C 4]:List Addr).Nodup
theorem QbO {C:Nat→Addr} (h:Four C):(C 1==C 2)=false∧(C 1==C 3)=false∧(C 1==C 4)=false∧(C 2==C 1)=false∧(C 2==C 3)=false∧(C 2==C 4)=false∧(C 3==C 1)=false∧(C 3==C 2)=false∧(C 3==C 4)=false∧(C 4==C 1)=false∧(C 4==C 2)=false∧(C 4==C 3)=false:=by
  unfold Four at h
  simp only [List.nodup_cons,List.mem_cons,List.not_mem_nil,or_false,not_or,List.nodup_nil,and_true,not_false_eq_true] at h
  obtain ⟨⟨a,b,c⟩,⟨d,e⟩,f⟩:=h
  simp only [beq_eq_false_iff_ne]
  exact ⟨a,b,c,Ne.symm a,d,e,Ne.symm b,Ne.symm d,f,Ne.symm c,Ne.symm e,Ne.symm f⟩
theorem isi_1 {C:Nat→Addr} (h:Four C) (a b c d:Bool) (ks:List Str) (ps:List PV):isiS [(C 1,a),(C 2,b),(C 3,c),(C 4,d)] (.obj (C 1) ks ps)=some (.bl a):=by
  show (List.lookup (C 1) [(C 1,a),(C 2,b),(C 3,c),(C 4,d)]).map PV.bl=_
  simp
theorem isi_2 {C:Nat→Addr} (h:Four C) (a b c d:Bool) (ks:List Str) (ps:List PV):isiS [(C 1,a),(C 2,b),(C 3,c),(C 4,d)] (.obj (C 2) ks ps)=some (.bl b):=by
  show (List.lookup (C 2) [(C 1,a),(C 2,b),(C 3,c),(C 4,d)]).map PV.bl=_
  have q:=QbO h
  simp [List.lookup_cons,q]
theorem isi_3 {C:Nat→Addr} (h:Four C) (a b c d:Bool) (ks:List Str) (ps:List PV):isiS [(C 1,a),(C 2,b),(C 3,c),(C 4,d)] (.obj (C 3) ks ps)=some (.bl c):=by
  show (List.lookup (C 3) [(C 1,a),(C 2,b),(C 3,c),(C 4,d)]).map PV.bl=_
  have q:=QbO h
  simp [List.lookup_cons,q]
theorem Qlw {C:Nat→Addr} (h:Four C) (a b c d:Bool) (ks:List Str) (ps:List PV):isiS [(C 1,a),(C 2,b),(C 3,c),(C 4,d)] (.obj (C 4) ks ps)=some (.bl d):=by
  show (List.lookup (C 4) [(C 1,a),(C 2,b),(C 3,c),(C 4,d)]).map PV.bl=_
  have q:=QbO h
  simp [List.lookup_cons,q]
theorem ev_mIsiS (tab:List (Addr×Bool)) (m:MEx) (γ:PEnv):Qhl tab m γ=(m γ).bind (isiS tab):=rfl
theorem ev_mFldS (Cs:List Addr) (f:Str) (m:MEx) (γ:PEnv):XH Cs f m γ=(m γ).bind (fldS Cs f):=rfl
theorem YS (C:Nat→Addr) {D:Addr} (hD:D∈[C 1,C 2,C 3,C 4]) {ks:List Str} {ps:List PV} {s:PV} {f:Str} (hl:((ks.zip ps).lookup f)=some s):fldS [C 1,C 2,C 3,C 4] f (.obj D ks ps)=some s:=by
  show (if ([C 1,C 2,C 3,C 4]:List Addr).contains D=true then (ks.zip ps).lookup f else none)=_
  rw [if_pos (by simpa using hD),hl]
end DH

noncomputable section
namespace DH
open PySem PySem.Spec PyProof.Rows L2 L2.PM
local macro_rules | `(tactic| walk_at "ev") => `(tactic| try simp (disch:=first | assumption | omega | (simp only [encN_len,tr_len,encN_len,List.length_map,List.length_range,List.length_cons,List.length_nil,List.length_append];omega) | decide) only [encN_len,encN_flat,enc_ix0,enc_ix1,enc_ix2,renc_ix0,renc_ix1,flat_benc,flat_renc,e_inside,tr_get,tr_flat,tr_set,testBit_one,e_cell,pNe_nil',pAdd_ni,pAdd_in,runO_2',outO_ro',EVc,List.length_cons,List.length_nil,if_true,List.map_cons,List.map_nil,List.replicate_zero,List.replicate_succ,List.cons_append,List.nil_append,List.getElem?_cons_zero,List.getElem?_cons_succ,Option.bind_some,Option.map_some,List.set_cons_zero,List.set_cons_succ,List.length_map,List.length_range,List.all_nil,List.all_cons,List.length_append])
theorem Qle (c:Int) {k:Nat} (h:k < 1000):∃ n,Qj [.int c,pN k]=some (pN n):=by
  unfold Qj QaR
  have h1:k * k < 1000 * 1000:=Nat.mul_lt_mul'' h h
  walk_at "ev"
  exact ⟨_,rfl⟩
noncomputable def draw11N (c:Int) (k:Nat):Nat:=Classical.epsilon fun n=>Qj [.int c,pN k]=some (pN n)
theorem e_draw11 (c:Int) {k:Nat} (h:k < 1000):Qj [.int c,pN k]=some (pN (draw11N c k)):=Classical.epsilon_spec (p:=fun n=>Qj [.int c,pN k]=some (pN n)) (Qle c h)
theorem e_draw11_n (c:Nat) {k:Nat} (h:k < 1000):Qj [pN c,pN k]=some (pN (draw11N c k)):=e_draw11 _ h
theorem runO_3z {N:Nat} {m:MSt} {a0 a1 a2:PV}:runO N 3 m [a0,a1,a2]=(m (ZM N [a0,a1,a2])).bind outO:=rfl
local macro_rules | `(tactic| walk_at "ev") => `(tactic| try simp (disch:=first | assumption | omega | (simp only [encN_len,tr_len,encN_len,List.length_map,List.length_range,List.length_cons,List.length_nil,List.length_append];omega) | decide) only [encN_len,encN_flat,enc_ix0,enc_ix1,enc_ix2,renc_ix0,renc_ix1,flat_benc,flat_renc,e_inside,tr_get,tr_flat,tr_set,testBit_one,e_draw11,e_draw11_n,e_cell,pNe_nil',pAdd_ni,pAdd_in,runO_2',outO_ro',encN_set',runO_3z,EVc,List.length_cons,List.length_nil,if_true,List.map_cons,List.map_nil,List.replicate_zero,List.replicate_succ,List.cons_append,List.nil_append,List.getElem?_cons_zero,List.getElem?_cons_succ,Option.bind_some,Option.map_some,List.set_cons_zero,List.set_cons_succ,List.length_map,List.length_range,List.all_nil,List.all_cons,List.length_append])
theorem e_first4 {shape n m:Nat} {z:Int} (hn:n≤8) (hs:shape=0∨n + 1≤m) (hz:z=((n + m:Nat):Int) - 1):∃ rules:List Rule,Zm [pN shape,pN n,.int z]=some (rules.map Rule.enc)∧(∀ r∈rules,Yy n (n + m) r)∧rules.length≤18:=by
  unfold Zm QaQ
  walk_at "ev"
  obtain ⟨γ',e,rules,s3,rfl,h1,h2⟩:=QjD (g:=gSet 4) (b:=Yh) (fun j γ=>∃ (rules:List Rule) (s3:Slot),γ=[.fz (pN shape),.fz (pN n),.fz (.int z),.ow (rules.map Rule.enc),s3]∧(∀ r∈rules,Yy n (n + m) r)∧rules.length≤2 * j)
    n [.fz (pN shape),.fz (pN n),.fz (.int z),.ow ([].map Rule.enc),.un] ⟨[],.un,rfl,by simp,by simp⟩ (by
      rintro j γ hj ⟨rules,s3,rfl,h1,h2⟩
      have key:∃ rules':List Rule,Yh [.fz (pN shape),.fz (pN n),.fz (.int z),.ow (rules.map Rule.enc),.fz (pN j)]=some (.nx [.fz (pN shape),.fz (pN n),.fz (.int z),.ow (rules'.map Rule.enc),.fz (pN j)])∧(∀ r∈rules',Yy n (n + m) r)∧rules'.length≤2 * (j + 1):=by
        have fin:∀ rules:List Rule,(∀ r∈rules,Yy n (n + m) r)→rules.length≤2 * j + 1→∃ rules':List Rule,(sIf (bAnd (truB (bin2 pEq (mVar 0) (mN 1))) (truB (bin2 pLt (bin2 pAdd (mVar 4) (mN 1)) (mVar 1)))) (sApp [1,4,4] 3 (mTup (Qe (bin2 pAdd (mVar 1) (mVar 4)) (Qe (mTup (Qe (bin2 pAdd (mVar 4) (mN 1)) aNil)) aNil)))) sNx) [.fz (pN shape),.fz (pN n),.fz (.int z),.ow (rules.map Rule.enc),.fz (pN j)]=some (.nx [.fz (pN shape),.fz (pN n),.fz (.int z),.ow (rules'.map Rule.enc),.fz (pN j)])∧(∀ r∈rules',Yy n (n + m) r)∧rules'.length≤2 * (j + 1):=by
          intro rules h1 h2
          walk_at "ev"
          rw [Qfq (b:=decide (j + 1 < n)) (by walk_at "ev")]
          walk_at "ev"
          cases hc:(shape==1&&decide (j + 1 < n)) with
          | false=>walk_at "ev";exact ⟨rules,rfl,h1,by omega⟩
          | true =>
            have hsh:shape≠0:=by
              rintro rfl
              simp at hc
            rw [Bool.and_eq_true,decide_eq_true_iff,beq_iff_eq] at hc
            walk_at "ev"
            rw [Xc (by rw [List.length_map];omega) rfl]
            walk_at "ev"
            refine ⟨rules++[⟨n + j,[j + 1]⟩],by rw [List.map_append];rfl,Qbg h1 (QcE (by omega) (by omega) (by omega)) (most:=0),by simp;omega⟩
        unfold Yh
        rw [ev_sSeq]
        generalize hk:seqK _=k
        walk_at "ev"
        rw [Qfq (b:=(decide (j + 1 < n)||j % 2==1)) (by walk_at "ev";rw [orK_b (b:=j % 2==1) (by walk_at "ev")])]
        walk_at "ev"
        cases hc:(shape==2&&(decide (j + 1 < n)||j % 2==1)) with
        | false=>walk_at "ev";subst hk;rw [seqK_nx];exact fin rules h1 (by omega)
        | true =>
          have hsh:shape≠0:=by
            rintro rfl
            simp at hc
          rw [Bool.and_eq_true,Bool.or_eq_true,decide_eq_true_iff,beq_iff_eq,beq_iff_eq] at hc
          have hm2:j % 2 < 2:=Nat.mod_lt _ (by decide)
          have hsub:2 * (j % 2)≤j + 1:=by omega
          walk_at "ev"
          rw [Xc (by rw [List.length_map];omega) rfl]
          walk_at "ev"
          subst hk
          rw [seqK_nx,show rules.map Rule.enc++[PV.tup [pN (n + j),PV.tup [pN (j + 1 - 2 * (j % 2))]]]=(rules++[(⟨n + j,[j + 1 - 2 * (j % 2)]⟩:Rule)]).map Rule.enc by rw [List.map_append];rfl]
          exact fin _ (Qbg h1 (QcE (by omega) (by omega) (by omega)) (most:=0)) (by simp;omega)
      obtain ⟨rules',e,h3,h4⟩:=key
      exact ⟨_,_,rfl,e,rules',_,rfl,h3,h4⟩)
  rw [show ([]:List PV)=([]:List Rule).map Rule.enc from rfl,e]
  walk_at "ev"
  rw [Qfq (b:=decide (1 < n)) (by walk_at "ev")]
  walk_at "ev"
  cases hc:(shape==2&&decide (1 < n)) with
  | false=>walk_at "ev";exact ⟨rules,rfl,h1,by omega⟩
  | true =>
    rw [Bool.and_eq_true,decide_eq_true_iff,beq_iff_eq] at hc
    obtain ⟨hc1,hc2⟩:=hc
    have hm:n + 1≤m:=by rcases hs with h | h <;> omega
    obtain ⟨last,rfl⟩:∃ last:Nat,z=(last:Int):=⟨n + m - 1,by omega⟩
    have hlast:last=n + m - 1:=by omega
    walk_at "ev"
    have hk:∀ kk:Bool,ZD kk [3,2,2] [Slot.fz (pN shape),.fz (pN n),.fz (.int (last:Int)),.ow (rules.map Rule.enc),s3]=[Slot.fz (pN shape),.fz (pN n),.fz (.int (last:Int)),if kk=true then .ow (rules.map Rule.enc) else .fz (.lst (rules.map Rule.enc)),s3]:=fun kk=>by
      cases kk <;> rfl
    rw [hk]
    walk_at "ev"
    exact ⟨rules++[⟨last,[0]⟩,⟨last,[1]⟩],by rw [List.map_append];rfl,fun r hr=>by
      rcases List.mem_append.mp hr with z | z
      · exact h1 r z
      · rcases List.mem_cons.mp z with rfl | z
        · exact QcE (by omega) (by omega) (by omega)
        · rw [List.mem_singleton.mp z];exact QcE (by omega) (by omega) (by omega),by simp;omega⟩
theorem bk10_t1 {n m shape:Nat} (c0:Int) (hn:n≤8) (hm:m≤30) (hs:(m=0∧shape=0)∨n + 1≤m) (s0 s7 s8 s9:Slot) (c:Slot) :
    ∃ (banes:List Nat) (s6:Slot),forL (gSet 6) ZH (encN (List.range n)) [s0,.fz (.int c0),.fz (pN n),.fz (pN m),.fz (pN shape),.ow (encN ((List.range n).map fun k=>n + k)),c,s7,s8,s9] =
      some (.nx [s0,.fz (.int c0),.fz (pN n),.fz (pN m),.fz (pN shape),.ow (encN banes),s6,s7,s8,s9])∧banes.length=n∧∀ x∈banes,x < n + m:=by
  obtain ⟨γ',e,banes,s6,rfl,h1,h2⟩:=QjD (g:=gSet 6) (b:=ZH) (fun j γ=>∃ (banes:List Nat) (s6:Slot),γ=[s0,.fz (.int c0),.fz (pN n),.fz (pN m),.fz (pN shape),.ow (encN banes),s6,s7,s8,s9]∧banes.length=n∧∀ i x,banes[i]?=some x→(n + 1≤m∨i < j)→x < n + m)
    n [s0,.fz (.int c0),.fz (pN n),.fz (pN m),.fz (pN shape),.ow (encN ((List.range n).map fun k=>n + k)),c,s7,s8,s9] ⟨_,c,rfl,by simp,fun i x hx h=>by
      rw [List.getElem?_map,Option.map_eq_some_iff] at hx
      obtain ⟨k,hk,rfl⟩:=hx
      rw [List.getElem?_eq_some_iff] at hk
      obtain ⟨h1,h2⟩:=hk
      simp at h1 h2
      omega⟩ (by
      rintro j γ hj ⟨banes,s6,rfl,h1,h2⟩
      have e:ZH [s0,.fz (.int c0),.fz (pN n),.fz (pN m),.fz (pN shape),.ow (encN banes),.fz (pN j),s7,s8,s9] =
        ifK (QdN [1,6,2,3] 5 (bin2 pMod (Qk Qj (Qe (mVar 1) (Qe (bin2 pAdd (mN 20) (mVar 6)) aNil))) (bin2 pAdd (mVar 2) (mVar 3))) (mVar 6)) sNx [s0,.fz (.int c0),.fz (pN n),.fz (pN m),.fz (pN shape),.ow (encN banes),.fz (pN j),s7,s8,s9] (m==0||(shape==0&&draw11N c0 (30 + j) % 2==0)):=by
        unfold ZH
        walk_at "ev"
        rw [orK_b (b:=(shape==0&&draw11N c0 (30 + j) % 2==0)) (by walk_at "ev";rw [Qfq (b:=draw11N c0 (30 + j) % 2==0) (by walk_at "ev")])]
        walk_at "ev"
      cases hc:(m==0||(shape==0&&draw11N c0 (30 + j) % 2==0)) with
      | false =>
        rw [hc,ifK_f,ev_sNx] at e
        refine ⟨_,_,rfl,e,banes,_,rfl,h1,fun i x hx h=>h2 i x hx ?_⟩
        refine .inl (hs.resolve_left ?_)
        rintro ⟨rfl,rfl⟩
        simp at hc
      | true =>
        have hmod:=Nat.mod_lt (draw11N c0 (20 + j)) (show 0 < n + m by omega)
        rw [hc,ifK_t] at e
        refine ⟨_,_,rfl,e.trans ?_,banes.set j (draw11N c0 (20 + j) % (n + m)),.fz (pN j),rfl,by rw [List.length_set];exact h1,fun i x hx h => ?_⟩
        · walk_at "ev"
          rw [sixK_n (by rw [encN_len];omega) rfl]
          walk_at "ev"
        · by_cases hij:j=i
          · subst hij
            rw [List.getElem?_set_self (by omega)] at hx
            cases hx
            exact hmod
          · rw [List.getElem?_set_ne hij] at hx
            exact h2 i x hx (h.imp id fun h=>by omega))
  refine ⟨banes,s6,e,h1,fun x hx => ?_⟩
  obtain ⟨i,hi,rfl⟩:=List.mem_iff_getElem.mp hx
  exact h2 i _ (List.getElem?_eq_getElem hi) (.inr (by omega))
theorem bk10_t2 {n m shape:Nat} {banes:List Nat} (hn:n≤8) (hm:m≤30) (s0:Slot) (c:Int) (rules:List Rule) (s5 s6 s8 s9:Slot) (k1:∀ r∈rules,Yy n (n + m) r) (k2:rules.length≤40) :
    ∃ (rules':List Rule) (s8' s9':Slot),Yf [s0,.fz (.int c),.fz (pN n),.fz (pN m),.fz (pN shape),s5,s6,.ow (rules.map Rule.enc),s8,s9] =
      some (.nx [s0,.fz (.int c),.fz (pN n),.fz (pN m),.fz (pN shape),s5,s6,.ow (rules'.map Rule.enc),s8',s9'])∧(∀ r∈rules',Yy n (n + m) r)∧rules'.length≤40:=by
  unfold Yf
  walk_at "ev"
  rw [Qfq (b:=decide (rules.length < 10)) (by walk_at "ev")]
  walk_at "ev"
  cases hc:(decide (0 < m)&&decide (rules.length < 10)) with
  | false=>walk_at "ev";exact ⟨rules,_,_,rfl,k1,k2⟩
  | true =>
    rw [Bool.and_eq_true,decide_eq_true_iff,decide_eq_true_iff] at hc
    have hy:n≤n + draw11N c 2 % m∧n + draw11N c 2 % m < n + m:=by have:=Nat.mod_lt (draw11N c 2) hc.1;omega
    have hsz:draw11N c 1 % 3≤6:=by omega
    walk_at "ev"
    generalize draw11N c 1 % 3=size at *
    rw [compNN (fun k=>draw11N c (4 + k) % (n + m)) (List.range size) fun k hk=>⟨_,rfl,by
      have:=List.mem_range.mp hk
      walk_at "ev"⟩]
    walk_at "ev"
    rw [QiG (by rw [List.length_map,List.length_range];omega)]
    walk_at "ev"
    have hr:Yy n (n + m) ⟨n + draw11N c 2 % m,_⟩:=rule_of hy.1 hy.2 hsz (f:=fun k=>draw11N c (4 + k) % (n + m)) fun k=>by have:=Nat.mod_lt (draw11N c (4 + k)) (show 0 < n + m by omega);omega
    generalize asc ((List.range size).map fun k=>draw11N c (4 + k) % (n + m))=body at *
    obtain ⟨nb,enb⟩:=QiN ⟨n + draw11N c 2 % m,body⟩ rules
    rw [show PV.tup [pN (n + draw11N c 2 % m),PV.tup (encN body)]=(⟨n + draw11N c 2 % m,body⟩:Rule).enc from rfl,enb]
    walk_at "ev"
    cases nb with
    | false=>walk_at "ev";exact ⟨rules,_,_,rfl,k1,k2⟩
    | true =>
      walk_at "ev"
      rw [Xc (by rw [List.length_map];omega) rfl]
      walk_at "ev"
      exact ⟨rules++[⟨n + draw11N c 2 % m,body⟩],_,_,by rw [List.map_append];rfl,Qbg k1 hr (most:=0),by simp;omega⟩
theorem e_book10 (ns:List Int) (hn:ns.length≤63):∃ b:Bk,Zn [.lst (ns.map .int)]=some b.enc∧b.Ok∧b.words≤30:=by
  unfold Zn QaT
  walk_at "ev"
  have h8:draw11N (ns.getD 0 0) 0 % 5≤4:=by omega
  generalize draw11N (ns.getD 0 0) 0 % 5=n at *
  rw [ifK_set2 0 (n + 1 + draw11N (ns.getD 0 0) 1 % 4) 0 (draw11N (ns.getD 0 0) 2 % 3) (by walk_at "ev") (by walk_at "ev") rfl]
  obtain ⟨m,shape,hm,hs,e1,e2⟩:∃ m shape,m≤8∧((m=0∧shape=0)∨n + 1≤m)∧(if (draw11N (ns.getD 0 0) 3 % 8==4)=true then 0 else n + 1 + draw11N (ns.getD 0 0) 1 % 4)=m∧(if (draw11N (ns.getD 0 0) 3 % 8==4)=true then 0 else draw11N (ns.getD 0 0) 2 % 3)=shape:=by
    cases draw11N (ns.getD 0 0) 3 % 8==4 with
    | true=>exact ⟨0,0,by omega,.inl ⟨rfl,rfl⟩,rfl,rfl⟩
    | false=>exact ⟨n + 1 + draw11N (ns.getD 0 0) 1 % 4,draw11N (ns.getD 0 0) 2 % 3,by omega,.inr (by omega),rfl,rfl⟩
  rw [e1,e2]
  walk_at "ev"
  rw [compNN (fun k=>n + k) (List.range n) fun k hk=>⟨_,rfl,by walk_at "ev"⟩]
  walk_at "ev"
  obtain ⟨banes,s6,eb,hl,hb⟩:=bk10_t1 (shape:=shape) (ns.getD 0 0) (show n≤8 by omega) (show m≤30 by omega) hs (.fz (.lst (ns.map .int))) .un .un .un .un
  rw [eb]
  walk_at "ev"
  obtain ⟨rules0,er,q1,q2⟩:=e_first4 (shape:=shape) (n:=n) (m:=m) (z:=((n + m:Nat):Int) - 1) (by omega) (by rcases hs with h | h;exact .inl h.2;exact .inr h) rfl
  rw [show pSub (pN (n + m)) (pN 1)=some (.int (((n + m:Nat):Int) - 1)) from rfl]
  walk_at "ev"
  rw [er]
  have hkeep:ZD ((rules0.map Rule.enc).all flat) [4,2,2,3] [.fz (.lst (ns.map .int)),.fz (.int (ns.getD 0 0)),.fz (pN n),.fz (pN m),.fz (pN shape),.ow (encN banes),s6,.un,.un,.un]=[.fz (.lst (ns.map .int)),.fz (.int (ns.getD 0 0)),.fz (pN n),.fz (pN m),.fz (pN shape),.ow (encN banes),s6,.un,.un,.un]:=by
    cases (rules0.map Rule.enc).all flat <;> walk_at "ev"
  rw [Option.map_some,hkeep]
  walk_at "ev"
  have hlen:(cutP ns (some ((3:Nat):Int)) (some ((93:Nat):Int))).length≤63:=by
    rw [cutP_nn,List.length_drop,List.length_take]
    omega
  generalize cutP ns (some ((3:Nat):Int)) (some ((93:Nat):Int))=cells at *
  obtain ⟨γ',e,rules,s1,s8,s9,rfl,k1,k2⟩:=Ym (g:=gSet 1) (b:=Yf) PV.int
    (fun pre γ=>∃ (rules:List Rule) (s1 s8 s9:Slot),γ=[.fz (.lst (ns.map .int)),s1,.fz (pN n),.fz (pN m),.fz (pN shape),.ow (encN banes),s6,.ow (rules.map Rule.enc),s8,s9]∧(∀ r∈rules,Yy n (n + m) r)∧rules.length≤40)
    cells cells [] [.fz (.lst (ns.map .int)),.fz (.int (ns.getD 0 0)),.fz (pN n),.fz (pN m),.fz (pN shape),.ow (encN banes),s6,.ow (rules0.map Rule.enc),.un,.un] rfl ⟨rules0,_,.un,.un,rfl,q1,by omega⟩ (by
      rintro pre c post γ hpre ⟨rules,s1,s8,s9,rfl,k1,k2⟩
      obtain ⟨rules',s8',s9',e,q4,q5⟩:=bk10_t2 (shape:=shape) (banes:=banes) (show n≤8 by omega) (show m≤30 by omega) (.fz (.lst (ns.map .int))) c rules (.ow (encN banes)) s6 s8 s9 k1 k2
      exact ⟨_,_,rfl,e,rules',_,s8',s9',rfl,q4,q5⟩)
  rw [e]
  have ok:(⟨n + m,banes,rules⟩:Bk).Ok := .of (by omega) (by omega) (by omega) hb (by rw [hl];exact k1) k2
  walk_at "ev"
  exact ⟨⟨n + m,banes,rules⟩,rfl,ok,by show n + m≤30;omega⟩
end DH

noncomputable section
namespace DH
open PySem PySem.Spec PyProof.Rows L2 L2.PM
noncomputable def letZ (n:Nat):Str:=⟨#[97 + n]⟩
theorem QhG {i:Nat} (h1:i < 26):pIx (.str "abcdefghijklmnopqrstuvwxyz") (pN i)=some (.str (letZ i)):=by
  have key:∀ i:_root_.Fin 26,atI ("abcdefghijklmnopqrstuvwxyz":Str).cps.toList ((i:Nat):Int)=some (97 + (i:Nat)):=by decide +kernel
  have:=key ⟨i,h1⟩
  dsimp only at this
  show (if ("abcdefghijklmnopqrstuvwxyz":Str).length≤LIM then (atI ("abcdefghijklmnopqrstuvwxyz":Str).cps.toList (i:Int)).map (fun c=>PV.str ⟨#[c]⟩) else none)=_
  rw [if_pos (XI (by decide +kernel)),this]
  rfl
theorem QeF (n:Nat):(letZ n).length=1:=rfl
theorem Qka {n:Nat} (h:n < 26):PyData.strOk (letZ n)=true:=by
  unfold PyData.strOk letZ
  simp
  omega
noncomputable def Gd (s:Str):Prop:=s.length≤20∧PyData.strOk s=true
theorem QkJ (f:Nat→Nat) (l:List Nat):((l.map fun k=>letZ (f k)).map Str.length).sum=l.length:=by
  induction l with
  | nil=>rfl
  | cons x l ih=>simp only [List.map_cons,List.sum_cons,List.length_cons,ih,QeF];omega
local macro_rules | `(tactic| walk_at "ev") => `(tactic| try simp (disch:=first | assumption | omega | (simp only [encN_len,tr_len,encN_len,List.length_map,List.length_range,List.length_cons,List.length_nil,List.length_append];omega) | decide) only [encN_len,encN_flat,enc_ix0,enc_ix1,enc_ix2,renc_ix0,renc_ix1,flat_benc,flat_renc,tr_get,tr_flat,tr_set,e_draw11,e_draw11_n,e_cell,pNe_nil',pAdd_ni,pAdd_in,EVc,List.length_cons,List.length_nil,if_true,List.map_cons,List.map_nil,List.replicate_zero,List.replicate_succ,List.cons_append,List.nil_append,List.getElem?_cons_zero,List.getElem?_cons_succ,Option.bind_some,Option.map_some,List.set_cons_zero,List.set_cons_succ,List.length_map,List.length_range,List.all_nil,List.all_cons,List.length_append])
theorem QfN (c:Int) {size:Nat} (h:size≤12):∃ s:Str,QY [.int c,pN size]=some (.str s)∧s.length≤size∧PyData.strOk s=true:=by
  unfold QY QaP
  walk_at "ev"
  rw [Qfo (fun k=>PV.str (letZ (draw11N c (3 + k) % 26))) (List.range size) fun k hk=>⟨_,rfl,by
    have:=List.mem_range.mp hk
    walk_at "ev"
    rw [QhG (by omega)]⟩]
  rw [show (List.range size).map (fun k=>PV.str (letZ (draw11N c (3 + k) % 26)))=((List.range size).map fun k=>letZ (draw11N c (3 + k) % 26)).map PV.str by rw [List.map_map];rfl]
  have hl:=QkJ (fun k=>draw11N c (3 + k) % 26) (List.range size)
  rw [List.length_range] at hl
  walk_at "ev"
  rw [Qgw (by rw [hl,show ("":Str).length=0 from rfl];exact XI (by omega))]
  walk_at "ev"
  refine ⟨_,rfl,by rw [Qcm,hl,show ("":Str).length=0 from rfl];omega,Qex _ QhM _ fun s hs => ?_⟩
  obtain ⟨k,_,rfl⟩:=List.mem_map.mp hs
  exact Qka (by omega)
theorem step_ix {i:Nat} (h:i < 6):∃ s,([pN 1,pN 3,pN 5,pN 7,pN 9,pN 11]:List PV)[i]?=some (pN s):=by
  match i,h with
  | 0,_=>exact ⟨1,rfl⟩
  | 1,_=>exact ⟨3,rfl⟩
  | 2,_=>exact ⟨5,rfl⟩
  | 3,_=>exact ⟨7,rfl⟩
  | 4,_=>exact ⟨9,rfl⟩
  | 5,_=>exact ⟨11,rfl⟩
theorem name_t {c:Int} {front back:Str} {st words j n:Nat} {acc:List Str} {s9:Slot} (hf:front.length≤5∧PyData.strOk front=true) (hb:back.length≤6∧PyData.strOk back=true) (hj:j < 30) (hl:acc.length=j) (hg:∀ s∈acc,Gd s) :
    ∃ (name:Str) (s9':Slot),Yg [.fz (.int c),.fz (pN words),.fz (pN n),.fz (.str "abcdefghijklmnopqrstuvwxyz"),.fz (.str front),.fz (.str back),.fz (pN st),.ow (acc.map .str),.fz (pN j),s9] =
      some (.nx [.fz (.int c),.fz (pN words),.fz (pN n),.fz (.str "abcdefghijklmnopqrstuvwxyz"),.fz (.str front),.fz (.str back),.fz (pN st),.ow ((acc++[name]).map .str),.fz (pN j),s9'])∧Gd name:=by
  have fin:∀ name:Str,name.length≤12→PyData.strOk name=true→∃ (name':Str) (s9':Slot),(sSeq (sIf (truB (bin2 pIn (mVar 9) (mLst (mLim (Qe (mC (.str "guess")) (Qe (mC (.str "unless")) (Qe (mC (.str "if")) aNil))))))) (sSet [9] 9 (bin2 pAdd (mVar 9) (mC (.str "q")))) sNx)
      (sApp [9] 7 (mVar 9))) [.fz (.int c),.fz (pN words),.fz (pN n),.fz (.str "abcdefghijklmnopqrstuvwxyz"),.fz (.str front),.fz (.str back),.fz (pN st),.ow (acc.map .str),.fz (pN j),.fz (.str name)] =
      some (.nx [.fz (.int c),.fz (pN words),.fz (pN n),.fz (.str "abcdefghijklmnopqrstuvwxyz"),.fz (.str front),.fz (.str back),.fz (pN st),.ow ((acc++[name']).map .str),.fz (pN j),s9'])∧Gd name':=by
    intro name h1 h2
    have e3:pIn (.str name) (.lst [.str "guess",.str "unless",.str "if"])=some (.bl ((["guess","unless","if"]:List Str).any (·==name))):=pIn_sl (ss:=["guess","unless","if"]) h2 (by decide +kernel)
    walk_at "ev"
    rw [e3]
    walk_at "ev"
    cases (["guess","unless","if"]:List Str).any (·==name)
    · walk_at "ev"
      rw [Xc (by rw [List.length_map];omega) rfl]
      walk_at "ev"
      exact ⟨name,.fz (.str name),by simp,by omega,h2⟩
    · have hq:=YE name "q"
      have hq1:("q":Str).length=1:=rfl
      rw [hq1] at hq
      walk_at "ev"
      rw [Xc (by rw [List.length_map];omega) rfl]
      walk_at "ev"
      exact ⟨name ++ "q",.fz (.str (name ++ "q")),by simp,by omega,Qaj h2 (by decide +kernel)⟩
  unfold Yg
  rw [ev_sSeq]
  generalize hk:seqK _=k
  walk_at "ev"
  have hi:((c + ((st * j:Nat):Int)) % ((26:Nat):Int)).toNat < 26:=by omega
  generalize ((c + ((st * j:Nat):Int)) % ((26:Nat):Int)).toNat=i at *
  rw [QhG hi]
  have l1:=YE front (letZ i)
  have l2:=YE (front++letZ i) back
  rw [l1,QeF] at l2
  have o2:PyData.strOk (front++letZ i++back)=true:=Qaj (Qaj hf.2 (Qka hi)) hb.2
  have hl0:=QeF i
  walk_at "ev"
  generalize front++letZ i++back=name at *
  subst hk
  rw [seqK_nx]
  rw [ev_sSeq]
  generalize hk:seqK _=k
  walk_at "ev"
  cases (((c / ((2:Nat):Int)) % ((2:Nat):Int)).toNat==0) with
  | false =>
    walk_at "ev"
    subst hk
    rw [seqK_nx]
    exact fin name (by omega) o2
  | true =>
    have hd:draw11N c (40 + j) % (back.length + 1) < back.length + 1:=Nat.mod_lt _ (by omega)
    walk_at "ev"
    generalize draw11N c (40 + j) % (back.length + 1)=d at *
    have l3:=Qkt name none (some ((name.length - d:Nat):Int))
    have o3:=slice_ok o2 none (some ((name.length - d:Nat):Int))
    walk_at "ev"
    subst hk
    rw [seqK_nx]
    exact fin _ (by omega) o3
theorem Qia (c:Int) {words n:Nat} (hw:words≤30):∃ ss:List Str,QX [.int c,pN words,pN n]=some (.tup (ss.map .str))∧ss.length=words∧∀ s∈ss,Gd s:=by
  unfold QX QaO
  walk_at "ev"
  obtain ⟨front,ef,f1,f2⟩:=QfN c (size:=draw11N c 0 % 6) (by omega)
  rw [ef]
  walk_at "ev"
  obtain ⟨back,eb,b1,b2⟩:=QfN (c / ((3:Nat):Int)) (size:=draw11N c 1 % 7) (by omega)
  rw [eb]
  walk_at "ev"
  obtain ⟨st,est⟩:=step_ix (i:=draw11N c 2 % 6) (by omega)
  rw [est]
  walk_at "ev"
  obtain ⟨γ',e,acc,s8,s9,rfl,h1,h2⟩:=QjD (g:=gSet 8) (b:=Yg) (fun j γ=>∃ (acc:List Str) (s8 s9:Slot),γ=[.fz (.int c),.fz (pN words),.fz (pN n),.fz (.str "abcdefghijklmnopqrstuvwxyz"),.fz (.str front),.fz (.str back),.fz (pN st),.ow (acc.map .str),s8,s9]∧acc.length=j∧∀ s∈acc,Gd s)
    words [.fz (.int c),.fz (pN words),.fz (pN n),.fz (.str "abcdefghijklmnopqrstuvwxyz"),.fz (.str front),.fz (.str back),.fz (pN st),.ow ([].map PV.str),.un,.un] ⟨[],.un,.un,rfl,rfl,by simp⟩ (by
      rintro j γ hj ⟨acc,s8,s9,rfl,h1,h2⟩
      obtain ⟨name,s9',e,hg⟩:=name_t (c:=c) (front:=front) (back:=back) (st:=st) (words:=words) (n:=n) (s9:=s9) ⟨by omega,f2⟩ ⟨by omega,b2⟩ (show j < 30 by omega) h1 h2
      refine ⟨_,_,rfl,e,acc++[name],_,s9',rfl,by simp [h1],fun s hs => ?_⟩
      rcases List.mem_append.mp hs with h | h
      · exact h2 s h
      · rw [List.mem_singleton.mp h];exact hg)
  rw [show ([]:List PV)=([]:List Str).map PV.str from rfl,e]
  walk_at "ev"
  rw [cutP_0n,cutP_n0,QjU (by rw [List.length_take];omega)]
  walk_at "ev"
  rw [QjU (by rw [List.length_drop];omega)]
  have l1:=Qfv (acc.take n)
  have l2:=Qfv (acc.drop n)
  rw [List.length_take] at l1
  rw [List.length_drop] at l2
  walk_at "ev"
  refine ⟨QcZ (acc.take n)++QcZ (acc.drop n),by rw [List.map_append],by rw [List.length_append];omega,fun s hs => ?_⟩
  rcases List.mem_append.mp hs with h | h
  · exact h2 s (List.mem_of_mem_take ((Qas _).mem_iff.mp h))
  · exact h2 s (List.mem_of_mem_drop ((Qas _).mem_iff.mp h))
end DH

noncomputable section
namespace DH
open PySem PySem.Spec PyProof.Rows L2 L2.PM
noncomputable def nmZ (ss:List Str) (k:Nat):Str:=ss.getD k ""
theorem nmZ_get {ss:List Str} {k:Nat} (h:k < ss.length):(ss.map PV.str)[k]?=some (.str (nmZ ss k)):=by simp [nmZ,h]
theorem QjY {ss:List Str} {k:Nat} (h:k < ss.length):nmZ ss k∈ss:=by simp [nmZ,h]
noncomputable def jnZ (ss:List Str) (row:List Nat):Str:=Txt.join " " (row.map (nmZ ss))
noncomputable def shS (ss:List Str) (m:Nat):Str:=("{":Str)++jnZ ss (plN m)++("}":Str)
theorem QbV {m n:Nat} (h:m < 2 ^ n):∀ k∈plN m,k < n:=fun k hk=>Nat.lt_of_not_le fun q=>by
  have z:=QcT.mp hk
  rw [Nat.testBit_lt_two_pow (Nat.lt_of_lt_of_le h (Nat.pow_le_pow_right (by decide) q))] at z
  cases z
theorem Qin {m n:Nat} (h:m < 2 ^ n):((List.range n).filter fun k=>m.testBit k)=plN m:=by
  refine asc_eq (List.Pairwise.filter _ List.pairwise_lt_range) (plN_asc m) fun k => ?_
  rw [List.mem_filter,QcT,List.mem_range]
  exact ⟨fun z=>z.2,fun z=>⟨QbV h k (QcT.mpr z),z⟩⟩
theorem QeB {m n:Nat} (h:m < 2 ^ n):(plN m).length≤n:=by
  rw [← Qin h]
  have:=List.length_filter_le (fun k=>m.testBit k) (List.range n)
  rwa [List.length_range] at this
theorem Qgz {ss:List Str} {row:List Nat} (hg:∀ s∈ss,Gd s) (hr:∀ k∈row,k < ss.length):((row.map (nmZ ss)).map Str.length).sum≤row.length * 20:=by
  have:=sum_len (row.map (nmZ ss)) 20 fun s hs=>by
    obtain ⟨k,hk,rfl⟩:=List.mem_map.mp hs
    exact (hg _ (QjY (hr k hk))).1
  rwa [List.length_map] at this
theorem QgA {ss:List Str} {row:List Nat} (hg:∀ s∈ss,Gd s) (hr:∀ k∈row,k < ss.length):(jnZ ss row).length≤row.length * 21:=by
  unfold jnZ
  rw [Qcm]
  have:=Qgz hg hr
  simp only [List.length_map,show (" ":Str).length=1 from rfl] at *
  omega
theorem QaF {ss:List Str} {m:Nat} (hl:ss.length≤30) (hg:∀ s∈ss,Gd s) (hm:m < 2 ^ ss.length):(shS ss m).length≤700:=by
  unfold shS
  have h1:=QgA hg (QbV hm)
  have h2:=QeB hm
  rw [YE,YE,show ("{":Str).length=1 from rfl,show ("}":Str).length=1 from rfl]
  omega
theorem QgJ {ss:List Str} {m:Nat} (hg:∀ s∈ss,Gd s) (hm:m < 2 ^ ss.length):PyData.strOk (shS ss m)=true:=by
  unfold shS jnZ
  refine Qaj (Qaj (by decide +kernel) (Qex _ (by decide +kernel) _ fun s hs => ?_)) (by decide +kernel)
  obtain ⟨k,hk,rfl⟩:=List.mem_map.mp hs
  exact (hg _ (QjY (QbV hm k hk))).2
local macro_rules | `(tactic| walk_at "ev") => `(tactic| try simp (disch:=first | assumption | omega | (simp only [encN_len,tr_len,encN_len,List.length_map,List.length_range,List.length_cons,List.length_nil,List.length_append];omega) | decide) only [encN_len,encN_flat,enc_ix0,enc_ix1,enc_ix2,renc_ix0,renc_ix1,flat_benc,flat_renc,tr_get,tr_flat,tr_set,e_draw11,e_draw11_n,e_cell,pNe_nil',pAdd_ni,pAdd_in,nmZ_get,testBit_one,EVc,List.length_cons,List.length_nil,if_true,List.map_cons,List.map_nil,List.replicate_zero,List.replicate_succ,List.cons_append,List.nil_append,List.getElem?_cons_zero,List.getElem?_cons_succ,Option.bind_some,Option.map_some,List.set_cons_zero,List.set_cons_succ,List.length_map,List.length_range,List.all_nil,List.all_cons,List.length_append])
theorem QcI {ss:List Str} {m:Nat} (hl:ss.length≤30) (hg:∀ s∈ss,Gd s) (hm:m < 2 ^ ss.length):QL [.tup (ss.map .str),pN m]=some (.str (shS ss m)):=by
  have h0:=QeB hm
  unfold QL Qdy
  walk_at "ev"
  rw [QfM (show ss.length≤60 by omega) hm]
  walk_at "ev"
  rw [Qfo (fun k=>PV.str (nmZ ss k)) (plN m) fun k hk=>⟨_,rfl,by have:=QbV hm k hk;walk_at "ev"⟩]
  rw [show (plN m).map (fun (k:Nat)=>PV.str (nmZ ss k))=((plN m).map (nmZ ss)).map PV.str by rw [List.map_map];rfl]
  have h1:=QgA hg (QbV hm)
  have h2:=YE ("{":Str) (jnZ ss (plN m))
  have h3:("{":Str).length=1:=rfl
  have h4:("}":Str).length=1:=rfl
  have h5:=Qgz hg (QbV hm)
  walk_at "ev"
  rw [Qgw (by
    simp only [List.length_map,show (" ":Str).length=1 from rfl] at *
    exact XI (by omega))]
  unfold shS jnZ at *
  walk_at "ev"
theorem QdU {ss:List Str} {m:Nat} (hl:ss.length≤30) (hg:∀ s∈ss,Gd s) (hm:m < 2 ^ ss.length):QE [.tup (ss.map .str),pN m]=some (.str (shS ss m)):=by
  unfold QE Qcs
  walk_at "ev"
  rw [show encN (List.range ss.length)=(List.range ss.length).map pN from rfl,XZ pN (fun k=>m.testBit k) (fun k=>PV.str (nmZ ss k)) (List.range ss.length) fun k hk=>⟨_,rfl,by walk_at "ev",fun _=>by have:=List.mem_range.mp hk;walk_at "ev"⟩]
  rw [Qin hm]
  rw [show (plN m).map (fun (k:Nat)=>PV.str (nmZ ss k))=((plN m).map (nmZ ss)).map PV.str by rw [List.map_map];rfl]
  have h0:=QeB hm
  have h1:=QgA hg (QbV hm)
  have h2:=YE ("{":Str) (jnZ ss (plN m))
  have h3:("{":Str).length=1:=rfl
  have h4:("}":Str).length=1:=rfl
  have h5:=Qgz hg (QbV hm)
  walk_at "ev"
  rw [Qgw (by
    simp only [List.length_map,show (" ":Str).length=1 from rfl] at *
    exact XI (by omega))]
  unfold shS jnZ at *
  walk_at "ev"
end DH

noncomputable section
namespace DH
open PySem PySem.Spec PyProof.Rows L2 L2.PM
noncomputable def shP (ss:List Str) (x:Nat×Nat):Str:=shS ss x.1++(" ":Str)++shS ss x.2
theorem shP_ok {ss:List Str} {x:Nat×Nat} (hg:∀ s∈ss,Gd s) (h1:x.1 < 2 ^ ss.length) (h2:x.2 < 2 ^ ss.length):PyData.strOk (shP ss x)=true:=Qaj (Qaj (QgJ hg h1) (by decide +kernel)) (QgJ hg h2)
noncomputable def Qdb (x:Nat×Nat):PV := .tup [pN x.1,pN x.2]
local macro_rules | `(tactic| walk_at "ev") => `(tactic| try simp (disch:=first | assumption | omega | (simp only [encN_len,tr_len,encN_len,List.length_map,List.length_range,List.length_cons,List.length_nil,List.length_append];omega) | decide) only [encN_len,encN_flat,enc_ix0,enc_ix1,enc_ix2,renc_ix0,renc_ix1,flat_benc,flat_renc,tr_get,tr_flat,tr_set,e_cell,pNe_nil',pAdd_ni,pAdd_in,ev_mIsiS,ev_mFldS,runO_2',outO_ro',EVc,List.length_cons,List.length_nil,if_true,List.map_cons,List.map_nil,List.replicate_zero,List.replicate_succ,List.cons_append,List.nil_append,List.getElem?_cons_zero,List.getElem?_cons_succ,Option.bind_some,Option.map_some,List.set_cons_zero,List.set_cons_succ,List.length_map,List.length_range,List.all_nil,List.all_cons,List.length_append])
theorem Qkg {ss:List Str} {c U:Nat} (hl:ss.length≤30) (hg:∀ s∈ss,Gd s) (h1:c < 2 ^ ss.length) (h2:U < 2 ^ ss.length):Ze [.tup (ss.map .str),pN c,pN U]=some (.str (shP ss (c,U))):=by
  have a:=QaF hl hg h1
  have b:=QaF hl hg h2
  have l1:=YE (shS ss c) " "
  have l2:(" ":Str).length=1:=rfl
  unfold Ze Qcq
  walk_at "ev"
  rw [QcI hl hg h1]
  walk_at "ev"
  rw [QcI hl hg h2]
  walk_at "ev"
  rfl
structure Shows (C:Nat→Addr) (lot:PV) (ss:List Str) (rows:List Str):Prop where
  due:QV C [lot,.tup (ss.map .str)]=some (.lst (rows.map .str))
  own:∃ g,Qjr [(C 1,(QC C)),(C 2,(Zf C)),(C 3,(QU C)),(C 4,(Zy C))] "shown" lot=some g∧g [lot,.tup (ss.map .str)]=some (rows.map .str)
  ne:rows≠[]
  ok:∀ r∈rows,PyData.strOk r=true
  len:rows.length≤300
theorem QcH {tab:List (Addr×(List PV→Option (List PV)))} {f:Str} {D:Addr} {ks:List Str} {ps:List PV} {g:List PV→Option (List PV)} (hk:ks.contains f=false) (hl:tab.lookup D=some g):Qjr tab f (.obj D ks ps)=some g:=by
  show (if ks.contains f=false then tab.lookup D else none)=_
  rw [if_pos hk,hl]
theorem QiE (C:Nat→Addr) (h4:Four C) {ss:List Str} {w U:Nat} (hl:ss.length≤30) (hg:∀ s∈ss,Gd s) (hU:U < 2 ^ ss.length):∃ rows,Shows C (Qbr C w U) ss rows:=by
  have a:=QaF hl hg hU
  have hb:("settled ":Str).length=8:=rfl
  have hb7:("settled":Str).length=7:=rfl
  have hs1:(" ":Str).length=1:=rfl
  have l1:=YE "settled" " "
  refine ⟨[("settled ":Str)++shS ss U],?_,⟨QC C,QcH (by decide +kernel) (by simp),?_⟩,by simp,?_,by simp⟩
  · unfold QV Yx Qbr
    walk_at "ev"
    rw [isi_1 h4]
    walk_at "ev"
    rw [YS C (by simp) (s:=pN U) rfl]
    walk_at "ev"
    rw [QdU hl hg hU]
    walk_at "ev"
  · unfold QC Qap Qbr
    walk_at "ev"
    rw [YS C (by simp) (s := .str "settled") rfl]
    walk_at "ev"
    rw [YS C (by simp) (s:=pN U) rfl]
    walk_at "ev"
    rw [QcI hl hg hU]
    walk_at "ev"
    rw [show ("settled":Str)++(" ":Str)=("settled ":Str) by decide +kernel]
  · intro r hr
    rw [List.mem_singleton.mp hr]
    exact Qaj (by decide +kernel) (QgJ hg hU)
theorem sh_never (C:Nat→Addr) (h4:Four C) {ss:List Str} {w:Nat}:∃ rows,Shows C (QgO C w) ss rows:=by
  have q:=QbO h4
  refine ⟨[("never":Str)],?_,⟨Zy C,QcH (by decide +kernel) (by simp [List.lookup_cons,q]),?_⟩,by simp,?_,by simp⟩
  · unfold QV Yx QgO
    walk_at "ev"
    rw [Qlw h4]
    walk_at "ev"
    rw [Qlw h4]
    walk_at "ev"
    rw [Qlw h4]
    walk_at "ev"
    rw [Qlw h4]
    walk_at "ev"
  · unfold Zy Qdz QgO
    walk_at "ev"
    rw [YS C (by simp) (s := .str "never") rfl]
    walk_at "ev"
  · intro r hr
    rw [List.mem_singleton.mp hr]
    decide +kernel
theorem sh_maybe (C:Nat→Addr) (h4:Four C) {ss:List Str} {w c U d:Nat} (hl:ss.length≤30) (hg:∀ s∈ss,Gd s) (hc:c < 2 ^ ss.length) (hU:U < 2 ^ ss.length) (hd:d < 2 ^ ss.length):∃ rows,Shows C (Qfk C w c U d) ss rows:=by
  have q:=QbO h4
  have a:=QaF hl hg hU
  have a2:=QaF hl hg hc
  have l1:=YE (shS ss c) " "
  have l2:(" ":Str).length=1:=rfl
  refine ⟨[("maybe":Str),shP ss (c,U),shS ss d],?_,⟨QU C,QcH (by decide +kernel) (by simp [List.lookup_cons,q]),?_⟩,by simp,?_,by simp⟩
  · unfold QV Yx Qfk
    walk_at "ev"
    rw [isi_3 h4]
    walk_at "ev"
    rw [isi_3 h4]
    walk_at "ev"
    rw [isi_3 h4]
    walk_at "ev"
    rw [YS C (by simp) (s:=pN c) rfl]
    walk_at "ev"
    rw [QdU hl hg hc]
    walk_at "ev"
    rw [YS C (by simp) (s:=pN U) rfl]
    walk_at "ev"
    rw [QdU hl hg hU]
    walk_at "ev"
    rw [YS C (by simp) (s:=pN d) rfl]
    walk_at "ev"
    rw [QdU hl hg hd]
    walk_at "ev"
    rfl
  · unfold QU QbD Qfk
    walk_at "ev"
    rw [YS C (by simp) (s := .str "maybe") rfl]
    walk_at "ev"
    rw [YS C (by simp) (s:=pN c) rfl]
    walk_at "ev"
    rw [YS C (by simp) (s:=pN U) rfl]
    walk_at "ev"
    rw [Qkg hl hg hc hU]
    walk_at "ev"
    rw [YS C (by simp) (s:=pN d) rfl]
    walk_at "ev"
    rw [QcI hl hg hd]
    walk_at "ev"
  · intro r hr
    rcases List.mem_cons.mp hr with rfl | hr
    · decide +kernel
    · rcases List.mem_cons.mp hr with rfl | hr
      · exact shP_ok hg hc hU
      · rw [List.mem_singleton.mp hr];exact QgJ hg hd
theorem sh_sure (C:Nat→Addr) (h4:Four C) {ss:List Str} {w:Nat} {ps:List (Nat×Nat)} (hl:ss.length≤30) (hg:∀ s∈ss,Gd s) (hp:∀ x∈ps,x.1 < 2 ^ ss.length∧x.2 < 2 ^ ss.length) (hn:ps.length≤256):∃ rows,Shows C (Qls C w (ps.map Qdb)) ss rows:=by
  have q:=QbO h4
  refine ⟨("sure":Str) :: ps.map (shP ss),?_,⟨Zf C,QcH (by decide +kernel) (by simp [List.lookup_cons,q]),?_⟩,by simp,?_,by simp;omega⟩
  · unfold QV Yx Qls
    walk_at "ev"
    rw [isi_2 h4]
    walk_at "ev"
    rw [isi_2 h4]
    walk_at "ev"
    rw [YS C (by simp) (s := .tup (ps.map Qdb)) rfl]
    walk_at "ev"
    obtain ⟨γ',e,s3,s4,rfl⟩:=Ym (g:=Qbj 3 4) (b:=XD C) Qdb
      (fun pre γ=>∃ s3 s4,γ=[.fz (.obj (C 2) ["word","name","pairs"] [pN w,.str "sure",.tup (ps.map Qdb)]),.fz (.tup (ss.map .str)),.ow ((("sure":Str) :: pre.map (shP ss)).map .str),s3,s4,.un])
      ps ps [] [.fz (.obj (C 2) ["word","name","pairs"] [pN w,.str "sure",.tup (ps.map Qdb)]),.fz (.tup (ss.map .str)),.ow [.str "sure"],.un,.un,.un] rfl ⟨.un,.un,rfl⟩ (by
        rintro pre x post γ hpre ⟨s3,s4,rfl⟩
        have hx:=hp x (by rw [← hpre];simp)
        have hpl:pre.length < 256:=by
          have:=congrArg List.length hpre
          simp at this
          omega
        obtain ⟨c,U⟩:=x
        have hc:c < 2 ^ ss.length:=hx.1
        have hU:U < 2 ^ ss.length:=hx.2
        have a:=QaF hl hg hc
        have a2:=QaF hl hg hU
        have l1:=YE (shS ss c) " "
        have l2:(" ":Str).length=1:=rfl
        refine ⟨_,_,rfl,?_,.fz (pN c),.fz (pN U),rfl⟩
        unfold XD
        walk_at "ev"
        rw [QdU hl hg hc]
        walk_at "ev"
        rw [QdU hl hg hU]
        walk_at "ev"
        rw [Xc (by simp;omega) rfl]
        walk_at "ev"
        simp [shP])
    rw [e]
    walk_at "ev"
  · unfold Zf Qct Qls
    walk_at "ev"
    rw [YS C (by simp) (s := .str "sure") rfl]
    walk_at "ev"
    rw [YS C (by simp) (s := .tup (ps.map Qdb)) rfl]
    walk_at "ev"
    rw [Qaa Qdb (fun x=>PV.str (shP ss x)) ps fun x hx=>⟨_,rfl,by
      obtain ⟨c,U⟩:=x
      walk_at "ev"
      rw [Qkg hl hg (hp _ hx).1 (hp _ hx).2]⟩]
    walk_at "ev"
    rw [List.map_map]
    rfl
  · intro r hr
    rcases List.mem_cons.mp hr with rfl | hr
    · decide +kernel
    · obtain ⟨x,hx,rfl⟩:=List.mem_map.mp hr
      exact shP_ok hg (hp x hx).1 (hp x hx).2
end DH

noncomputable section
namespace HD
open PySem PySem.W PySem.Calls PyProof.Rows L2
noncomputable abbrev fo (x q:Str) (st:Stmt) (dV doc pm:Value) (c:Addr):Obj:=⟨.type "function",none,.func (fnOf x q (Qp st) (Ql st) (Qc st) dV .none doc pm none (.ref c) .none),#[]⟩
noncomputable abbrev co (x q:Str) (t:Nat) (l n:Int) (a b:Addr) (u v:Value) (c:Addr) (z:Nat):Obj:=⟨.type "code",none,.fields #[.str x t,.str q (t + 1),.str "/claim/cut.py" (t + 2),.int l 0,.int n 0,.int 0 0,.int 0 0,.int 3 0,.ref a,.bool true,.int 181 0,.ref b,.none,u,v,.ref c,.int z 0,.int l 0,.str "/claim/cut.py" (z + 1)],#[]⟩
noncomputable abbrev en (P:Params) (x:Str) (t:Nat) (v:Value):DictEntry:=⟨PyData.keyHash P x,.str x t,v⟩
noncomputable def run (thr ok:Thread→Bool) (st:SharedT→Thread→Option (SharedT×Thread)):Nat→SharedT→Thread→Option SharedT
  | 0,_,_=>none
  | n + 1,s,t=>match thr t with
    | true=>some s
    | false=>match ok t with
      | false=>none
      | true=>match st s t with
        | some x=>run thr ok st n x.1 x.2
        | none=>none
theorem run_top {tb:String→Option Builtin} {p:Program} {w:World} {m:Nat} {an:Option Value}:∀ (n:Nat) (s r:SharedT) (t:Thread),
    run through (stepOk m an) (stepT (denote tb) p w) n s t=some r→topRun tb p w m an n s.abs t=some r.abs:=by
  intro n
  induction n with
  | zero=>intro s r t h;cases h
  | succ n ih =>
    intro s r t h
    simp only [run] at h
    simp only [topRun]
    split at h
    · next e=>cases h;rw [e]
    · next e =>
      rw [e]
      split at h
      · cases h
      · next e2 =>
        rw [e2]
        split at h
        · next x e3=>rw [stepT_spec (s':=x.1) (t':=x.2) e3];exact ih _ _ _ h
        · cases h
noncomputable def tree (l:List Obj):BT:=(l.foldl (fun x o=>(x.1.ins x.2 o,x.2 + 1)) (BT.nil,0)).1
noncomputable def st0 (w:World) (os:OsState):SharedT:=⟨tree (boot_heap w.params).objs.toList,11,(boot_heap w.params).life,Array.mk [],boot_drawn,boot_toks,os⟩
theorem st0_abs (w:World) (os:OsState):(st0 w os).abs=⟨boot_heap w.params,Array.mk [],boot_drawn,boot_toks,os⟩:=by
  have h:∀ P:Params,absHeap (tree (boot_heap P).objs.toList) 11 (boot_heap P).life=boot_heap P:=fun P=>by kernel_rfl
  show Shared.mk (absHeap (tree (boot_heap w.params).objs.toList) 11 (boot_heap w.params).life) _ _ _ _=_
  rw [h]
  rfl
noncomputable def only (p:Program) (st:Stmt):Program:={ p with main:={ p.main with body:=[st] } }
noncomputable def defPos (s:Stmt):Pos:=match s with
  | .FunctionDef _ _ _ _ _ _ _ _ _ c=>c
  | _=>⟨0,0,0,0⟩
noncomputable def QdO (p:Program):List Str:=(p.main.scope.names.map (·.1)).filter fun n => !(n==("law":Str))
noncomputable def sees (p:Program) (P:Params) (h:Heap) (s:Shared):Bool :=
  staticsOk (importedModules p.main.body) (boot_heap P) h&&namesBound p h&&gensDone s&&laidKept (boot_heap P) h
noncomputable def end_ (p q:Program) (as:List Addr) (w:World) (os:OsState) (N:Nat) :=
  (run through (Fast.tw6613529449190102663 11 (some (.ref 6))) (Fast.tw10156331382660048174 (Fast.tw11892475500146522536 Fast.tw14364793385576792824) p w) N (st0 w os) (topStub p)).map fun s =>
    (sees p w.params s.abs.heap s.abs,Fast.tw4187177175401517315 q (QdO p) (importedModules p.main.body) (fun _=>true) true s.abs,as.map s.abs.heap.get?)
theorem left {p q:Program} {K:Params→Frag} {as:List Addr} {N:Nat} (e:opening p=plainProg p.main.scope.names) (f:∀ s,fenceModules? p s=some s) (hN:Nat.ble 600 N=true)
    (one:∀ (w:World) (os:OsState),end_ p q as w os N=some (true,openGood q (QdO p),(K w.params).map fun x=>some x.2)) :
    LeftO p q (QdO p) (fun _=>true) (fun s=>as.map s.heap.get?) (fun w=>(K w.params).map fun x=>some x.2) N:=by
  intro w
  have o:=boot_open (p:=p) (N:=N) e hN f w
  match hf:fencedOpening treeTable p w N with
  | none=>rw [hf] at o;cases o
  | some ⟨h,gs,d,k,os⟩ =>
    rw [hf] at o
    have o2:=Option.some.inj o
    have c1:h=boot_heap w.params:=congrArg Prod.fst o2
    have c2:gs=Array.mk []:=congrArg (fun x=>x.2.1) o2
    have c3:d=boot_drawn:=congrArg (fun x=>x.2.2.1) o2
    have c4:k=boot_toks:=congrArg (fun x=>x.2.2.2) o2
    have r:=one w os
    unfold end_ at r
    rw [← Fast.te6613529449190102663,← Fast.te10156331382660048174,← Fast.te11892475500146522536,← Fast.te14364793385576792824,← Fast.te4187177175401517315] at r
    match hr:run through (stepOk 11 (some (.ref 6))) (stepT (denote treeTable) p w) N (st0 w os) (topStub p) with
    | none=>rw [hr] at r;cases r
    | some s =>
      rw [hr] at r
      have r2:=Option.some.inj r
      have l1:=congrArg Prod.fst r2
      have l2:=congrArg (fun x=>x.2.1) r2
      have l3:=congrArg (fun x=>x.2.2) r2
      have t:=run_top N _ _ _ hr
      rw [st0_abs] at t
      subst c1 c2 c3 c4
      have z:(boot_heap w.params).isNs mainGlobals=true∧(boot_heap w.params).objs.size=11∧(boot_heap w.params).nsMap mainGlobals "__annotations__"=some (.ref 6):=⟨by kernel_rfl,by kernel_rfl,by kernel_rfl⟩
      have u:topFrom treeTable p w N ⟨boot_heap w.params,Array.mk [],boot_drawn,boot_toks,os⟩=some s.abs:=by
        simp only [topFrom,z.1,z.2.1,z.2.2,t]
        have l1':(staticsOk (importedModules p.main.body) (boot_heap w.params) s.abs.heap&&namesBound p s.abs.heap&&gensDone s.abs&&laidKept (boot_heap w.params) s.abs.heap)=true:=l1
        simp only [Option.bind_some,l1']
        rfl
      have v:openEnds treeTable p w N=some s.abs:=by
        unfold openEnds
        rw [hf]
        exact u
      rw [v]
      exact congrArg some (Prod.ext l2 l3)
theorem opens {l:OpenLaw} {K:Params→Frag} {as:List Addr} {st:Stmt} {N:Nat} (ws:Fast.tw9446332074065402090 l=true) (e:opening l.prog=plainProg l.prog.main.scope.names) (f:∀ s,fenceModules? l.prog s=some s) (hN:Nat.ble 600 N=true)
    (one:∀ (w:World) (os:OsState),end_ l.prog (only l.prog st) as w os N=some (true,openGood (only l.prog st) (QdO l.prog),(K w.params).map fun x=>some x.2)) (ha:∀ P,as=(K P).map (·.1))
    (hd:defOf (only l.prog st) l.name=some (⟨l.name,Qp st,Ql st,Qc st,defPos st⟩,[])) (hp:l.prog.theDef l.name=some (Qp st,Ql st,Qc st)) (hk:kwWritten? (Qp st).kwonlyargs (Qp st).kw_defaults=some [])
    (ok:(chainsOk (only l.prog st)&&opensWell l.prog&&(frees l.row.toRowW&&l.row.within.isEmpty))=true) (hb:l.prog.bare) (hw:l.row.toRowW.promised)
    (go:WalkO (only l.prog st) (QdO l.prog) (fun _ _=>True) (InK K) l.row.toRowW ⟨l.name,Qp st,Ql st,Qc st,defPos st⟩ [] fun f vs=>PySem.call f vs):l.Holds:=by
  rw [← Fast.te9446332074065402090] at ws
  exact holds_law ws fun k=>holds_open (r:=l.row) (left e f hN one) (InK.of ha) InK.keeps (fun _ _=>trivial) (fun _ _ _ _ _=>trivial) hd hp hk (fun s _=>recFacts_of (R:=[]) rfl) (Bool.or_true _) k ok hb hw go
end HD
namespace K45
open PySem PySem.Spec PyProof.Rows L2 L2.PM DH
theorem QfD (C:Nat→Addr) (h4:Four C) {b:Bk} (ok:b.Ok) (h30:b.words≤30) {m w:Nat} (hw:w < b.words) {ss:List Str} (hs:ss.length=b.words) (hg:∀ s∈ss,Gd s):∃ rows,Shows C (lotV C b m w) ss rows:=by
  have hl:ss.length≤30:=by omega
  have up:∀ {x:Nat},x < 2 ^ b.banes.length→x < 2 ^ ss.length:=fun h=>Nat.lt_of_lt_of_le h (Nat.pow_le_pow_right (by decide) (by rw [hs];exact ok.gw))
  have hcmp:∀ c∈cmpL b 0,c < 2 ^ b.banes.length:=fun c hc=>(QhP.mp hc).1
  unfold lotV
  cases hy:(yl b (it b m)).testBit w with
  | true =>
    rw [if_pos rfl]
    exact QiE C h4 hl hg (up (sub_lt (Qlv b m) (RU_ok ok (Qlv b m) hw hy).2.1))
  | false =>
    rw [if_neg (by decide)]
    have hyl:∀ c∈ylds b w,c < 2 ^ b.banes.length∧RU b c w < 2 ^ b.banes.length∧(yl b c).testBit w=true:=fun c hc=>by
      unfold ylds at hc
      obtain ⟨h1,h2⟩:=List.mem_filter.mp hc
      exact ⟨hcmp c h1,sub_lt (hcmp c h1) (RU_ok ok (hcmp c h1) hw h2).2.1,h2⟩
    cases hn:(nots b w).isEmpty with
    | true =>
      rw [if_pos rfl]
      have e:(ylds b w).map (prV b w)=((ylds b w).map fun c=>(c,RU b c w)).map Qdb:=by
        rw [List.map_map]
        refine List.map_congr_left fun c hc => ?_
        show prV b w c=Qdb (c,RU b c w)
        unfold prV aRV Qdb
        rw [(hyl c hc).2.2,if_pos rfl]
      rw [e]
      refine sh_sure C h4 hl hg (fun x hx => ?_) ?_
      · obtain ⟨c,hc,rfl⟩:=List.mem_map.mp hx
        exact ⟨up (hyl c hc).1,up (hyl c hc).2.1⟩
      · rw [List.length_map]
        exact Nat.le_trans (List.length_filter_le _ _) (Qij ok 0)
    | false =>
      rw [if_neg (by decide)]
      cases hye:(ylds b w).isEmpty with
      | true=>rw [if_pos rfl];exact sh_never C h4
      | false =>
        rw [if_neg (by decide)]
        obtain ⟨c,cs,ec⟩:∃ c cs,ylds b w=c :: cs:=by
          cases h:ylds b w with
          | nil=>rw [h] at hye;cases hye
          | cons c cs=>exact ⟨c,cs,rfl⟩
        obtain ⟨d,ds,ed⟩:∃ d ds,nots b w=d :: ds:=by
          cases h:nots b w with
          | nil=>rw [h] at hn;cases hn
          | cons c cs=>exact ⟨c,cs,rfl⟩
        have hc:=hyl c (by rw [ec];simp)
        have hd:d < 2 ^ b.banes.length:=by
          have:d∈nots b w:=by rw [ed];simp
          unfold nots at this
          exact hcmp d (List.mem_filter.mp this).1
        rw [ec,ed]
        exact sh_maybe C h4 hl hg (up hc.1) (up hc.2.1) (up hd)
theorem okv_rows {rows:List Str} (h:∀ r∈rows,PyData.strOk r=true):okv (.lst (rows.map .str))=true:=by
  have d:depL (rows.map .str)=0:=by
    clear h
    induction rows with
    | nil=>rfl
    | cons r rs ih=>show max (dep (.str r)) (depL (rs.map .str))=0;rw [ih];rfl
  have o:okSL (rows.map .str)=true:=by
    clear d
    induction rows with
    | nil=>rfl
    | cons r rs ih =>
      show (PyData.strOk r&&okSL (rs.map .str))=true
      rw [h r (by simp),ih fun x hx=>h x (by simp [hx])]
      rfl
  unfold okv
  rw [show dep (.lst (rows.map .str))=depL (rows.map .str) + 1 from rfl,d,show okS (.lst (rows.map .str))=okSL (rows.map .str) from rfl,o]
  rfl
noncomputable def Qjo (rows:List Str):Slot:=match rows.getLast? with
  | some r => .fz (.str r)
  | none => .un
theorem QkK (rows:List Str) (r:Str):Qjo (rows++[r]) = .fz (.str r):=by unfold Qjo;simp
theorem QkZ (rows:List Str):(rows.map PV.str).all flat=true:=by simp [List.all_eq_true,flat]
theorem QjZ {tab:List (Addr×(List PV→Option (List PV)))} {f:Str} {mo:MEx} {ma:PEnv→Option (List PV)} {γ:PEnv} {q:PV} {ps rows:List PV} (h1:mo γ=some q) (h2:ma γ=some ps) (h:∃ g,Qjr tab f q=some g∧g (q :: ps)=some rows):QcU tab f mo ma γ=some rows:=by
  obtain ⟨g,e1,e2⟩:=h
  unfold QcU
  rw [h1,Option.bind_some,e1,Option.bind_some,h2,Option.bind_some,e2]
local macro_rules | `(tactic| walk_at "ev") => `(tactic| try simp (disch:=first | assumption | omega | (simp only [encN_len,tr_len,encN_len,List.length_map,List.length_range,List.length_cons,List.length_nil,List.length_append];omega) | decide) only [encN_len,encN_flat,enc_ix0,enc_ix1,enc_ix2,renc_ix0,renc_ix1,flat_benc,flat_renc,tr_get,tr_flat,tr_set,e_cell,pNe_nil',pAdd_ni,pAdd_in,EVc,List.length_cons,List.length_nil,if_true,List.map_cons,List.map_nil,List.replicate_zero,List.replicate_succ,List.cons_append,List.nil_append,List.getElem?_cons_zero,List.getElem?_cons_succ,Option.bind_some,Option.map_some,List.set_cons_zero,List.set_cons_succ,List.length_map,List.length_range,List.all_nil,List.all_cons,List.length_append])
theorem QeJ (C:Nat→Addr) {lot:PV} {ss:List Str} {rows:List Str} (S:Shows C lot ss rows):QH C [lot,.tup (ss.map .str)]=some (.bl true):=by
  have ho:=okv_rows S.ok
  have hlen:=S.len
  have e1:pEq (.lst (rows.map .str)) (.lst [])=some (.bl false):=by
    rw [QjA ho (by decide +kernel)]
    cases h:rows with
    | nil=>exact absurd h S.ne
    | cons r rs=>rfl
  have e2:pNe (.lst (rows.map .str)) (.lst (rows.map .str))=some (.bl false):=by
    rw [Qjz ho ho,QeC]
    rfl
  have e3:pEq (.lst (rows.map .str)) (.lst (rows.map .str))=some (.bl true):=by rw [QjA ho ho,QeC]
  unfold QH QaN
  walk_at "ev"
  rw [S.due]
  walk_at "ev"
  rw [QjZ (q:=lot) (ps:=[.tup (ss.map .str)]) rfl rfl S.own]
  have hk:∀ kk:Bool,ZD kk [0,1] [Slot.fz lot,.fz (.tup (ss.map .str)),.fz (.lst (rows.map .str)),.un,.un]=[Slot.fz lot,.fz (.tup (ss.map .str)),.fz (.lst (rows.map .str)),.un,.un]:=fun kk=>by cases kk <;> rfl
  rw [Option.map_some,hk]
  walk_at "ev"
  rw [e1]
  walk_at "ev"
  rw [sForO_of (xs:=rows.map .str) (γ':=[Slot.fz lot,.fz (.tup (ss.map .str)),.fz (.lst (rows.map .str)),.un,Qjo rows]) rfl (QkZ rows) (by show 3 < 5;decide) fun a => ?_]
  · generalize Qjo rows=s4
    walk_at "ev"
    rw [e2]
    walk_at "ev"
    rw [show sClr 3 [Slot.fz lot,.fz (.tup (ss.map .str)),.fz (.lst (rows.map .str)),.ow (rows.map .str),s4]=some (.nx [Slot.fz lot,.fz (.tup (ss.map .str)),.fz (.lst (rows.map .str)),.ow [],s4]) from rfl]
    walk_at "ev"
    rw [QjZ (q:=lot) (ps:=[.tup (ss.map .str)]) rfl rfl S.own]
    walk_at "ev"
    rw [e3]
    walk_at "ev"
  · obtain ⟨γ',e,rfl⟩:=Ym (g:=gSet 4) (b:=YW C) PV.str (fun pre γ=>γ=[Slot.fz lot,.fz (.tup (ss.map .str)),.fz (.lst (rows.map .str)),.fz (.opq a),Qjo pre])
      rows rows [] [Slot.fz lot,.fz (.tup (ss.map .str)),.fz (.lst (rows.map .str)),.fz (.opq a),.un] rfl rfl (by
        rintro pre x post γ hpre rfl
        refine ⟨_,_,rfl,?_,rfl⟩
        unfold YW
        walk_at "ev"
        rw [QkK])
    exact e
theorem law_true (C:Nat→Addr) (hC:([C 1,C 2,C 3,C 4]:List Addr).Nodup) (ns:List Int) (hn:ns.length≤63):Qbw C [.lst (ns.map .int)]=some (.bl true):=by
  unfold Qbw QfS
  walk_at "ev"
  obtain ⟨b,eb,ok,h30⟩:=e_book10 ns hn
  have h8:=ok.g8
  have hw:=ok.w60
  rw [eb]
  walk_at "ev"
  obtain ⟨s1,en1,l1,g1⟩:=Qia (ns.getD 1 0) (n:=b.banes.length) h30
  rw [en1]
  walk_at "ev"
  obtain ⟨s2,en2,l2,g2⟩:=Qia (ns.getD 2 0) (n:=b.banes.length) h30
  rw [en2]
  walk_at "ev"
  rw [show pSub (pN b.words) (pN 1)=some (.int ((b.words:Int) - 1)) from rfl]
  have hcut:(cutP ns (some (-((3:Nat):Int))) none).length≤63:=by
    have:=cutP_len ns (some (-((3:Nat):Int))) none
    omega
  generalize cutP ns (some (-((3:Nat):Int))) none=cells at *
  walk_at "ev"
  obtain ⟨γ',e,ws,s5,rfl,hws,hwl⟩:=Ym (g:=gSet 5) (b:=Qaz C) PV.int (fun pre γ=>∃ (ws:List Nat) (s5:Slot),γ=[.fz (.lst (ns.map .int)),.fz b.enc,.fz (.tup (s1.map .str)),.fz (.tup (s2.map .str)),.ow (encN ws),s5,.un,.un]∧(∀ x∈ws,x < b.words)∧ws.length≤pre.length)
    (((b.words:Int) - 1) :: cells) (((b.words:Int) - 1) :: cells) [] [.fz (.lst (ns.map .int)),.fz b.enc,.fz (.tup (s1.map .str)),.fz (.tup (s2.map .str)),.ow [],.un,.un,.un] rfl ⟨[],.un,rfl,by simp,by simp⟩ (by
      rintro pre z post γ hpre ⟨ws,s5,rfl,h1,h2⟩
      have hpl:pre.length≤64:=by
        have:=congrArg List.length hpre
        simp at this
        omega
      have key:∃ ws':List Nat,Qaz C [.fz (.lst (ns.map .int)),.fz b.enc,.fz (.tup (s1.map .str)),.fz (.tup (s2.map .str)),.ow (encN ws),.fz (.int z),.un,.un]=some (.nx [.fz (.lst (ns.map .int)),.fz b.enc,.fz (.tup (s1.map .str)),.fz (.tup (s2.map .str)),.ow (encN ws'),.fz (.int z),.un,.un])∧(∀ x∈ws',x < b.words)∧ws'.length≤pre.length + 1:=by
        unfold Qaz
        walk_at "ev"
        by_cases hw0:0 < b.words
        · rw [decide_eq_true hw0]
          walk_at "ev"
          have hz:=imod_lt z hw0
          obtain ⟨x,hx⟩:∃ x,(z % (b.words:Int)).toNat=x:=⟨_,rfl⟩
          rw [hx] at hz ⊢
          cases hc:decide (x∈ws) with
          | true=>walk_at "ev";exact ⟨ws,rfl,h1,by omega⟩
          | false =>
            walk_at "ev"
            rw [Xc (by rw [encN_len];omega) rfl]
            walk_at "ev"
            refine ⟨ws++[x],by rw [hx,← QeI];rfl,fun y hy => ?_,by simp;omega⟩
            rcases List.mem_append.mp hy with q | q
            · exact h1 y q
            · rw [List.mem_singleton.mp q];exact hz
        · rw [decide_eq_false hw0]
          walk_at "ev"
          exact ⟨ws,rfl,h1,by omega⟩
      obtain ⟨ws',e,q1,q2⟩:=key
      exact ⟨_,_,rfl,e,ws',_,rfl,q1,by simpa using q2⟩)
  rw [show PV.int ((b.words:Int) - 1) :: cells.map PV.int=(((b.words:Int) - 1) :: cells).map PV.int from rfl,e]
  walk_at "ev"
  obtain ⟨m,es,hlast,_⟩:=QfL ok
  obtain ⟨γ',e,s6,s7,rfl⟩:=Ym (g:=gSet 6) (b:=Qcg C) pN (fun pre γ=>∃ s6 s7,γ=[.fz (.lst (ns.map .int)),.fz b.enc,.fz (.tup (s1.map .str)),.fz (.tup (s2.map .str)),.fz (.lst (encN ws)),s5,s6,s7])
    ws ws [] [.fz (.lst (ns.map .int)),.fz b.enc,.fz (.tup (s1.map .str)),.fz (.tup (s2.map .str)),.fz (.lst (encN ws)),s5,.un,.un] rfl ⟨.un,.un,rfl⟩ (by
      rintro pre w post γ hpre ⟨s6,s7,rfl⟩
      have hw2:w < b.words:=hws w (by rw [← hpre];simp)
      obtain ⟨r1,S1⟩:=QfD C hC ok h30 (m:=m) hw2 l1 g1
      obtain ⟨r2,S2⟩:=QfD C hC ok h30 (m:=m) hw2 l2 g2
      refine ⟨_,_,rfl,?_,.fz (pN w),.fz (lotV C b m w),rfl⟩
      unfold Qcg
      walk_at "ev"
      rw [e_lot C ok hw2 hlast]
      have hk:∀ kk:Bool,ZD kk [1,6] [Slot.fz (.lst (ns.map .int)),.fz b.enc,.fz (.tup (s1.map .str)),.fz (.tup (s2.map .str)),.fz (.lst (encN ws)),s5,.fz (pN w),s7]=[Slot.fz (.lst (ns.map .int)),.fz b.enc,.fz (.tup (s1.map .str)),.fz (.tup (s2.map .str)),.fz (.lst (encN ws)),s5,.fz (pN w),s7]:=fun kk=>by cases kk <;> rfl
      rw [Option.map_some,hk]
      walk_at "ev"
      rw [QeJ C S1]
      walk_at "ev"
      rw [QeJ C S2]
      walk_at "ev"
      rw [QeJ C S1]
      walk_at "ev")
  rw [show encN ws=ws.map pN from rfl] at e ⊢
  rw [e]
  walk_at "ev"
end K45

namespace K45
open PySem PySem.Spec PyProof.Rows L2 L2.PM DH
noncomputable def top (i:Nat):Stmt:=PySem.Challenge.pw_doubthall_k45_lots_shown.main.body.getD i (.Pass ⟨0,0,0,0⟩)
structure Txt (mg:Str→Option Value):Prop where
  b_any:mg "any"=none
  b_enumerate:mg "enumerate"=none
  b_isinstance:mg "isinstance"=none
  b_len:mg "len"=none
  b_list:mg "list"=none
  b_range:mg "range"=none
  b_reversed:mg "reversed"=none
  b_set:mg "set"=none
  b_sorted:mg "sorted"=none
  b_str:mg "str"=none
  b_tuple:mg "tuple"=none
structure TFld (K:PySem.W.Frag) (C:Addr):Prop where
  fl_word:CFld K C "word"
  fl_name:CFld K C "name"
  fl_reason:CFld K C "reason"
  fl_pairs:CFld K C "pairs"
  fl_camp:CFld K C "camp"
  fl_other:CFld K C "other"
structure WFam (K:PySem.W.Frag) (mg:Str→Option Value) (C:Nat→Addr):Prop where
  fl:∀ D,D∈[C 1,C 2,C 3,C 4]→TFld K D
  mg_Maybe:mg "Maybe"=some (.ref (C 3))
  is_Maybe:∀ D b,([(C 1,false),(C 2,false),(C 3,true),(C 4,false)]:List (Addr×Bool)).lookup D=some b→IsiC K (C 3) D b
  mg_Never:mg "Never"=some (.ref (C 4))
  is_Never:∀ D b,([(C 1,false),(C 2,false),(C 3,false),(C 4,true)]:List (Addr×Bool)).lookup D=some b→IsiC K (C 4) D b
  mg_Settled:mg "Settled"=some (.ref (C 1))
  is_Settled:∀ D b,([(C 1,true),(C 2,false),(C 3,false),(C 4,false)]:List (Addr×Bool)).lookup D=some b→IsiC K (C 1) D b
  mg_Sure:mg "Sure"=some (.ref (C 2))
  is_Sure:∀ D b,([(C 1,false),(C 2,true),(C 3,false),(C 4,false)]:List (Addr×Bool)).lookup D=some b→IsiC K (C 2) D b
noncomputable abbrev ZB:Stmt:=top 35
noncomputable def QaV:List Str:=["script","k"]
theorem QdE {P:Program} {w:World} {K:PySem.W.Frag} {mg:Str→Option Value} {base:Heap} {f:Addr} {fd:FuncData} (T:Txt mg)  (F:Fun K "_law_cell_at" "_law_cell_at" ZB f fd):FnOk P w K mg base CX0 1 f fd ["script","k"] (spM K 2 QA):=by
  have sc:FnScope QaV ["script","k"] (Qc ZB):=⟨rfl,rfl,rfl,by decide +kernel,rfl,by decide +kernel,by decide +kernel⟩
  have nd:=sc.nd
  refine fnM (N:=QaV) (k:=0) F sc rfl fun cdv A outer s H E hr => ?_
  exact (Qh (ZS (Zj Qlr (Qa 1 (pv 1)) (Yn Qbc (by rfl) T.b_len PySem.boot_len (Qb (Qa 0 (pv 0)) Qf)) (Zl _)) (Qm (QG (Zu Zt (Qa 0 (pv 0)) (Qa 1 (pv 1)) (fun _ _=>rfl)))) Zd)
      (Qm (QG Qi)))
noncomputable abbrev Ya:Stmt:=top 37
noncomputable def Qcy:List Str:=["shape","n","last","rules","k"]
theorem Qfa {P:Program} {w:World} {K:PySem.W.Frag} {mg:Str→Option Value} {base:Heap} {f:Addr} {fd:FuncData} (T:Txt mg)  (F:Fun K "_law_first" "_law_first" Ya f fd):FnOk P w K mg base CX0 1 f fd ["shape","n","last"] (spO K 3 Zm):=by
  have sc:FnScope Qcy ["shape","n","last"] (Qc Ya):=⟨rfl,rfl,rfl,by decide +kernel,rfl,by decide +kernel,by decide +kernel⟩
  have nd:=sc.nd
  refine fnO (N:=Qcy) (k:=0) F sc rfl fun cdv A outer s H E hr => ?_
  exact (Qh (Xa (i:=3) nd rfl (Or.inl rfl) (ZN Qf))
      (Qh (Qet PassesOwn.never rfl (Qcb (by rfl) T.b_range (Qb (Qa 1 (pv 1)) Qf)) (QK (Qx (i:=4) nd rfl (Or.inl rfl))) (Qh (ZS (WM.tm (QbT (Zj (QaC hr.units) (Qa 0 (pv 0)) Qi (Zl _)) (XX (WM.tm (Qjl (Zj Qlr (Qo Qu (Qa 4 (pv 4)) Qi) (Qa 1 (pv 1)) (Zl _)) (QgH (Zj (QaC hr.units) (Qo Zk (Qa 4 (pv 4)) Qi) Qi (Zl _)))))))) (Qm (QaY (i:=3) (pv 3) (Yu (Qb (Qo Qu (Qa 1 (pv 1)) (Qa 4 (pv 4))) (Qb (Yu (Qb (Qo QdQ (Qo Qu (Qa 4 (pv 4)) Qi) (Qo Qba Qi (Qo Zk (Qa 4 (pv 4)) Qi))) Qf)) Qf))) (YD (Qda PySem.F.plainAttrs_list PySem.F.slot_list_append PySem.F.type_list_append ZP (pv 3) (YB (Yu (Qb (Qo Qu (Qa 1 (pv 1)) (Qa 4 (pv 4))) (Qb (Yu (Qb (Qo QdQ (Qo Qu (Qa 4 (pv 4)) Qi) (Qo Qba Qi (Qo Zk (Qa 4 (pv 4)) Qi))) Qf)) Qf)))))))) Zd)
      (Qm (ZS (WM.tm (QbT (Zj (QaC hr.units) (Qa 0 (pv 0)) Qi (Zl _)) (XX (Zj Qlr (Qo Qu (Qa 4 (pv 4)) Qi) (Qa 1 (pv 1)) (Zl _))))) (Qm (QaY (i:=3) (pv 3) (Yu (Qb (Qo Qu (Qa 1 (pv 1)) (Qa 4 (pv 4))) (Qb (Yu (Qb (Qo Qu (Qa 4 (pv 4)) Qi) Qf)) Qf))) (YD (Qda PySem.F.plainAttrs_list PySem.F.slot_list_append PySem.F.type_list_append ZP (pv 3) (YB (Yu (Qb (Qo Qu (Qa 1 (pv 1)) (Qa 4 (pv 4))) (Qb (Yu (Qb (Qo Qu (Qa 4 (pv 4)) Qi) Qf)) Qf)))))))) Zd))))
      (Qh (ZS (WM.tm (QbT (Zj (QaC hr.units) (Qa 0 (pv 0)) Qi (Zl _)) (XX (Zj om_gt (Qa 1 (pv 1)) Qi (Zl _))))) (Qm (Xa (i:=3) nd rfl (Or.inl rfl) (Qly QgN (Qa 3 (pv 3)) (EO.em (ZN (Qb (Yu (Qb (Qa 2 (pv 2)) (Qb (Yu (ZO Qf)) Qf))) (Qb (Yu (Qb (Qa 2 (pv 2)) (Qb (Yu (ZO Qf)) Qf))) Qf))))))) Zd)
      (Qm (QaE 3 (pv 3))))))
noncomputable abbrev Yr:Stmt:=top 36
noncomputable def QdA:List Str:=["cell","k","number"]
theorem Qgn {P:Program} {w:World} {K:PySem.W.Frag} {mg:Str→Option Value} {base:Heap} {f:Addr} {fd:FuncData} (T:Txt mg)  (F:Fun K "_law_draw" "_law_draw" Yr f fd):FnOk P w K mg base CX0 1 f fd ["cell","k"] (spM K 2 Qj):=by
  have sc:FnScope QdA ["cell","k"] (Qc Yr):=⟨rfl,rfl,rfl,by decide +kernel,rfl,by decide +kernel,by decide +kernel⟩
  have nd:=sc.nd
  refine fnM (N:=QdA) (k:=0) F sc rfl fun cdv A outer s H E hr => ?_
  exact (Qh (Qy (i:=2) nd rfl (Or.inl rfl) (Qo Zk (Qo Qu (Qo Qu (Qo Qu (Qo Zk (Qa 0 (pv 0)) Qi) (Qo Qba Qi (Qa 1 (pv 1)))) (Qo Qba (Qo Qba Qi (Qa 1 (pv 1))) (Qa 1 (pv 1)))) Qi) Qi))
      (Qh (Qy (i:=2) nd rfl (Or.inl rfl) (Qo Zk (Qo Qba (Qa 2 (pv 2)) (Qa 2 (pv 2))) Qi))
      (Qm (QG (Qo QjB (Qo Zk (Qo Qba (Qa 2 (pv 2)) (Qo Qu Qi (Qo Qba Qi (Qa 1 (pv 1))))) Qi) Qi)))))
noncomputable abbrev ZG:Stmt:=top 38
noncomputable def XB:List Str:=["script","cell","n","m","shape","banes","k","rules","body","rule"]
theorem Qgo {P:Program} {w:World} {K:PySem.W.Frag} {mg:Str→Option Value} {base:Heap} {f:Addr} {fd:FuncData} (T:Txt mg) (c__law_cell_at:Cal P w K mg base 1 "_law_cell_at" 2 QA) (c__law_first:CalO P w K mg base 1 "_law_first" 3 Zm) (c__law_draw:Cal P w K mg base 1 "_law_draw" 2 Qj) (F:Fun K "_law_book" "_law_book" ZG f fd):FnOk P w K mg base CX0 2 f fd ["script"] (spM K 1 Zn):=by
  have sc:FnScope XB ["script"] (Qc ZG):=⟨rfl,rfl,rfl,by decide +kernel,rfl,by decide +kernel,by decide +kernel⟩
  have nd:=sc.nd
  refine fnM (N:=XB) (k:=1) F sc rfl fun cdv A outer s H E hr => ?_
  exact (Qh (Qy (i:=1) nd rfl (Or.inr rfl) (Qn c__law_cell_at Yj (hr.mono (by decide)) (by rfl) (Qb (Qa 0 (pv 0)) (ZO Qf))))
      (Qh (Qy (i:=2) nd rfl (Or.inr rfl) (Qo Zk (Qn c__law_draw Qq (hr.mono (by decide)) (by rfl) (Qb (Qa 1 (pv 1)) (ZO Qf))) Qi))
      (Qh (Qy (i:=3) nd rfl (Or.inr rfl) (Qo Qu (Qo Qu (Qa 2 (pv 2)) Qi) (Qo Zk (Qn c__law_draw Qq (hr.mono (by decide)) (by rfl) (Qb (Qa 1 (pv 1)) (ZO Qf))) Qi)))
      (Qh (Qy (i:=4) nd rfl (Or.inl rfl) (Qo Zk (Qn c__law_draw Qq (hr.mono (by decide)) (by rfl) (Qb (Qa 1 (pv 1)) (ZO Qf))) Qi))
      (Qh (ZS (Zj (QaC hr.units) (Qo Zk (Qn c__law_draw Qq (hr.mono (by decide)) (by rfl) (Qb (Qa 1 (pv 1)) (ZO Qf))) Qi) Qi (Zl _)) (Qh (Qy (i:=3) nd rfl (Or.inr rfl) Qi)
      (Qm (Qy (i:=4) nd rfl (Or.inl rfl) Qi))) Zd)
      (Qh (Yo (i:=5) nd rfl rfl (N':=["k","n"]) (nt:=1) (caps:=[2]) (ts:=[0]) (ns:=[]) (ls:=[1,0]) rfl (XL (N:=XB) (osc:=(Qc ZG)) rfl rfl (by decide +kernel)) (by decide) (Zc _) (Xo (by rfl) T.b_range (Qb (Qa 2 (pv 2)) Qf)) (fun _ _ _ _ _ _=>(QK (Qx (i:=0) (show (["k","n"]:List Str).Nodup by decide +kernel) rfl (Or.inl rfl)))) (fun _ _ _ _ _ _=>Qal) (fun _ _ _ _ _ _=>(Qo Qu (Qa 1 (pv 1)) (Qa 0 (pv 0)))))
      (Qh (Qet PassesOwn.never rfl (Qcb (by rfl) T.b_range (Qb (Qa 2 (pv 2)) Qf)) (QK (Qx (i:=6) nd rfl (Or.inl rfl))) (Qm (ZS (WM.tm (Qjl (Zj (QaC hr.units) (Qa 3 (pv 3)) Qi (Zl _)) (QgH (WM.tm (QbT (Zj (QaC hr.units) (Qa 4 (pv 4)) Qi (Zl _)) (XX (Zj (QaC hr.units) (Qo Zk (Qn c__law_draw Qq (hr.mono (by decide)) (by rfl) (Qb (Qa 1 (pv 1)) (Qb (Qo Qu Qi (Qa 6 (pv 6))) Qf))) Qi) Qi (Zl _)))))))) (Qm (sm_setIx (i:=5) (pv 5) (Qo Zk (Qn c__law_draw Qq (hr.mono (by decide)) (by rfl) (Qb (Qa 1 (pv 1)) (Qb (Qo Qu Qi (Qa 6 (pv 6))) Qf))) (Qo Qu (Qa 2 (pv 2)) (Qa 3 (pv 3)))) (Qa 6 (pv 6)))) Zd)))
      (Qh (Xa (i:=7) nd rfl (Or.inl rfl) (eo_cal c__law_first QbR (hr.mono (by decide)) (by rfl) (Qb (Qa 4 (pv 4)) (Qb (Qa 2 (pv 2)) (Qb (Qo QdQ (Qo Qu (Qa 2 (pv 2)) (Qa 3 (pv 3))) Qi) Qf)))))
      (Qh (QbU PassesOwn.never rfl (Qak (EO.em (QgS (Qa 0 (pv 0)) (QbN Qi) (QbN Qi)))) (QK (Qx (i:=1) nd rfl (Or.inr rfl))) (Qm (ZS (WM.tm (QbT (Zj om_gt (Qa 3 (pv 3)) Qi (Zl _)) (XX (Zj Qlr (Yn Qbc (by rfl) T.b_len PySem.boot_len (Qb (Qa 7 (pv 7)) Qf)) Qi (Zl _))))) (Qh (Yo (i:=8) nd rfl rfl (N':=["k","cell","n","m"]) (nt:=1) (caps:=[1,2,3]) (ts:=[0]) (ns:=[]) (ls:=[1,0,2,3]) rfl (XL (N:=XB) (osc:=(Qc ZG)) rfl rfl (by decide +kernel)) (by decide) (Zc _) (Xo (by rfl) T.b_range (Qb (Qo Zk (Qn c__law_draw Qq (hr.mono (by decide)) (by rfl) (Qb (Qa 1 (pv 1)) (ZO Qf))) Qi) Qf)) (fun _ _ _ _ _ _=>(QK (Qx (i:=0) (show (["k","cell","n","m"]:List Str).Nodup by decide +kernel) rfl (Or.inl rfl)))) (fun _ _ _ _ _ _=>Qal) (fun _ _ _ _ _ _=>(Qo Zk (Qn c__law_draw Qq (hr.mono (by decide)) (by rfl) (Qb (Qa 1 (pv 1)) (Qb (Qo Qu Qi (Qa 0 (pv 0))) Qf))) (Qo Qu (Qa 2 (pv 2)) (Qa 3 (pv 3))))))
      (Qh (Qy (i:=9) nd rfl (Or.inl rfl) (Yu (Qb (Qo Qu (Qa 2 (pv 2)) (Qo Zk (Qn c__law_draw Qq (hr.mono (by decide)) (by rfl) (Qb (Qa 1 (pv 1)) (ZO Qf))) (Qa 3 (pv 3)))) (Qb (YR Xx (by rfl) T.b_tuple (by kernel_rfl) (Qb (EO.em (Qjb rfl (by rfl) T.b_set (by rfl) T.b_sorted (Qb (Qa 8 (pv 8)) Qf))) Qf)) Qf))))
      (Qm (ZS (Zj (QhH hr.units) (Qa 9 (pv 9)) (Qa 7 (pv 7)) (by with_unfolding_all rfl)) (Qm (QaY (i:=7) (pv 7) (Qa 9 (pv 9)) (YD (Qda PySem.F.plainAttrs_list PySem.F.slot_list_append PySem.F.type_list_append ZP (pv 7) (YB (Qa 9 (pv 9))))))) Zd)))) Zd)))
      (Qm (QG (Yu (Qb (Qo Qu (Qa 2 (pv 2)) (Qa 3 (pv 3))) (Qb (YR Xx (by rfl) T.b_tuple (by kernel_rfl) (Qb (Qa 5 (pv 5)) Qf)) (Qb (YR Xx (by rfl) T.b_tuple (by kernel_rfl) (Qb (Qa 7 (pv 7)) Qf)) Qf)))))))))))))))
noncomputable abbrev QW:Stmt:=top 39
noncomputable def Yw:List Str:=["cell","size","letters"]
theorem QdD {P:Program} {w:World} {K:PySem.W.Frag} {mg:Str→Option Value} {base:Heap} {f:Addr} {fd:FuncData} (T:Txt mg) (c__law_draw:Cal P w K mg base 1 "_law_draw" 2 Qj) (F:Fun K "_law_letters" "_law_letters" QW f fd):FnOk P w K mg base CX0 2 f fd ["cell","size"] (spM K 2 QY):=by
  have sc:FnScope Yw ["cell","size"] (Qc QW):=⟨rfl,rfl,rfl,by decide +kernel,rfl,by decide +kernel,by decide +kernel⟩
  have nd:=sc.nd
  refine fnM (N:=Yw) (k:=1) F sc rfl fun cdv A outer s H E hr => ?_
  exact (Qh (Qy (i:=2) nd rfl (Or.inr rfl) Yb)
      (Qm (QG (QgD Yb (Qb (EO.em (Xr (X:=(cxOf CX0 P w K mg base Yw "_law_letters" (Qc QW) f cdv A outer s H E).nox) (N':=["k","letters","cell"]) (nt:=1) (caps:=[2,0]) (ts:=[0]) (ns:=[]) (ls:=[1,2,0]) rfl (XL (N:=Yw) (osc:=(Qc QW)) rfl rfl (by decide +kernel)) (by decide) (Zc _) (Xo (by rfl) T.b_range (Qb (Qa 1 (pv 1)) Qf)) (fun _ _ _ _ _ _=>(QK (Qx (i:=0) (show (["k","letters","cell"]:List Str).Nodup by decide +kernel) rfl (Or.inl rfl)))) (fun _ _ _ _ _ _=>Qal) (fun _ _ _ _ _ _=>(Zu Zt (Qa 1 (pv 1)) (Qo Zk (Qn c__law_draw Qq (hr.mono (by decide)) (by rfl) (Qb (Qa 2 (pv 2)) (Qb (Qo Qu Qi (Qa 0 (pv 0))) Qf))) Qi) (fun _ _=>rfl))))) Qf)))))
noncomputable abbrev ZZ:Stmt:=top 40
noncomputable def Qcx:List Str:=["cell","words","n","letters","front","back","step","names","k","name"]
theorem QeZ {P:Program} {w:World} {K:PySem.W.Frag} {mg:Str→Option Value} {base:Heap} {f:Addr} {fd:FuncData} (T:Txt mg) (c__law_draw:Cal P w K mg base 1 "_law_draw" 2 Qj) (c__law_letters:Cal P w K mg base 2 "_law_letters" 2 QY) (F:Fun K "_law_names" "_law_names" ZZ f fd):FnOk P w K mg base CX0 3 f fd ["cell","words","n"] (spM K 3 QX):=by
  have sc:FnScope Qcx ["cell","words","n"] (Qc ZZ):=⟨rfl,rfl,rfl,by decide +kernel,rfl,by decide +kernel,by decide +kernel⟩
  have nd:=sc.nd
  refine fnM (N:=Qcx) (k:=2) F sc rfl fun cdv A outer s H E hr => ?_
  exact (Qh (Qy (i:=3) nd rfl (Or.inl rfl) Yb)
      (Qh (Qy (i:=4) nd rfl (Or.inl rfl) (Qn c__law_letters Xg (hr.mono (by decide)) (by rfl) (Qb (Qa 0 (pv 0)) (Qb (Qo Zk (Qn c__law_draw Qq (hr.mono (by decide)) (by rfl) (Qb (Qa 0 (pv 0)) (ZO Qf))) Qi) Qf))))
      (Qh (Qy (i:=5) nd rfl (Or.inl rfl) (Qn c__law_letters Xg (hr.mono (by decide)) (by rfl) (Qb (Qo QjB (Qa 0 (pv 0)) Qi) (Qb (Qo Zk (Qn c__law_draw Qq (hr.mono (by decide)) (by rfl) (Qb (Qa 0 (pv 0)) (ZO Qf))) Qi) Qf))))
      (Qh (Qy (i:=6) nd rfl (Or.inl rfl) (Zu Zt (EO.em (ZN (ZO (ZO (ZO (ZO (ZO (ZO Qf)))))))) (Qo Zk (Qn c__law_draw Qq (hr.mono (by decide)) (by rfl) (Qb (Qa 0 (pv 0)) (ZO Qf))) Qi) (fun _ _=>rfl)))
      (Qh (Xa (i:=7) nd rfl (Or.inl rfl) (ZN Qf))
      (Qh (Qet PassesOwn.never rfl (Qcb (by rfl) T.b_range (Qb (Qa 1 (pv 1)) Qf)) (QK (Qx (i:=8) nd rfl (Or.inl rfl))) (Qh (Qy (i:=9) nd rfl (Or.inl rfl) (Qo Qu (Qo Qu (Qa 4 (pv 4)) (Zu Zt (Qa 3 (pv 3)) (Qo Zk (Qo Qu (Qa 0 (pv 0)) (Qo Qba (Qa 6 (pv 6)) (Qa 8 (pv 8)))) Qi) (fun _ _=>rfl))) (Qa 5 (pv 5))))
      (Qh (ZS (Zj (QaC hr.units) (Qo Zk (Qo QjB (Qa 0 (pv 0)) Qi) Qi) Qi (Zl _)) (Qm (Qy (i:=9) nd rfl (Or.inl rfl) (em_cutS (Qa 9 (pv 9)) Qeu (QbN (Qo QdQ (Yn Qbc (by rfl) T.b_len PySem.boot_len (Qb (Qa 9 (pv 9)) Qf)) (Qo Zk (Qn c__law_draw Qq (hr.mono (by decide)) (by rfl) (Qb (Qa 0 (pv 0)) (Qb (Qo Qu Qi (Qa 8 (pv 8))) Qf))) (Qo Qu (Yn Qbc (by rfl) T.b_len PySem.boot_len (Qb (Qa 5 (pv 5)) Qf)) Qi))))))) Zd)
      (Qh (ZS (Zj (om_in hr.units) (Qa 9 (pv 9)) (EO.em (ZN (Qbd (Qbd (Qbd Qf))))) (by with_unfolding_all rfl)) (Qm (Qy (i:=9) nd rfl (Or.inl rfl) (Qo Qu (Qa 9 (pv 9)) Yb))) Zd)
      (Qm (QaY (i:=7) (pv 7) (Qa 9 (pv 9)) (YD (Qda PySem.F.plainAttrs_list PySem.F.slot_list_append PySem.F.type_list_append ZP (pv 7) (YB (Qa 9 (pv 9)))))))))))
      (Qm (QG (YR Xx (by rfl) T.b_tuple (by kernel_rfl) (Qb (EO.em (Qly QgN (EO.em (QhY QfW (by rfl) T.b_sorted (by kernel_rfl) (Qb (EO.em (QgS (Qa 7 (pv 7)) Qeu (QbN (Qa 2 (pv 2))))) Qf))) (EO.em (QhY QfW (by rfl) T.b_sorted (by kernel_rfl) (Qb (EO.em (QgS (Qa 7 (pv 7)) (QbN (Qa 2 (pv 2))) Qeu)) Qf))))) Qf))))))))))
noncomputable abbrev YZ:Stmt:=top 2
noncomputable def QcM:List Str:=["mask"]
theorem QkF {P:Program} {w:World} {K:PySem.W.Frag} {mg:Str→Option Value} {base:Heap} {f:Addr} {fd:FuncData} (T:Txt mg)  (F:Fun K "places" "places" YZ f fd):FnOk P w K mg base CX0 1 f fd ["mask"] (spM K 1 YA):=by
  have sc:FnScope QcM ["mask"] (Qc YZ):=⟨rfl,rfl,rfl,by decide +kernel,rfl,by decide +kernel,by decide +kernel⟩
  have nd:=sc.nd
  refine fnM (N:=QcM) (k:=0) F sc rfl fun cdv A outer s H E hr => ?_
  exact (Qm (Xq (Xr (X:=(cxOf CX0 P w K mg base QcM "places" (Qc YZ) f cdv A outer s H E).nox) (N':=["k","mask"]) (nt:=1) (caps:=[0]) (ts:=[0]) (ns:=[1,0]) (ls:=[0]) rfl (XL (N:=QcM) (osc:=(Qc YZ)) rfl rfl (by decide +kernel)) (by decide) (Zc _) (Xo (by rfl) T.b_range (Qb (em_bits (Qa 0 (pv 0))) Qf)) (fun _ _ _ _ _ _=>(QK (Qx (i:=0) (show (["k","mask"]:List Str).Nodup by decide +kernel) rfl (Or.inl rfl)))) (fun _ _ _ _ _ _=>(QdT (QB (Qo QdR (Qo om_shr (Qa 1 (pv 1)) (Qa 0 (pv 0))) Qi)))) (fun _ _ _ _ _ _=>(Qa 0 (pv 0))))))
noncomputable abbrev Qaf:Stmt:=top 4
noncomputable def Qis:List Str:=["mask","other"]
theorem QkG {P:Program} {w:World} {K:PySem.W.Frag} {mg:Str→Option Value} {base:Heap} {f:Addr} {fd:FuncData} (T:Txt mg)  (F:Fun K "inside" "inside" Qaf f fd):FnOk P w K mg base CX0 1 f fd ["mask","other"] (spM K 2 QM):=by
  have sc:FnScope Qis ["mask","other"] (Qc Qaf):=⟨rfl,rfl,rfl,by decide +kernel,rfl,by decide +kernel,by decide +kernel⟩
  have nd:=sc.nd
  refine fnM (N:=Qis) (k:=0) F sc rfl fun cdv A outer s H E hr => ?_
  exact (Qm (QG (QjE (QaC hr.units) (Qo QdR (Qa 0 (pv 0)) (Qa 1 (pv 1))) (Qa 0 (pv 0)) (Zl _))))
noncomputable abbrev Xm:Stmt:=top 3
noncomputable def Qgd:List Str:=["row","mask","k"]
theorem QiL {P:Program} {w:World} {K:PySem.W.Frag} {mg:Str→Option Value} {base:Heap} {f:Addr} {fd:FuncData} (T:Txt mg)  (F:Fun K "mask_of" "mask_of" Xm f fd):FnOk P w K mg base CX0 1 f fd ["row"] (spM K 1 Zo):=by
  have sc:FnScope Qgd ["row"] (Qc Xm):=⟨rfl,rfl,rfl,by decide +kernel,rfl,by decide +kernel,by decide +kernel⟩
  have nd:=sc.nd
  refine fnM (N:=Qgd) (k:=0) F sc rfl fun cdv A outer s H E hr => ?_
  exact (Qh (Qy (i:=1) nd rfl (Or.inl rfl) Qi)
      (Qh (QbU PassesOwn.never rfl (im_seq (Qa 0 (pv 0))) (QK (Qx (i:=2) nd rfl (Or.inl rfl))) (Qm (sm_aug (i:=1) nd rfl (Or.inl rfl) (Qo QcB Qi (Qa 2 (pv 2))) om_ior)))
      (Qm (QaE 1 (pv 1)))))
noncomputable abbrev Zi:Stmt:=top 8
noncomputable def YG:List Str:=["book","held","steps"]
theorem QdX {P:Program} {w:World} {K:PySem.W.Frag} {mg:Str→Option Value} {base:Heap} {f:Addr} {fd:FuncData} (T:Txt mg) (c_mask_of:Cal P w K mg base 1 "mask_of" 1 Zo) (F:Fun K "known_after" "known_after" Zi f fd):FnOk P w K mg base CX0 2 f fd ["book","held","steps"] (spM K 3 ZA):=by
  have sc:FnScope YG ["book","held","steps"] (Qc Zi):=⟨rfl,rfl,rfl,by decide +kernel,rfl,by decide +kernel,by decide +kernel⟩
  have nd:=sc.nd
  refine fnM (N:=YG) (k:=1) F sc rfl fun cdv A outer s H E hr => ?_
  exact (Qm (QG (Qo om_or (Qa 1 (pv 1)) (Qn c_mask_of XC (hr.mono (by decide)) (by rfl) (Qb (EO.em (Xr (X:=(cxOf CX0 P w K mg base YG "known_after" (Qc Zi) f cdv A outer s H E).nox) (N':=["step","book"]) (nt:=1) (caps:=[0]) (ts:=[0]) (ns:=[]) (ls:=[1,0]) rfl (XL (N:=YG) (osc:=(Qc Zi)) rfl rfl (by decide +kernel)) (by decide) (Zc _) (Qak (Qa 2 (pv 2))) (fun _ _ _ _ _ _=>(QK (Qx (i:=0) (show (["step","book"]:List Str).Nodup by decide +kernel) rfl (Or.inl rfl)))) (fun _ _ _ _ _ _=>Qal) (fun _ _ _ _ _ _=>(Zu Zt (Zu Zt (Zu Zt (Qa 1 (pv 1)) Qi (fun _ _=>rfl)) (Qa 0 (pv 0)) (fun _ _=>rfl)) Qi (fun _ _=>rfl))))) Qf)))))
noncomputable abbrev QO:Stmt:=top 7
noncomputable def YC:List Str:=["book","held","rules","bodies","known","steps","grown","number","rule","head"]
theorem Qci {P:Program} {w:World} {K:PySem.W.Frag} {mg:Str→Option Value} {base:Heap} {f:Addr} {fd:FuncData} (T:Txt mg) (c_inside:Cal P w K mg base 1 "inside" 2 QM) (c_mask_of:Cal P w K mg base 1 "mask_of" 1 Zo) (F:Fun K "bringing_steps" "bringing_steps" QO f fd):FnOk P w K mg base CX0 2 f fd ["book","held"] (spM K 2 QP):=by
  have sc:FnScope YC ["book","held"] (Qc QO):=⟨rfl,rfl,rfl,by decide +kernel,rfl,by decide +kernel,by decide +kernel⟩
  have nd:=sc.nd
  refine fnM (N:=YC) (k:=1) F sc rfl fun cdv A outer s H E hr => ?_
  exact (Qh (Qy (i:=2) nd rfl (Or.inl rfl) (Zu Zt (Qa 0 (pv 0)) Qi (fun _ _=>rfl)))
      (Qh (Yo (i:=3) nd rfl rfl (N':=["rule"]) (nt:=1) (caps:=[]) (ts:=[0]) (ns:=[]) (ls:=[0]) rfl (XL (N:=YC) (osc:=(Qc QO)) rfl rfl (by decide +kernel)) (by decide) (Zc _) (Qfl (Qa 2 (pv 2))) (fun _ _ _ _ _ _=>(QK (Qx (i:=0) (show (["rule"]:List Str).Nodup by decide +kernel) rfl (Or.inl rfl)))) (fun _ _ _ _ _ _=>Qal) (fun _ _ _ _ _ _=>(Qn c_mask_of XC (hr.mono (by decide)) (by rfl) (Qb (Zu Zt (Qa 0 (pv 0)) Qi (fun _ _=>rfl)) Qf))))
      (Qh (Qy (i:=4) nd rfl (Or.inl rfl) (Qa 1 (pv 1)))
      (Qh (Xa (i:=5) nd rfl (Or.inl rfl) (ZN Qf))
      (Qh (Qy (i:=6) nd rfl (Or.inl rfl) QeS)
      (Qh (Qhy 1000 PassesOwn.never (QB (Qa 6 (pv 6))) (Qh (Qy (i:=6) nd rfl (Or.inl rfl) QeS)
      (Qm (QbU PassesOwn.never rfl (QhT rfl (by rfl) T.b_enumerate (Qb (Qa 2 (pv 2)) Qf)) (QcV (Qfi rfl (Yk (Qx (i:=7) nd rfl (Or.inl rfl)) (Yk (Qx (i:=8) nd rfl (Or.inl rfl)) QcR)))) (Qh (Qy (i:=9) nd rfl (Or.inl rfl) (Qo QcB Qi (Zu Zt (Qa 8 (pv 8)) Qi (fun _ _=>rfl))))
      (Qm (ZS (WM.tm (QbT (Qai (QB (Qn c_inside Zw (hr.mono (by decide)) (by rfl) (Qb (Qa 9 (pv 9)) (Qb (Qa 4 (pv 4)) Qf))))) (XX (QB (Qn c_inside Zw (hr.mono (by decide)) (by rfl) (Qb (Zu Zt (Qa 3 (pv 3)) (Qa 7 (pv 7)) (fun _ _=>rfl)) (Qb (Qa 4 (pv 4)) Qf))))))) (Qh (sm_aug (i:=4) nd rfl (Or.inl rfl) (Qa 9 (pv 9)) om_ior)
      (Qh (QaY (i:=5) (pv 5) (Qa 7 (pv 7)) (YD (Qda PySem.F.plainAttrs_list PySem.F.slot_list_append PySem.F.type_list_append ZP (pv 5) (YB (Qa 7 (pv 7))))))
      (Qm (Qy (i:=6) nd rfl (Or.inl rfl) QeS)))) Zd)))))))
      (Qm (QaE 5 (pv 5)))))))))
noncomputable abbrev Xk:Stmt:=top 9
noncomputable def Qgb:List Str:=["book","held"]
theorem QiI {P:Program} {w:World} {K:PySem.W.Frag} {mg:Str→Option Value} {base:Heap} {f:Addr} {fd:FuncData} (T:Txt mg) (c_known_after:Cal P w K mg base 2 "known_after" 3 ZA) (c_bringing_steps:Cal P w K mg base 2 "bringing_steps" 2 QP) (F:Fun K "yielded" "yielded" Xk f fd):FnOk P w K mg base CX0 3 f fd ["book","held"] (spM K 2 Yc):=by
  have sc:FnScope Qgb ["book","held"] (Qc Xk):=⟨rfl,rfl,rfl,by decide +kernel,rfl,by decide +kernel,by decide +kernel⟩
  have nd:=sc.nd
  refine fnM (N:=Qgb) (k:=2) F sc rfl fun cdv A outer s H E hr => ?_
  exact (Qm (QG (Qn c_known_after Qch (hr.mono (by decide)) (by rfl) (Qb (Qa 0 (pv 0)) (Qb (Qa 1 (pv 1)) (Qb (Qn c_bringing_steps QaI (hr.mono (by decide)) (by rfl) (Qb (Qa 0 (pv 0)) (Qb (Qa 1 (pv 1)) Qf))) Qf))))))
noncomputable abbrev ZX:Stmt:=top 12
noncomputable def Qcv:List Str:=["book","held","word"]
theorem QeX {P:Program} {w:World} {K:PySem.W.Frag} {mg:Str→Option Value} {base:Heap} {f:Addr} {fd:FuncData} (T:Txt mg) (c_inside:Cal P w K mg base 1 "inside" 2 QM) (c_yielded:Cal P w K mg base 3 "yielded" 2 Yc) (F:Fun K "does_yield" "does_yield" ZX f fd):FnOk P w K mg base CX0 4 f fd ["book","held","word"] (spM K 3 Zx):=by
  have sc:FnScope Qcv ["book","held","word"] (Qc ZX):=⟨rfl,rfl,rfl,by decide +kernel,rfl,by decide +kernel,by decide +kernel⟩
  have nd:=sc.nd
  refine fnM (N:=Qcv) (k:=3) F sc rfl fun cdv A outer s H E hr => ?_
  exact (Qm (QG (Qn c_inside Zw (hr.mono (by decide)) (by rfl) (Qb (Qo QcB Qi (Qa 2 (pv 2))) (Qb (Qn c_yielded Qby (hr.mono (by decide)) (by rfl) (Qb (Qa 0 (pv 0)) (Qb (Qa 1 (pv 1)) Qf))) Qf)))))
noncomputable abbrev YK:Stmt:=top 13
noncomputable def Qeq:List Str:=["book","within","word","reason","guess","smaller"]
theorem Qhh {P:Program} {w:World} {K:PySem.W.Frag} {mg:Str→Option Value} {base:Heap} {f:Addr} {fd:FuncData} (T:Txt mg) (c_places:Cal P w K mg base 1 "places" 1 YA) (c_does_yield:Cal P w K mg base 4 "does_yield" 3 Zx) (F:Fun K "a_reason" "a_reason" YK f fd):FnOk P w K mg base CX0 5 f fd ["book","within","word"] (spM K 3 QI):=by
  have sc:FnScope Qeq ["book","within","word"] (Qc YK):=⟨rfl,rfl,rfl,by decide +kernel,rfl,by decide +kernel,by decide +kernel⟩
  have nd:=sc.nd
  refine fnM (N:=Qeq) (k:=4) F sc rfl fun cdv A outer s H E hr => ?_
  exact (Qh (ZS (Qai (QB (Qn c_does_yield XQ (hr.mono (by decide)) (by rfl) (Qb (Qa 0 (pv 0)) (Qb (Qa 1 (pv 1)) (Qb (Qa 2 (pv 2)) Qf)))))) (Qm (QG Qfm)) Zd)
      (Qh (Qy (i:=3) nd rfl (Or.inl rfl) (Qa 1 (pv 1)))
      (Qh (QbU PassesOwn.never rfl (Qak (Qn c_places Qcp (hr.mono (by decide)) (by rfl) (Qb (Qa 1 (pv 1)) Qf))) (QK (Qx (i:=4) nd rfl (Or.inl rfl))) (Qh (Qy (i:=5) nd rfl (Or.inl rfl) (Qo QdR (Qa 3 (pv 3)) (em_inv (Qo QcB Qi (Qa 4 (pv 4))))))
      (Qm (ZS (QB (Qn c_does_yield XQ (hr.mono (by decide)) (by rfl) (Qb (Qa 0 (pv 0)) (Qb (Qa 5 (pv 5)) (Qb (Qa 2 (pv 2)) Qf))))) (Qm (Qy (i:=3) nd rfl (Or.inl rfl) (Qa 5 (pv 5)))) Zd))))
      (Qm (QaE 3 (pv 3))))))
noncomputable abbrev ZC:Stmt:=Zq (top 28) 0
noncomputable def QaW:List Str:=["self","word","name"]
theorem Ye {P:Program} {w:World} {K:PySem.W.Frag} {mg:Str→Option Value} {base:Heap} {f:Addr} {fd:FuncData} (T:Txt mg) {D:Addr} (W:TFld K D)  (F:Fun K "__init__" "Lot.__init__" ZC f fd):FnOk P w K mg base CX0 1 f fd ["self","word","name"] (spX K (ObjG K D "-") 3 Qr):=by
  have sc:FnScope QaW ["self","word","name"] (Qc ZC):=⟨rfl,rfl,rfl,by decide +kernel,rfl,by decide +kernel,by decide +kernel⟩
  have nd:=sc.nd
  refine fnX (N:=QaW) (k:=0) F sc rfl fun cdv A outer s H E hr => ?_
  exact (QbK (Qge (pv 0) W.fl_word (Qa 1 (pv 1)))
      (Qff (Qge (pv 0) W.fl_name (Qa 2 (pv 2)))))
noncomputable abbrev Zh:Stmt:=Zq (top 31) 0
noncomputable def XW:List Str:=["self","word","camp","reason","other"]
theorem Qck {P:Program} {w:World} {K:PySem.W.Frag} {mg:Str→Option Value} {base:Heap} {f:Addr} {fd:FuncData} (T:Txt mg) {D:Addr} (W:TFld K D) (c_Lot___init__:CalB P w K mg base 1 D "-" "Lot" "__init__" 3 Qr) (F:Fun K "__init__" "Maybe.__init__" Zh f fd):FnOk P w K mg base CX0 3 f fd ["self","word","camp","reason","other"] (spX K (ObjG K D "-") 5 QR):=by
  have sc:FnScope XW ["self","word","camp","reason","other"] (Qc Zh):=⟨rfl,rfl,rfl,by decide +kernel,rfl,by decide +kernel,by decide +kernel⟩
  have nd:=sc.nd
  refine fnX (N:=XW) (k:=2) F sc rfl fun cdv A outer s H E hr => ?_
  exact (QbK (Qlm c_Lot___init__ ZE (hr.mono (by decide)) (by rfl) (Qb (Qa 0 (pv 0)) (Qb (Qa 1 (pv 1)) (Qbd Qf))))
      (QbK (Qge (pv 0) W.fl_camp (Qa 2 (pv 2)))
      (QbK (Qge (pv 0) W.fl_reason (Qa 3 (pv 3)))
      (Qff (Qge (pv 0) W.fl_other (Qa 4 (pv 4)))))))
noncomputable abbrev QN:Stmt:=Zq (top 29) 0
noncomputable def Xi:List Str:=["self","word","reason"]
theorem Qbm {P:Program} {w:World} {K:PySem.W.Frag} {mg:Str→Option Value} {base:Heap} {f:Addr} {fd:FuncData} (T:Txt mg) {D:Addr} (W:TFld K D) (c_Lot___init__:CalB P w K mg base 1 D "-" "Lot" "__init__" 3 Qr) (F:Fun K "__init__" "Settled.__init__" QN f fd):FnOk P w K mg base CX0 3 f fd ["self","word","reason"] (spX K (ObjG K D "-") 3 QD):=by
  have sc:FnScope Xi ["self","word","reason"] (Qc QN):=⟨rfl,rfl,rfl,by decide +kernel,rfl,by decide +kernel,by decide +kernel⟩
  have nd:=sc.nd
  refine fnX (N:=Xi) (k:=2) F sc rfl fun cdv A outer s H E hr => ?_
  exact (QbK (Qlm c_Lot___init__ ZE (hr.mono (by decide)) (by rfl) (Qb (Qa 0 (pv 0)) (Qb (Qa 1 (pv 1)) (Qbd Qf))))
      (Qff (Qge (pv 0) W.fl_reason (Qa 2 (pv 2)))))
noncomputable abbrev Zr:Stmt:=Zq (top 30) 0
noncomputable def Qaq:List Str:=["self","word","pairs"]
theorem QcO {P:Program} {w:World} {K:PySem.W.Frag} {mg:Str→Option Value} {base:Heap} {f:Addr} {fd:FuncData} (T:Txt mg) {D:Addr} (W:TFld K D) (c_Lot___init__:CalB P w K mg base 1 D "-" "Lot" "__init__" 3 Qr) (F:Fun K "__init__" "Sure.__init__" Zr f fd):FnOk P w K mg base CX0 3 f fd ["self","word","pairs"] (spX K (ObjG K D "-") 3 Za):=by
  have sc:FnScope Qaq ["self","word","pairs"] (Qc Zr):=⟨rfl,rfl,rfl,by decide +kernel,rfl,by decide +kernel,by decide +kernel⟩
  have nd:=sc.nd
  refine fnX (N:=Qaq) (k:=2) F sc rfl fun cdv A outer s H E hr => ?_
  exact (QbK (Qlm c_Lot___init__ ZE (hr.mono (by decide)) (by rfl) (Qb (Qa 0 (pv 0)) (Qb (Qa 1 (pv 1)) (Qbd Qf))))
      (Qff (Qge (pv 0) W.fl_pairs (Qa 2 (pv 2)))))
noncomputable abbrev Zg:Stmt:=Zq (top 32) 0
noncomputable def XV:List Str:=["self","word"]
theorem Qcj {P:Program} {w:World} {K:PySem.W.Frag} {mg:Str→Option Value} {base:Heap} {f:Addr} {fd:FuncData} (T:Txt mg) {D:Addr} (W:TFld K D) (c_Lot___init__:CalB P w K mg base 1 D "-" "Lot" "__init__" 3 Qr) (F:Fun K "__init__" "Never.__init__" Zg f fd):FnOk P w K mg base CX0 3 f fd ["self","word"] (spX K (ObjG K D "-") 2 QQ):=by
  have sc:FnScope XV ["self","word"] (Qc Zg):=⟨rfl,rfl,rfl,by decide +kernel,rfl,by decide +kernel,by decide +kernel⟩
  have nd:=sc.nd
  refine fnX (N:=XV) (k:=2) F sc rfl fun cdv A outer s H E hr => ?_
  exact (Qff (Qlm c_Lot___init__ ZE (hr.mono (by decide)) (by rfl) (Qb (Qa 0 (pv 0)) (Qb (Qa 1 (pv 1)) (Qbd Qf)))))
noncomputable abbrev ZI:Stmt:=top 11
noncomputable def QbF:List Str:=["book"]
theorem QdY {P:Program} {w:World} {K:PySem.W.Frag} {mg:Str→Option Value} {base:Heap} {f:Addr} {fd:FuncData} (T:Txt mg)  (F:Fun K "all_guesses" "all_guesses" ZI f fd):FnOk P w K mg base CX0 1 f fd ["book"] (spM K 1 QT):=by
  have sc:FnScope QbF ["book"] (Qc ZI):=⟨rfl,rfl,rfl,by decide +kernel,rfl,by decide +kernel,by decide +kernel⟩
  have nd:=sc.nd
  refine fnM (N:=QbF) (k:=0) F sc rfl fun cdv A outer s H E hr => ?_
  exact (Qm (QG (Qo QdQ (Qo QcB Qi (Yn Qbc (by rfl) T.b_len PySem.boot_len (Qb (Zu Zt (Qa 0 (pv 0)) Qi (fun _ _=>rfl)) Qf))) Qi)))
noncomputable abbrev YY:Stmt:=top 15
noncomputable def QcL:List Str:=["book","held","known"]
theorem QkC {P:Program} {w:World} {K:PySem.W.Frag} {mg:Str→Option Value} {base:Heap} {f:Addr} {fd:FuncData} (T:Txt mg) (c_inside:Cal P w K mg base 1 "inside" 2 QM) (c_mask_of:Cal P w K mg base 1 "mask_of" 1 Zo) (c_yielded:Cal P w K mg base 3 "yielded" 2 Yc) (F:Fun K "struck" "struck" YY f fd):FnOk P w K mg base CX0 4 f fd ["book","held"] (spM K 2 Yz):=by
  have sc:FnScope QcL ["book","held"] (Qc YY):=⟨rfl,rfl,rfl,by decide +kernel,rfl,by decide +kernel,by decide +kernel⟩
  have nd:=sc.nd
  refine fnM (N:=QcL) (k:=3) F sc rfl fun cdv A outer s H E hr => ?_
  exact (Qh (Qy (i:=2) nd rfl (Or.inr rfl) (Qn c_yielded Qby (hr.mono (by decide)) (by rfl) (Qb (Qa 0 (pv 0)) (Qb (Qa 1 (pv 1)) Qf))))
      (Qm (QG (Qn c_mask_of XC (hr.mono (by decide)) (by rfl) (Qb (EO.em (Xr (X:=(cxOf CX0 P w K mg base QcL "struck" (Qc YY) f cdv A outer s H E).nox) (N':=["guess","bane","known"]) (nt:=2) (caps:=[2]) (ts:=[0,1]) (ns:=[1,2]) (ls:=[0]) rfl (XL (N:=QcL) (osc:=(Qc YY)) rfl rfl (by decide +kernel)) (by decide) (Qed _ _) (QhT rfl (by rfl) T.b_enumerate (Qb (Zu Zt (Qa 0 (pv 0)) Qi (fun _ _=>rfl)) Qf)) (fun _ _ _ _ _ _=>(QcV (Qfi rfl (Yk (Qx (i:=0) (show (["guess","bane","known"]:List Str).Nodup by decide +kernel) rfl (Or.inl rfl)) (Yk (Qx (i:=1) (show (["guess","bane","known"]:List Str).Nodup by decide +kernel) rfl (Or.inl rfl)) QcR))))) (fun _ _ _ _ _ _=>(QdT (QB (Qn c_inside Zw (hr.mono (by decide)) (by rfl) (Qb (Qo QcB Qi (Qa 1 (pv 1))) (Qb (Qa 2 (pv 2)) Qf)))))) (fun _ _ _ _ _ _=>(Qa 0 (pv 0))))) Qf)))))
noncomputable abbrev YH:Stmt:=top 16
noncomputable def Qen:List Str:=["book","held"]
theorem Qhe {P:Program} {w:World} {K:PySem.W.Frag} {mg:Str→Option Value} {base:Heap} {f:Addr} {fd:FuncData} (T:Txt mg) (c_all_guesses:Cal P w K mg base 1 "all_guesses" 1 QT) (c_struck:Cal P w K mg base 4 "struck" 2 Yz) (F:Fun K "unstruck" "unstruck" YH f fd):FnOk P w K mg base CX0 5 f fd ["book","held"] (spM K 2 ZU):=by
  have sc:FnScope Qen ["book","held"] (Qc YH):=⟨rfl,rfl,rfl,by decide +kernel,rfl,by decide +kernel,by decide +kernel⟩
  have nd:=sc.nd
  refine fnM (N:=Qen) (k:=4) F sc rfl fun cdv A outer s H E hr => ?_
  exact (Qm (QG (Qo QdR (Qn c_all_guesses Xu (hr.mono (by decide)) (by rfl) (Qb (Qa 0 (pv 0)) Qf)) (em_inv (Qn c_struck Qco (hr.mono (by decide)) (by rfl) (Qb (Qa 0 (pv 0)) (Qb (Qa 1 (pv 1)) Qf)))))))
noncomputable abbrev YI:Stmt:=top 18
noncomputable def Qeo:List Str:=["book","held"]
theorem Qhf {P:Program} {w:World} {K:PySem.W.Frag} {mg:Str→Option Value} {base:Heap} {f:Addr} {fd:FuncData} (T:Txt mg) (c_unstruck:Cal P w K mg base 5 "unstruck" 2 ZU) (F:Fun K "defended" "defended" YI f fd):FnOk P w K mg base CX0 6 f fd ["book","held"] (spM K 2 Zb):=by
  have sc:FnScope Qeo ["book","held"] (Qc YI):=⟨rfl,rfl,rfl,by decide +kernel,rfl,by decide +kernel,by decide +kernel⟩
  have nd:=sc.nd
  refine fnM (N:=Qeo) (k:=5) F sc rfl fun cdv A outer s H E hr => ?_
  exact (Qm (QG (Qn c_unstruck QaL (hr.mono (by decide)) (by rfl) (Qb (Qa 0 (pv 0)) (Qb (Qn c_unstruck QaL (hr.mono (by decide)) (by rfl) (Qb (Qa 0 (pv 0)) (Qb (Qa 1 (pv 1)) Qf))) Qf)))))
noncomputable abbrev Qae:Stmt:=top 23
noncomputable def Qir:List Str:=["book","held","sets"]
theorem QkE {P:Program} {w:World} {K:PySem.W.Frag} {mg:Str→Option Value} {base:Heap} {f:Addr} {fd:FuncData} (T:Txt mg) (c_defended:Cal P w K mg base 6 "defended" 2 Zb) (F:Fun K "rounds" "rounds" Qae f fd):FnOk P w K mg base CX0 7 f fd ["book"] (spM K 1 Xt):=by
  have sc:FnScope Qir ["book"] (Qc Qae):=⟨rfl,rfl,rfl,by decide +kernel,rfl,by decide +kernel,by decide +kernel⟩
  have nd:=sc.nd
  refine fnM (N:=Qir) (k:=6) F sc rfl fun cdv A outer s H E hr => ?_
  exact (Qh (Qy (i:=1) nd rfl (Or.inl rfl) Qi)
      (Qh (Xa (i:=2) nd rfl (Or.inl rfl) (ZN (Qb (Qa 1 (pv 1)) Qf)))
      (Qh (Qhy 1000 PassesOwn.never (Zj (om_ne hr.units) (Qn c_defended Xj (hr.mono (by decide)) (by rfl) (Qb (Qa 0 (pv 0)) (Qb (Qa 1 (pv 1)) Qf))) (Qa 1 (pv 1)) (Zl _)) (Qh (Qy (i:=1) nd rfl (Or.inl rfl) (Qn c_defended Xj (hr.mono (by decide)) (by rfl) (Qb (Qa 0 (pv 0)) (Qb (Qa 1 (pv 1)) Qf))))
      (Qm (QaY (i:=2) (pv 2) (Qa 1 (pv 1)) (YD (Qda PySem.F.plainAttrs_list PySem.F.slot_list_append PySem.F.type_list_append ZP (pv 2) (YB (Qa 1 (pv 1)))))))))
      (Qm (QaE 2 (pv 2))))))
noncomputable abbrev Xl:Stmt:=top 24
noncomputable def Qgc:List Str:=["sets","guess","number","held"]
theorem QiK {P:Program} {w:World} {K:PySem.W.Frag} {mg:Str→Option Value} {base:Heap} {f:Addr} {fd:FuncData} (T:Txt mg) (c_inside:Cal P w K mg base 1 "inside" 2 QM) (F:Fun K "rank_in" "rank_in" Xl f fd):FnOk P w K mg base CX0 2 f fd ["sets","guess"] (spM K 2 YQ):=by
  have sc:FnScope Qgc ["sets","guess"] (Qc Xl):=⟨rfl,rfl,rfl,by decide +kernel,rfl,by decide +kernel,by decide +kernel⟩
  have nd:=sc.nd
  refine fnM (N:=Qgc) (k:=1) F sc rfl fun cdv A outer s H E hr => ?_
  exact (Qh (QbU PassesOwn.never rfl (im_enumL rfl (by rfl) T.b_enumerate (Qb (Qa 0 (pv 0)) Qf)) (QcV (Qfi rfl (Yk (Qx (i:=2) nd rfl (Or.inl rfl)) (Yk (Qx (i:=3) nd rfl (Or.inl rfl)) QcR)))) (Qm (ZS (QB (Qn c_inside Zw (hr.mono (by decide)) (by rfl) (Qb (Qo QcB Qi (Qa 1 (pv 1))) (Qb (Qa 3 (pv 3)) Qf)))) (Qm (QaE 2 (pv 2))) Zd)))
      (Qm (QG Qfm)))
noncomputable abbrev YN:Stmt:=top 25
noncomputable def Qdq:List Str:=["book","sets","ranks"]
theorem QiJ {P:Program} {w:World} {K:PySem.W.Frag} {mg:Str→Option Value} {base:Heap} {f:Addr} {fd:FuncData} (T:Txt mg) (c_rounds:Cal P w K mg base 7 "rounds" 1 Xt) (c_rank_in:Cal P w K mg base 2 "rank_in" 2 YQ) (F:Fun K "settled" "settled" YN f fd):FnOk P w K mg base CX0 8 f fd ["book"] (spM K 1 YO):=by
  have sc:FnScope Qdq ["book"] (Qc YN):=⟨rfl,rfl,rfl,by decide +kernel,rfl,by decide +kernel,by decide +kernel⟩
  have nd:=sc.nd
  refine fnM (N:=Qdq) (k:=7) F sc rfl fun cdv A outer s H E hr => ?_
  exact (Qh (Qy (i:=1) nd rfl (Or.inr rfl) (Qn c_rounds Qgl (hr.mono (by decide)) (by rfl) (Qb (Qa 0 (pv 0)) Qf)))
      (Qh (Yo (i:=2) nd rfl rfl (N':=["guess","sets"]) (nt:=1) (caps:=[1]) (ts:=[0]) (ns:=[]) (ls:=[1,0]) rfl (XL (N:=Qdq) (osc:=(Qc YN)) rfl rfl (by decide +kernel)) (by decide) (Zc _) (Xo (by rfl) T.b_range (Qb (Yn Qbc (by rfl) T.b_len PySem.boot_len (Qb (Zu Zt (Qa 0 (pv 0)) Qi (fun _ _=>rfl)) Qf)) Qf)) (fun _ _ _ _ _ _=>(QK (Qx (i:=0) (show (["guess","sets"]:List Str).Nodup by decide +kernel) rfl (Or.inl rfl)))) (fun _ _ _ _ _ _=>Qal) (fun _ _ _ _ _ _=>(Qn c_rank_in QeV (hr.mono (by decide)) (by rfl) (Qb (Qa 1 (pv 1)) (Qb (Qa 0 (pv 0)) Qf)))))
      (Qm (QG (Yu (Qb (Zu Zt (Qa 1 (pv 1)) (QgU Qi) (fun _ _=>rfl)) (Qb (YR Xx (by rfl) T.b_tuple (by kernel_rfl) (Qb (Qa 2 (pv 2)) Qf)) Qf)))))))
noncomputable abbrev YJ:Stmt:=top 17
noncomputable def Qep:List Str:=["book","held"]
theorem Qhg {P:Program} {w:World} {K:PySem.W.Frag} {mg:Str→Option Value} {base:Heap} {f:Addr} {fd:FuncData} (T:Txt mg) (c_struck:Cal P w K mg base 4 "struck" 2 Yz) (F:Fun K "at_peace" "at_peace" YJ f fd):FnOk P w K mg base CX0 5 f fd ["book","held"] (spM K 2 Yp):=by
  have sc:FnScope Qep ["book","held"] (Qc YJ):=⟨rfl,rfl,rfl,by decide +kernel,rfl,by decide +kernel,by decide +kernel⟩
  have nd:=sc.nd
  refine fnM (N:=Qep) (k:=4) F sc rfl fun cdv A outer s H E hr => ?_
  exact (Qm (QG (QjE (QaC hr.units) (Qo QdR (Qa 1 (pv 1)) (Qn c_struck Qco (hr.mono (by decide)) (by rfl) (Qb (Qa 0 (pv 0)) (Qb (Qa 1 (pv 1)) Qf)))) Qi (Zl _))))
noncomputable abbrev Qad:Stmt:=top 19
noncomputable def Qiq:List Str:=["book","held"]
theorem QkD {P:Program} {w:World} {K:PySem.W.Frag} {mg:Str→Option Value} {base:Heap} {f:Addr} {fd:FuncData} (T:Txt mg) (c_inside:Cal P w K mg base 1 "inside" 2 QM) (c_defended:Cal P w K mg base 6 "defended" 2 Zb) (c_at_peace:Cal P w K mg base 5 "at_peace" 2 Yp) (F:Fun K "stands" "stands" Qad f fd):FnOk P w K mg base CX0 7 f fd ["book","held"] (spM K 2 Xs):=by
  have sc:FnScope Qiq ["book","held"] (Qc Qad):=⟨rfl,rfl,rfl,by decide +kernel,rfl,by decide +kernel,by decide +kernel⟩
  have nd:=sc.nd
  refine fnM (N:=Qiq) (k:=6) F sc rfl fun cdv A outer s H E hr => ?_
  exact (Qm (QG (em_and (Qn c_at_peace QdW (hr.mono (by decide)) (by rfl) (Qb (Qa 0 (pv 0)) (Qb (Qa 1 (pv 1)) Qf))) (em_one (Qn c_inside Zw (hr.mono (by decide)) (by rfl) (Qb (Qa 1 (pv 1)) (Qb (Qn c_defended Xj (hr.mono (by decide)) (by rfl) (Qb (Qa 0 (pv 0)) (Qb (Qa 1 (pv 1)) Qf))) Qf)))))))
noncomputable abbrev Xb:Stmt:=top 21
noncomputable def QbQ:List Str:=["book","holding","found","held","in_another"]
theorem ok_camps {P:Program} {w:World} {K:PySem.W.Frag} {mg:Str→Option Value} {base:Heap} {f:Addr} {fd:FuncData} (T:Txt mg) (c_inside:Cal P w K mg base 1 "inside" 2 QM) (c_all_guesses:Cal P w K mg base 1 "all_guesses" 1 QT) (c_stands:Cal P w K mg base 7 "stands" 2 Xs) (F:FunD K "camps" "camps" Xb f fd 0):FnOk P w K mg base CX0 8 f fd ["book","holding"] (spM K 2 QaG):=by
  have sc:FnScope QbQ ["book","holding"] (Qc Xb):=⟨rfl,rfl,rfl,by decide +kernel,rfl,by decide +kernel,by decide +kernel⟩
  have nd:=sc.nd
  refine fnMD (N:=QbQ) (k:=7) F sc rfl fun cdv A outer s H E hr => ?_
  exact (Qh (Xa (i:=2) nd rfl (Or.inl rfl) (ZN Qf))
      (Qh (Qet PassesOwn.never rfl (QiX (by rfl) T.b_range (Qb (Qn c_all_guesses Xu (hr.mono (by decide)) (by rfl) (Qb (Qa 0 (pv 0)) Qf)) (Qb (QgU Qi) (Qb (QgU Qi) Qf)))) (QK (Qx (i:=3) nd rfl (Or.inr rfl))) (Qh (Qy (i:=4) nd rfl (Or.inl rfl) (Yn (cm_any rfl) (by rfl) T.b_any (by kernel_rfl) (Qb (EO.em (Xr (X:=(cxOf CX0 P w K mg base QbQ "camps" (Qc Xb) f cdv A outer s H E).nox) (N':=["camp","held"]) (nt:=1) (caps:=[3]) (ts:=[0]) (ns:=[]) (ls:=[1,0]) rfl (XL (N:=QbQ) (osc:=(Qc Xb)) rfl rfl (by decide +kernel)) (by decide) (Zc _) (Qak (Qa 2 (pv 2))) (fun _ _ _ _ _ _=>(QK (Qx (i:=0) (show (["camp","held"]:List Str).Nodup by decide +kernel) rfl (Or.inl rfl)))) (fun _ _ _ _ _ _=>Qal) (fun _ _ _ _ _ _=>(Qn c_inside Zw (hr.mono (by decide)) (by rfl) (Qb (Qa 1 (pv 1)) (Qb (Qa 0 (pv 0)) Qf)))))) Qf)))
      (Qm (ZS (WM.tm (QbT (Qai (QB (Qa 4 (pv 4)))) (XX (QB (Qn c_stands Qgk (hr.mono (by decide)) (by rfl) (Qb (Qa 0 (pv 0)) (Qb (Qa 3 (pv 3)) Qf))))))) (Qm (QaY (i:=2) (pv 2) (Qa 3 (pv 3)) (YD (Qda PySem.F.plainAttrs_list PySem.F.slot_list_append PySem.F.type_list_append ZP (pv 2) (YB (Qa 3 (pv 3))))))) Zd))))
      (Qm (QG (YR Xx (by rfl) T.b_tuple (by kernel_rfl) (Qb (EO.em (Xr (X:=(cxOf CX0 P w K mg base QbQ "camps" (Qc Xb) f cdv A outer s H E).nox) (N':=["camp","holding"]) (nt:=1) (caps:=[1]) (ts:=[0]) (ns:=[1,0]) (ls:=[0]) rfl (XL (N:=QbQ) (osc:=(Qc Xb)) rfl rfl (by decide +kernel)) (by decide) (Zc _) (im_revL rfl (by rfl) T.b_reversed (Qb (Qa 2 (pv 2)) Qf)) (fun _ _ _ _ _ _=>(QK (Qx (i:=0) (show (["camp","holding"]:List Str).Nodup by decide +kernel) rfl (Or.inl rfl)))) (fun _ _ _ _ _ _=>(QdT (QB (Qn c_inside Zw (hr.mono (by decide)) (by rfl) (Qb (Qa 1 (pv 1)) (Qb (Qa 0 (pv 0)) Qf)))))) (fun _ _ _ _ _ _=>(Qa 0 (pv 0))))) Qf))))))
noncomputable abbrev QdI:Stmt:=top 33
noncomputable def Qjs:List Str:=["book","word","reason","pairs","yielding","others"]
theorem ok_lot {P:Program} {w:World} {K:PySem.W.Frag} {mg:Str→Option Value} {base:Heap} {f:Addr} {fd:FuncData} (T:Txt mg) {C:Nat→Addr} (W:WFam K mg C) (c_a_reason:Cal P w K mg base 5 "a_reason" 3 QI) (c_Maybe___init__:QdL P w K mg base 3 (C 3) "-" "Maybe" 5 QR) (c_Settled___init__:QdL P w K mg base 3 (C 1) "-" "Settled" 3 QD) (c_Sure___init__:QdL P w K mg base 3 (C 2) "-" "Sure" 3 Za) (c_Never___init__:QdL P w K mg base 3 (C 4) "-" "Never" 2 QQ) (c_settled:Cal P w K mg base 8 "settled" 1 YO) (c_camps:CalD P w K mg base 8 "camps" 2 0 QaG) (F:Fun K "lot" "lot" QdI f fd):FnOk P w K mg base CX0 9 f fd ["book","word"] (spM K 2 (Qgf C)):=by
  have sc:FnScope Qjs ["book","word"] (Qc QdI):=⟨rfl,rfl,rfl,by decide +kernel,rfl,by decide +kernel,by decide +kernel⟩
  have nd:=sc.nd
  refine fnM (N:=Qjs) (k:=8) F sc rfl fun cdv A outer s H E hr => ?_
  exact (Qh (Qy (i:=2) nd rfl (Or.inl rfl) (Qn c_a_reason QaM (hr.mono (by decide)) (by rfl) (Qb (Qa 0 (pv 0)) (Qb (Zu Zt (Qn c_settled QeU (hr.mono (by decide)) (by rfl) (Qb (Qa 0 (pv 0)) Qf)) Qi (fun _ _=>rfl)) (Qb (Qa 1 (pv 1)) Qf)))))
      (Qh (ZS (Zj QhI (Qa 2 (pv 2)) Qfm (Zl _)) (Qm (QG (QgT c_Settled___init__ XY (hr.mono (by decide)) (by rfl) (Qb (Qa 1 (pv 1)) (Qb (Qa 2 (pv 2)) Qf))))) Zd)
      (Qh (Yo (i:=3) nd rfl rfl (N':=["camp","book","word"]) (nt:=1) (caps:=[0,1]) (ts:=[0]) (ns:=[]) (ls:=[0,1,0,2]) rfl (XL (N:=Qjs) (osc:=(Qc QdI)) rfl rfl (by decide +kernel)) (by decide) (Zc _) (Qfl (em_calD c_camps QgZ (hr.mono (by decide)) (by rfl) (Qb (Qa 0 (pv 0)) Qf))) (fun _ _ _ _ _ _=>(QK (Qx (i:=0) (show (["camp","book","word"]:List Str).Nodup by decide +kernel) rfl (Or.inl rfl)))) (fun _ _ _ _ _ _=>Qal) (fun _ _ _ _ _ _=>(Yu (Qb (Qa 0 (pv 0)) (Qb (Qn c_a_reason QaM (hr.mono (by decide)) (by rfl) (Qb (Qa 1 (pv 1)) (Qb (Qa 0 (pv 0)) (Qb (Qa 2 (pv 2)) Qf)))) Qf)))))
      (Qh (Yo (i:=4) nd rfl rfl (N':=["pair"]) (nt:=1) (caps:=[]) (ts:=[0]) (ns:=([0]++[])) (ls:=[0]) rfl (XL (N:=Qjs) (osc:=(Qc QdI)) rfl rfl (by decide +kernel)) (by decide) (Zc _) (Qak (Qa 3 (pv 3))) (fun _ _ _ _ _ _=>(QK (Qx (i:=0) (show (["pair"]:List Str).Nodup by decide +kernel) rfl (Or.inl rfl)))) (fun _ _ _ _ _ _=>(QdT (Zj QhI (Zu Zt (Qa 0 (pv 0)) Qi (fun _ _=>rfl)) Qfm (Zl _)))) (fun _ _ _ _ _ _=>(Qa 0 (pv 0))))
      (Qh (Yo (i:=5) nd rfl rfl (N':=["pair"]) (nt:=1) (caps:=[]) (ts:=[0]) (ns:=([0]++[])) (ls:=[0]) rfl (XL (N:=Qjs) (osc:=(Qc QdI)) rfl rfl (by decide +kernel)) (by decide) (Zc _) (Qak (Qa 3 (pv 3))) (fun _ _ _ _ _ _=>(QK (Qx (i:=0) (show (["pair"]:List Str).Nodup by decide +kernel) rfl (Or.inl rfl)))) (fun _ _ _ _ _ _=>(QdT (Zj om_is (Zu Zt (Qa 0 (pv 0)) Qi (fun _ _=>rfl)) Qfm (Zl _)))) (fun _ _ _ _ _ _=>(Zu Zt (Qa 0 (pv 0)) Qi (fun _ _=>rfl))))
      (Qh (ZS (Qai (QB (Qa 5 (pv 5)))) (Qm (QG (QgT c_Sure___init__ Qbl (hr.mono (by decide)) (by rfl) (Qb (Qa 1 (pv 1)) (Qb (YR Xx (by rfl) T.b_tuple (by kernel_rfl) (Qb (Qa 4 (pv 4)) Qf)) Qf))))) Zd)
      (Qh (ZS (Qai (QB (Qa 4 (pv 4)))) (Qm (QG (QgT c_Never___init__ QaJ (hr.mono (by decide)) (by rfl) (Qb (Qa 1 (pv 1)) Qf)))) Zd)
      (Qm (QG (QgT c_Maybe___init__ QaK (hr.mono (by decide)) (by rfl) (Qb (Qa 1 (pv 1)) (Qb (Zu Zt (Zu Zt (Qa 4 (pv 4)) Qi (fun _ _=>rfl)) Qi (fun _ _=>rfl)) (Qb (Zu Zt (Zu Zt (Qa 4 (pv 4)) Qi (fun _ _=>rfl)) Qi (fun _ _=>rfl)) (Qb (Zu Zt (Qa 5 (pv 5)) Qi (fun _ _=>rfl)) Qf))))))))))))))
noncomputable abbrev ZT:Stmt:=top 41
noncomputable def QaA:List Str:=["names","mask"]
theorem Qhi {P:Program} {w:World} {K:PySem.W.Frag} {mg:Str→Option Value} {base:Heap} {f:Addr} {fd:FuncData} (T:Txt mg)  (F:Fun K "_law_set" "_law_set" ZT f fd):FnOk P w K mg base CX0 1 f fd ["names","mask"] (spM K 2 QE):=by
  have sc:FnScope QaA ["names","mask"] (Qc ZT):=⟨rfl,rfl,rfl,by decide +kernel,rfl,by decide +kernel,by decide +kernel⟩
  have nd:=sc.nd
  refine fnM (N:=QaA) (k:=0) F sc rfl fun cdv A outer s H E hr => ?_
  exact (Qm (QG (Qo Qu (Qo Qu Yb (QgD Yb (Qb (EO.em (Xr (X:=(cxOf CX0 P w K mg base QaA "_law_set" (Qc ZT) f cdv A outer s H E).nox) (N':=["k","mask","names"]) (nt:=1) (caps:=[1,0]) (ts:=[0]) (ns:=([1,0]++[])) (ls:=[2,0]) rfl (XL (N:=QaA) (osc:=(Qc ZT)) rfl rfl (by decide +kernel)) (by decide) (Zc _) (Xo (by rfl) T.b_range (Qb (Yn Qbc (by rfl) T.b_len PySem.boot_len (Qb (Qa 0 (pv 0)) Qf)) Qf)) (fun _ _ _ _ _ _=>(QK (Qx (i:=0) (show (["k","mask","names"]:List Str).Nodup by decide +kernel) rfl (Or.inl rfl)))) (fun _ _ _ _ _ _=>(QdT (Zj (QaC (by exact hr.units)) (Qo QdR (Qo om_shr (Qa 1 (pv 1)) (Qa 0 (pv 0))) Qi) Qi (Zl _)))) (fun _ _ _ _ _ _=>(Zu Zt (Qa 2 (pv 2)) (Qa 0 (pv 0)) (fun _ _=>rfl))))) Qf))) Yb)))
noncomputable abbrev YL:Stmt:=top 42
noncomputable def Qer:List Str:=["found","names","rows","camp","reason","first"]
theorem Qhj {P:Program} {w:World} {K:PySem.W.Frag} {mg:Str→Option Value} {base:Heap} {f:Addr} {fd:FuncData} (T:Txt mg) {C:Nat→Addr} (W:WFam K mg C) (c__law_set:Cal P w K mg base 1 "_law_set" 2 QE) (F:Fun K "_law_due" "_law_due" YL f fd):FnOk P w K mg base CX0 2 f fd ["found","names"] (spM K 2 (QV C)):=by
  have sc:FnScope Qer ["found","names"] (Qc YL):=⟨rfl,rfl,rfl,by decide +kernel,rfl,by decide +kernel,by decide +kernel⟩
  have nd:=sc.nd
  refine fnM (N:=Qer) (k:=1) F sc rfl fun cdv A outer s H E hr => ?_
  exact (Qh (ZS (QB (Qew (x := "Settled") W.is_Settled (Qa 0 (pv 0)) (by rfl) T.b_isinstance (by rfl) W.mg_Settled)) (Qm (Xq (ZN (Qb (Qo Qu Yb (Qn c__law_set QF (hr.mono (by decide)) (by rfl) (Qb (Qa 1 (pv 1)) (Qb (ZV (Qa 0 (pv 0)) (fun D h=>(W.fl D h).fl_reason)) Qf)))) Qf)))) Zd)
      (Qh (ZS (QB (Qew (x := "Sure") W.is_Sure (Qa 0 (pv 0)) (by rfl) T.b_isinstance (by rfl) W.mg_Sure)) (Qh (Xa (i:=2) nd rfl (Or.inl rfl) (ZN (Qbd Qf)))
      (Qh (QbU PassesOwn.never rfl (Qfl (ZV (Qa 0 (pv 0)) (fun D h=>(W.fl D h).fl_pairs))) (QcV (Qfi rfl (Yk (Qx (i:=3) nd rfl (Or.inl rfl)) (Yk (Qx (i:=4) nd rfl (Or.inl rfl)) QcR)))) (Qm (QaY (i:=2) (pv 2) (Qo Qu (Qo Qu (Qn c__law_set QF (hr.mono (by decide)) (by rfl) (Qb (Qa 1 (pv 1)) (Qb (Qa 3 (pv 3)) Qf))) Yb) (Qn c__law_set QF (hr.mono (by decide)) (by rfl) (Qb (Qa 1 (pv 1)) (Qb (Qa 4 (pv 4)) Qf)))) (YD (Qda PySem.F.plainAttrs_list PySem.F.slot_list_append PySem.F.type_list_append ZP (pv 2) (YB (Qo Qu (Qo Qu (Qn c__law_set QF (hr.mono (by decide)) (by rfl) (Qb (Qa 1 (pv 1)) (Qb (Qa 3 (pv 3)) Qf))) Yb) (Qn c__law_set QF (hr.mono (by decide)) (by rfl) (Qb (Qa 1 (pv 1)) (Qb (Qa 4 (pv 4)) Qf))))))))))
      (Qm (QaE 2 (pv 2))))) Zd)
      (Qh (ZS (QB (Qew (x := "Maybe") W.is_Maybe (Qa 0 (pv 0)) (by rfl) T.b_isinstance (by rfl) W.mg_Maybe)) (Qh (Qy (i:=5) nd rfl (Or.inl rfl) (Qo Qu (Qo Qu (Qn c__law_set QF (hr.mono (by decide)) (by rfl) (Qb (Qa 1 (pv 1)) (Qb (ZV (Qa 0 (pv 0)) (fun D h=>(W.fl D h).fl_camp)) Qf))) Yb) (Qn c__law_set QF (hr.mono (by decide)) (by rfl) (Qb (Qa 1 (pv 1)) (Qb (ZV (Qa 0 (pv 0)) (fun D h=>(W.fl D h).fl_reason)) Qf)))))
      (Qm (Xq (ZN (Qb Yb (Qb (Qa 5 (pv 5)) (Qb (Qn c__law_set QF (hr.mono (by decide)) (by rfl) (Qb (Qa 1 (pv 1)) (Qb (ZV (Qa 0 (pv 0)) (fun D h=>(W.fl D h).fl_other)) Qf))) Qf))))))) Zd)
      (Qh (ZS (QB (Qew (x := "Never") W.is_Never (Qa 0 (pv 0)) (by rfl) T.b_isinstance (by rfl) W.mg_Never)) (Qm (Xq (ZN (Qbd Qf)))) Zd)
      (Qm (Xq (ZN Qf)))))))
noncomputable abbrev ZF:Stmt:=top 5
noncomputable def XA:List Str:=["names","mask"]
theorem Qgm {P:Program} {w:World} {K:PySem.W.Frag} {mg:Str→Option Value} {base:Heap} {f:Addr} {fd:FuncData} (T:Txt mg) (c_places:Cal P w K mg base 1 "places" 1 YA) (F:Fun K "shown_set" "shown_set" ZF f fd):FnOk P w K mg base CX0 2 f fd ["names","mask"] (spM K 2 QL):=by
  have sc:FnScope XA ["names","mask"] (Qc ZF):=⟨rfl,rfl,rfl,by decide +kernel,rfl,by decide +kernel,by decide +kernel⟩
  have nd:=sc.nd
  refine fnM (N:=XA) (k:=1) F sc rfl fun cdv A outer s H E hr => ?_
  exact (Qm (QG (Qo Qu (Qo Qu Yb (QgD Yb (Qb (EO.em (Xr (X:=(cxOf CX0 P w K mg base XA "shown_set" (Qc ZF) f cdv A outer s H E).nox) (N':=["k","names"]) (nt:=1) (caps:=[0]) (ts:=[0]) (ns:=[]) (ls:=[1,0]) rfl (XL (N:=XA) (osc:=(Qc ZF)) rfl rfl (by decide +kernel)) (by decide) (Zc _) (Qak (Qn c_places Qcp (hr.mono (by decide)) (by rfl) (Qb (Qa 1 (pv 1)) Qf))) (fun _ _ _ _ _ _=>(QK (Qx (i:=0) (show (["k","names"]:List Str).Nodup by decide +kernel) rfl (Or.inl rfl)))) (fun _ _ _ _ _ _=>Qal) (fun _ _ _ _ _ _=>(Zu Zt (Qa 1 (pv 1)) (Qa 0 (pv 0)) (fun _ _=>rfl))))) Qf))) Yb)))
noncomputable abbrev Zs:Stmt:=Zq (top 29) 1
noncomputable def Qar:List Str:=["self","names"]
theorem QcP {P:Program} {w:World} {K:PySem.W.Frag} {mg:Str→Option Value} {base:Heap} {f:Addr} {fd:FuncData} (T:Txt mg) {C:Nat→Addr} (W:WFam K mg C) (c_shown_set:Cal P w K mg base 2 "shown_set" 2 QL) (F:Fun K "shown" "Settled.shown" Zs f fd):FnOk P w K mg base CX0 3 f fd ["self","names"] (spO K 2 (QC C)):=by
  have sc:FnScope Qar ["self","names"] (Qc Zs):=⟨rfl,rfl,rfl,by decide +kernel,rfl,by decide +kernel,by decide +kernel⟩
  have nd:=sc.nd
  refine fnO (N:=Qar) (k:=2) F sc rfl fun cdv A outer s H E hr => ?_
  exact (Qm (Xq (ZN (Qb (Qo Qu (Qo Qu (ZV (Qa 0 (pv 0)) (fun D h=>(W.fl D h).fl_name)) Yb) (Qn c_shown_set Yd (hr.mono (by decide)) (by rfl) (Qb (Qa 1 (pv 1)) (Qb (ZV (Qa 0 (pv 0)) (fun D h=>(W.fl D h).fl_reason)) Qf)))) Qf))))
noncomputable abbrev ZW:Stmt:=top 27
noncomputable def Qcu:List Str:=["names","camp","reason"]
theorem QeW {P:Program} {w:World} {K:PySem.W.Frag} {mg:Str→Option Value} {base:Heap} {f:Addr} {fd:FuncData} (T:Txt mg) (c_shown_set:Cal P w K mg base 2 "shown_set" 2 QL) (F:Fun K "shown_pair" "shown_pair" ZW f fd):FnOk P w K mg base CX0 3 f fd ["names","camp","reason"] (spM K 3 Ze):=by
  have sc:FnScope Qcu ["names","camp","reason"] (Qc ZW):=⟨rfl,rfl,rfl,by decide +kernel,rfl,by decide +kernel,by decide +kernel⟩
  have nd:=sc.nd
  refine fnM (N:=Qcu) (k:=2) F sc rfl fun cdv A outer s H E hr => ?_
  exact (Qm (QG (Qo Qu (Qo Qu (Qn c_shown_set Yd (hr.mono (by decide)) (by rfl) (Qb (Qa 0 (pv 0)) (Qb (Qa 1 (pv 1)) Qf))) Yb) (Qn c_shown_set Yd (hr.mono (by decide)) (by rfl) (Qb (Qa 0 (pv 0)) (Qb (Qa 2 (pv 2)) Qf))))))
noncomputable abbrev Zv:Stmt:=Zq (top 30) 1
noncomputable def Xe:List Str:=["self","names"]
theorem Qfb {P:Program} {w:World} {K:PySem.W.Frag} {mg:Str→Option Value} {base:Heap} {f:Addr} {fd:FuncData} (T:Txt mg) {C:Nat→Addr} (W:WFam K mg C) (c_shown_pair:Cal P w K mg base 3 "shown_pair" 3 Ze) (F:Fun K "shown" "Sure.shown" Zv f fd):FnOk P w K mg base CX0 4 f fd ["self","names"] (spO K 2 (Zf C)):=by
  have sc:FnScope Xe ["self","names"] (Qc Zv):=⟨rfl,rfl,rfl,by decide +kernel,rfl,by decide +kernel,by decide +kernel⟩
  have nd:=sc.nd
  refine fnO (N:=Xe) (k:=3) F sc rfl fun cdv A outer s H E hr => ?_
  exact (Qm (Xq (Qly QgN (EO.em (ZN (Qb (ZV (Qa 0 (pv 0)) (fun D h=>(W.fl D h).fl_name)) Qf))) (EO.em (Xr (X:=(cxOf CX0 P w K mg base Xe "Sure.shown" (Qc Zv) f cdv A outer s H E).nox) (N':=["camp","reason","names"]) (nt:=2) (caps:=[1]) (ts:=[0,1]) (ns:=[]) (ls:=[2,0,1]) rfl (XL (N:=Xe) (osc:=(Qc Zv)) rfl rfl (by decide +kernel)) (by decide) (Qed _ _) (Qfl (ZV (Qa 0 (pv 0)) (fun D h=>(W.fl D h).fl_pairs))) (fun _ _ _ _ _ _=>(QcV (Qfi rfl (Yk (Qx (i:=0) (show (["camp","reason","names"]:List Str).Nodup by decide +kernel) rfl (Or.inl rfl)) (Yk (Qx (i:=1) (show (["camp","reason","names"]:List Str).Nodup by decide +kernel) rfl (Or.inl rfl)) QcR))))) (fun _ _ _ _ _ _=>Qal) (fun _ _ _ _ _ _=>(Qn c_shown_pair XO (hr.mono (by decide)) (by rfl) (Qb (Qa 2 (pv 2)) (Qb (Qa 0 (pv 0)) (Qb (Qa 1 (pv 1)) Qf))))))))))
noncomputable abbrev ZJ:Stmt:=Zq (top 31) 1
noncomputable def QbG:List Str:=["self","names"]
theorem QdZ {P:Program} {w:World} {K:PySem.W.Frag} {mg:Str→Option Value} {base:Heap} {f:Addr} {fd:FuncData} (T:Txt mg) {C:Nat→Addr} (W:WFam K mg C) (c_shown_set:Cal P w K mg base 2 "shown_set" 2 QL) (c_shown_pair:Cal P w K mg base 3 "shown_pair" 3 Ze) (F:Fun K "shown" "Maybe.shown" ZJ f fd):FnOk P w K mg base CX0 4 f fd ["self","names"] (spO K 2 (QU C)):=by
  have sc:FnScope QbG ["self","names"] (Qc ZJ):=⟨rfl,rfl,rfl,by decide +kernel,rfl,by decide +kernel,by decide +kernel⟩
  have nd:=sc.nd
  refine fnO (N:=QbG) (k:=3) F sc rfl fun cdv A outer s H E hr => ?_
  exact (Qm (Xq (ZN (Qb (ZV (Qa 0 (pv 0)) (fun D h=>(W.fl D h).fl_name)) (Qb (Qn c_shown_pair XO (hr.mono (by decide)) (by rfl) (Qb (Qa 1 (pv 1)) (Qb (ZV (Qa 0 (pv 0)) (fun D h=>(W.fl D h).fl_camp)) (Qb (ZV (Qa 0 (pv 0)) (fun D h=>(W.fl D h).fl_reason)) Qf)))) (Qb (Qn c_shown_set Yd (hr.mono (by decide)) (by rfl) (Qb (Qa 1 (pv 1)) (Qb (ZV (Qa 0 (pv 0)) (fun D h=>(W.fl D h).fl_other)) Qf))) Qf))))))
noncomputable abbrev Ys:Stmt:=Zq (top 28) 2
noncomputable def QdB:List Str:=["self","names"]
theorem Qgp {P:Program} {w:World} {K:PySem.W.Frag} {mg:Str→Option Value} {base:Heap} {f:Addr} {fd:FuncData} (T:Txt mg) {C:Nat→Addr} (W:WFam K mg C)  (F:Fun K "shown" "Lot.shown" Ys f fd):FnOk P w K mg base CX0 1 f fd ["self","names"] (spO K 2 (Zy C)):=by
  have sc:FnScope QdB ["self","names"] (Qc Ys):=⟨rfl,rfl,rfl,by decide +kernel,rfl,by decide +kernel,by decide +kernel⟩
  have nd:=sc.nd
  refine fnO (N:=QdB) (k:=0) F sc rfl fun cdv A outer s H E hr => ?_
  exact (Qm (Xq (ZN (Qb (ZV (Qa 0 (pv 0)) (fun D h=>(W.fl D h).fl_name)) Qf))))
noncomputable abbrev ZY:Stmt:=top 43
noncomputable def Qcw:List Str:=["found","names","due","told","row"]
theorem QeY {P:Program} {w:World} {K:PySem.W.Frag} {mg:Str→Option Value} {base:Heap} {f:Addr} {fd:FuncData} (T:Txt mg) {C:Nat→Addr} (W:WFam K mg C) (c__law_due:Cal P w K mg base 2 "_law_due" 2 (QV C)) (c_Settled_shown_1:Qbf P w K mg base 3 (C 1) "shown" 2 (QC C)) (c_Sure_shown_2:Qbf P w K mg base 4 (C 2) "shown" 2 (Zf C)) (c_Maybe_shown_3:Qbf P w K mg base 4 (C 3) "shown" 2 (QU C)) (c_Lot_shown_4:Qbf P w K mg base 1 (C 4) "shown" 2 (Zy C)) (F:Fun K "_law_right" "_law_right" ZY f fd):FnOk P w K mg base CX0 5 f fd ["found","names"] (spM K 2 (QH C)):=by
  have sc:FnScope Qcw ["found","names"] (Qc ZY):=⟨rfl,rfl,rfl,by decide +kernel,rfl,by decide +kernel,by decide +kernel⟩
  have nd:=sc.nd
  refine fnM (N:=Qcw) (k:=4) F sc rfl fun cdv A outer s H E hr => ?_
  exact (Qh (Qy (i:=2) nd rfl (Or.inl rfl) (Qn c__law_due (QcN C) (hr.mono (by decide)) (by rfl) (Qb (Qa 0 (pv 0)) (Qb (Qa 1 (pv 1)) Qf))))
      (Qh (Xa (i:=3) nd rfl (Or.inl rfl) (QhX (Qa 0 (pv 0)) (QJ ⟨⟨_,c_Settled_shown_1,hr.mono (by decide)⟩,(YX C)⟩ (QJ ⟨⟨_,c_Sure_shown_2,hr.mono (by decide)⟩,(XR C)⟩ (QJ ⟨⟨_,c_Maybe_shown_3,hr.mono (by decide)⟩,(Xv C)⟩ (QJ ⟨⟨_,c_Lot_shown_4,hr.mono (by decide)⟩,(Qan C)⟩ QdS)))) (Qb (Qa 1 (pv 1)) Qf)))
      (Qh (ZS (WM.tm (Qjl (Qai (QB (QfJ (x := "list") isi_lst (Qa 3 (pv 3)) (by rfl) T.b_isinstance (by rfl) T.b_list (by kernel_rfl)))) (QgH (Zj (QaC hr.units) (Qa 2 (pv 2)) (EO.em (ZN Qf)) (Zl _))))) (Qm (QG QeS)) Zd)
      (Qh (sm_forO (i:=3) PassesOwn.never rfl (pv 3) (QK (Qx (i:=4) nd rfl (Or.inl rfl))) (Qm (ZS (Qai (QB (QfJ (x := "str") isi_str (Qa 4 (pv 4)) (by rfl) T.b_isinstance (by rfl) T.b_str (by kernel_rfl)))) (Qm (QG QeS)) Zd)))
      (Qh (ZS (Zj (om_ne hr.units) (Qa 3 (pv 3)) (Qa 2 (pv 2)) (Zl _)) (Qm (QG QeS)) Zd)
      (Qh (sm_clr (i:=3) (YD (pe_bm0 PySem.F.plainAttrs_list PySem.F.slot_list_clear PySem.F.type_list_clear mt_clear (pv 3))))
      (Qm (QG (QjE (QaC hr.units) (EO.em (QhX (Qa 0 (pv 0)) (QJ ⟨⟨_,c_Settled_shown_1,hr.mono (by decide)⟩,(YX C)⟩ (QJ ⟨⟨_,c_Sure_shown_2,hr.mono (by decide)⟩,(XR C)⟩ (QJ ⟨⟨_,c_Maybe_shown_3,hr.mono (by decide)⟩,(Xv C)⟩ (QJ ⟨⟨_,c_Lot_shown_4,hr.mono (by decide)⟩,(Qan C)⟩ QdS)))) (Qb (Qa 1 (pv 1)) Qf))) (Qa 2 (pv 2)) (Zl _))))))))))
noncomputable abbrev QdJ:Stmt:=top 44
noncomputable def N_law:List Str:=["script","book","names","others","words","cell","word","found"]
theorem ok_law {P:Program} {w:World} {K:PySem.W.Frag} {mg:Str→Option Value} {base:Heap} {f:Addr} {fd:FuncData} (T:Txt mg) {C:Nat→Addr} (W:WFam K mg C) (c__law_cell_at:Cal P w K mg base 1 "_law_cell_at" 2 QA) (c__law_book:Cal P w K mg base 2 "_law_book" 1 Zn) (c__law_names:Cal P w K mg base 3 "_law_names" 3 QX) (c_lot:Cal P w K mg base 9 "lot" 2 (Qgf C)) (c__law_right:Cal P w K mg base 5 "_law_right" 2 (QH C)) (F:Fun K "law" "law" QdJ f fd):FnOk P w K mg base CX0 10 f fd ["script"] (spM K 1 (Qbw C)):=by
  have sc:FnScope N_law ["script"] (Qc QdJ):=⟨rfl,rfl,rfl,by decide +kernel,rfl,by decide +kernel,by decide +kernel⟩
  have nd:=sc.nd
  refine fnM (N:=N_law) (k:=9) F sc rfl fun cdv A outer s H E hr => ?_
  exact (Qh (Qy (i:=1) nd rfl (Or.inl rfl) (Qn c__law_book QbS (hr.mono (by decide)) (by rfl) (Qb (Qa 0 (pv 0)) Qf)))
      (Qh (Qy (i:=2) nd rfl (Or.inl rfl) (Qn c__law_names Xf (hr.mono (by decide)) (by rfl) (Qb (Qn c__law_cell_at Yj (hr.mono (by decide)) (by rfl) (Qb (Qa 0 (pv 0)) (ZO Qf))) (Qb (Zu Zt (Qa 1 (pv 1)) Qi (fun _ _=>rfl)) (Qb (Yn Qbc (by rfl) T.b_len PySem.boot_len (Qb (Zu Zt (Qa 1 (pv 1)) Qi (fun _ _=>rfl)) Qf)) Qf)))))
      (Qh (Qy (i:=3) nd rfl (Or.inl rfl) (Qn c__law_names Xf (hr.mono (by decide)) (by rfl) (Qb (Qn c__law_cell_at Yj (hr.mono (by decide)) (by rfl) (Qb (Qa 0 (pv 0)) (ZO Qf))) (Qb (Zu Zt (Qa 1 (pv 1)) Qi (fun _ _=>rfl)) (Qb (Yn Qbc (by rfl) T.b_len PySem.boot_len (Qb (Zu Zt (Qa 1 (pv 1)) Qi (fun _ _=>rfl)) Qf)) Qf)))))
      (Qh (Xa (i:=4) nd rfl (Or.inl rfl) (ZN Qf))
      (Qh (QbU PassesOwn.never rfl (Qak (EO.em (Qly QgN (EO.em (ZN (Qb (Qo QdQ (Zu Zt (Qa 1 (pv 1)) Qi (fun _ _=>rfl)) Qi) Qf))) (EO.em (QgS (Qa 0 (pv 0)) (QbN (QgU Qi)) Qeu))))) (QK (Qx (i:=5) nd rfl (Or.inl rfl))) (Qm (ZS (WM.tm (QbT (Zj om_gt (Zu Zt (Qa 1 (pv 1)) Qi (fun _ _=>rfl)) Qi (Zl _)) (XX (Zj (QhH hr.units) (Qo Zk (Qa 5 (pv 5)) (Zu Zt (Qa 1 (pv 1)) Qi (fun _ _=>rfl))) (Qa 4 (pv 4)) (by with_unfolding_all rfl))))) (Qm (QaY (i:=4) (pv 4) (Qo Zk (Qa 5 (pv 5)) (Zu Zt (Qa 1 (pv 1)) Qi (fun _ _=>rfl))) (YD (Qda PySem.F.plainAttrs_list PySem.F.slot_list_append PySem.F.type_list_append ZP (pv 4) (YB (Qo Zk (Qa 5 (pv 5)) (Zu Zt (Qa 1 (pv 1)) Qi (fun _ _=>rfl)))))))) Zd)))
      (Qh (QbU PassesOwn.never rfl (Qak (Qa 4 (pv 4))) (QK (Qx (i:=6) nd rfl (Or.inl rfl))) (Qh (Qy (i:=7) nd rfl (Or.inl rfl) (Qn c_lot (Qky C) (hr.mono (by decide)) (by rfl) (Qb (Qa 1 (pv 1)) (Qb (Qa 6 (pv 6)) Qf))))
      (Qm (ZS (WM.tm (Qjl (Qai (QB (Qn c__law_right (Yi C) (hr.mono (by decide)) (by rfl) (Qb (Qa 7 (pv 7)) (Qb (Qa 2 (pv 2)) Qf))))) (Qjl (Qai (QB (Qn c__law_right (Yi C) (hr.mono (by decide)) (by rfl) (Qb (Qa 7 (pv 7)) (Qb (Qa 3 (pv 3)) Qf))))) (QgH (Qai (QB (Qn c__law_right (Yi C) (hr.mono (by decide)) (by rfl) (Qb (Qa 7 (pv 7)) (Qb (Qa 2 (pv 2)) Qf))))))))) (Qm (QG QeS)) Zd))))
      (Qm (QG QeS))))))))
theorem all_mk {l:PySem.W.OpenLaw} {w:World} {K:PySem.W.Frag} {h:Heap} {mg:Str→Option Value} {fa:Addr} (hlaw:∀ (C:Nat→Addr),([C 1,C 2,C 3,C 4]:List Addr).Nodup→∀ (ns:List Int),ns.length≤63→Qbw C [.lst (ns.map .int)]=some (.bl true)) (X:K.In h) (G:h.Ns mainGlobals mg) (hfa:mg "law"=some (.ref fa))
    {C0 C1 C2 C3 C4:Addr}
    {f0:Addr} {od0 an0:Option Addr} {sl0:Array (Option Value)} {oc0 kV0 dc0 pm0 cd0 ct0:Value}
    {f1:Addr} {od1 an1:Option Addr} {sl1:Array (Option Value)} {oc1 kV1 dc1 pm1 cd1 ct1:Value}
    {f2:Addr} {od2 an2:Option Addr} {sl2:Array (Option Value)} {oc2 kV2 dc2 pm2 cd2 ct2:Value}
    {f3:Addr} {od3 an3:Option Addr} {sl3:Array (Option Value)} {oc3 kV3 dc3 pm3 cd3 ct3:Value}
    {f4:Addr} {od4 an4:Option Addr} {sl4:Array (Option Value)} {oc4 kV4 dc4 pm4 cd4 ct4:Value}
    {f5:Addr} {od5 an5:Option Addr} {sl5:Array (Option Value)} {oc5 kV5 dc5 pm5 cd5 ct5:Value}
    {f6:Addr} {od6 an6:Option Addr} {sl6:Array (Option Value)} {oc6 kV6 dc6 pm6 cd6 ct6:Value}
    {f7:Addr} {od7 an7:Option Addr} {sl7:Array (Option Value)} {oc7 kV7 dc7 pm7 cd7 ct7:Value}
    {f8:Addr} {od8 an8:Option Addr} {sl8:Array (Option Value)} {oc8 kV8 dc8 pm8 cd8 ct8:Value}
    {f9:Addr} {od9 an9:Option Addr} {sl9:Array (Option Value)} {oc9 kV9 dc9 pm9 cd9 ct9:Value}
    {f10:Addr} {od10 an10:Option Addr} {sl10:Array (Option Value)} {oc10 kV10 dc10 pm10 cd10 ct10:Value}
    {f11:Addr} {od11 an11:Option Addr} {sl11:Array (Option Value)} {oc11 kV11 dc11 pm11 cd11 ct11:Value}
    {f12:Addr} {od12 an12:Option Addr} {sl12:Array (Option Value)} {oc12 kV12 dc12 pm12 cd12 ct12:Value}
    {f13:Addr} {od13 an13:Option Addr} {sl13:Array (Option Value)} {oc13 kV13 dc13 pm13 cd13 ct13:Value}
    {f14:Addr} {od14 an14:Option Addr} {sl14:Array (Option Value)} {oc14 kV14 dc14 pm14 cd14 ct14:Value}
    {f15:Addr} {od15 an15:Option Addr} {sl15:Array (Option Value)} {oc15 kV15 dc15 pm15 cd15 ct15:Value}
    {f16:Addr} {od16 an16:Option Addr} {sl16:Array (Option Value)} {oc16 kV16 dc16 pm16 cd16 ct16:Value}
    {f17:Addr} {od17 an17:Option Addr} {sl17:Array (Option Value)} {oc17 kV17 dc17 pm17 cd17 ct17:Value}
    {f18:Addr} {od18 an18:Option Addr} {sl18:Array (Option Value)} {oc18 kV18 dc18 pm18 cd18 ct18:Value}
    {f19:Addr} {od19 an19:Option Addr} {sl19:Array (Option Value)} {oc19 kV19 dc19 pm19 cd19 ct19:Value}
    {f20:Addr} {od20 an20:Option Addr} {sl20:Array (Option Value)} {oc20 kV20 dc20 pm20 cd20 ct20:Value}
    {f21:Addr} {od21 an21:Option Addr} {sl21:Array (Option Value)} {oc21 kV21 dc21 pm21 cd21 ct21:Value}
    {f22:Addr} {od22 an22:Option Addr} {sl22:Array (Option Value)} {oc22 kV22 dc22 pm22 cd22 ct22:Value}
    {f23:Addr} {od23 an23:Option Addr} {sl23:Array (Option Value)} {oc23 kV23 dc23 pm23 cd23 ct23:Value}
    {f24:Addr} {od24 an24:Option Addr} {sl24:Array (Option Value)} {oc24 kV24 dc24 pm24 cd24 ct24:Value}
    {f25:Addr} {od25 an25:Option Addr} {sl25:Array (Option Value)} {oc25 kV25 dc25 pm25 cd25 ct25:Value}
    {f26:Addr} {od26 an26:Option Addr} {sl26:Array (Option Value)} {oc26 kV26 dc26 pm26 cd26 ct26:Value}
    {f27:Addr} {od27 an27:Option Addr} {sl27:Array (Option Value)} {oc27 kV27 dc27 pm27 cd27 ct27:Value}
    {f28:Addr} {od28 an28:Option Addr} {sl28:Array (Option Value)} {oc28 kV28 dc28 pm28 cd28 ct28:Value} {T28:Addr} {tc28:Value} {td28:Option Addr} {ts28:Array (Option Value)} {tk28:Tok} {tn28:Nat}
    {f29:Addr} {od29 an29:Option Addr} {sl29:Array (Option Value)} {oc29 kV29 dc29 pm29 cd29 ct29:Value}
    {f30:Addr} {od30 an30:Option Addr} {sl30:Array (Option Value)} {oc30 kV30 dc30 pm30 cd30 ct30:Value}
    {f31:Addr} {od31 an31:Option Addr} {sl31:Array (Option Value)} {oc31 kV31 dc31 pm31 cd31 ct31:Value}
    {f32:Addr} {od32 an32:Option Addr} {sl32:Array (Option Value)} {oc32 kV32 dc32 pm32 cd32 ct32:Value}
    {f33:Addr} {od33 an33:Option Addr} {sl33:Array (Option Value)} {oc33 kV33 dc33 pm33 cd33 ct33:Value}
    {f34:Addr} {od34 an34:Option Addr} {sl34:Array (Option Value)} {oc34 kV34 dc34 pm34 cd34 ct34:Value}
    {f35:Addr} {od35 an35:Option Addr} {sl35:Array (Option Value)} {oc35 kV35 dc35 pm35 cd35 ct35:Value}
    {f36:Addr} {od36 an36:Option Addr} {sl36:Array (Option Value)} {oc36 kV36 dc36 pm36 cd36 ct36:Value}
    {f37:Addr} {od37 an37:Option Addr} {sl37:Array (Option Value)} {oc37 kV37 dc37 pm37 cd37 ct37:Value}
    {f38:Addr} {od38 an38:Option Addr} {sl38:Array (Option Value)} {oc38 kV38 dc38 pm38 cd38 ct38:Value}
    {f39:Addr} {od39 an39:Option Addr} {sl39:Array (Option Value)} {oc39 kV39 dc39 pm39 cd39 ct39:Value}
    (aC0:PySem.W.nsIn K mainGlobals "Lot"=some (some (.ref C0)))
    (aC1:PySem.W.nsIn K mainGlobals "Settled"=some (some (.ref C1)))
    (aC2:PySem.W.nsIn K mainGlobals "Sure"=some (some (.ref C2)))
    (aC3:PySem.W.nsIn K mainGlobals "Maybe"=some (some (.ref C3)))
    (aC4:PySem.W.nsIn K mainGlobals "Never"=some (some (.ref C4)))
    (gC0:PySem.W.specialIn K (.ref C0) "__getattribute__"=some (some (.builtin "type.__getattribute__")))
    (rC0:PySem.W.readsIn K C0 (.type "type")=true)
    (pC1:PySem.W.plainGet K C1 Str.empty=true)
    (hC1:PySem.W.hasDictIn K C1=true)
    (oC1:PySem.W.plainOver K C1=true)
    (sC1:PySem.W.findIn K (.ref C1) "__setattr__"=some (some (.builtin "object.__setattr__")))
    (mC1:PySem.W.makesIn K C1=true)
    (kC1:PySem.W.keepIn K (.ref C1)=true)
    (n1_word:PySem.W.findIn K (.ref C1) "word"=some none)
    (n1_name:PySem.W.findIn K (.ref C1) "name"=some none)
    (n1_reason:PySem.W.findIn K (.ref C1) "reason"=some none)
    (n1_pairs:PySem.W.findIn K (.ref C1) "pairs"=some none)
    (n1_camp:PySem.W.findIn K (.ref C1) "camp"=some none)
    (n1_other:PySem.W.findIn K (.ref C1) "other"=some none)
    (pC2:PySem.W.plainGet K C2 Str.empty=true)
    (hC2:PySem.W.hasDictIn K C2=true)
    (oC2:PySem.W.plainOver K C2=true)
    (sC2:PySem.W.findIn K (.ref C2) "__setattr__"=some (some (.builtin "object.__setattr__")))
    (mC2:PySem.W.makesIn K C2=true)
    (kC2:PySem.W.keepIn K (.ref C2)=true)
    (n2_word:PySem.W.findIn K (.ref C2) "word"=some none)
    (n2_name:PySem.W.findIn K (.ref C2) "name"=some none)
    (n2_reason:PySem.W.findIn K (.ref C2) "reason"=some none)
    (n2_pairs:PySem.W.findIn K (.ref C2) "pairs"=some none)
    (n2_camp:PySem.W.findIn K (.ref C2) "camp"=some none)
    (n2_other:PySem.W.findIn K (.ref C2) "other"=some none)
    (pC3:PySem.W.plainGet K C3 Str.empty=true)
    (hC3:PySem.W.hasDictIn K C3=true)
    (oC3:PySem.W.plainOver K C3=true)
    (sC3:PySem.W.findIn K (.ref C3) "__setattr__"=some (some (.builtin "object.__setattr__")))
    (mC3:PySem.W.makesIn K C3=true)
    (kC3:PySem.W.keepIn K (.ref C3)=true)
    (n3_word:PySem.W.findIn K (.ref C3) "word"=some none)
    (n3_name:PySem.W.findIn K (.ref C3) "name"=some none)
    (n3_reason:PySem.W.findIn K (.ref C3) "reason"=some none)
    (n3_pairs:PySem.W.findIn K (.ref C3) "pairs"=some none)
    (n3_camp:PySem.W.findIn K (.ref C3) "camp"=some none)
    (n3_other:PySem.W.findIn K (.ref C3) "other"=some none)
    (pC4:PySem.W.plainGet K C4 Str.empty=true)
    (hC4:PySem.W.hasDictIn K C4=true)
    (oC4:PySem.W.plainOver K C4=true)
    (sC4:PySem.W.findIn K (.ref C4) "__setattr__"=some (some (.builtin "object.__setattr__")))
    (mC4:PySem.W.makesIn K C4=true)
    (kC4:PySem.W.keepIn K (.ref C4)=true)
    (n4_word:PySem.W.findIn K (.ref C4) "word"=some none)
    (n4_name:PySem.W.findIn K (.ref C4) "name"=some none)
    (n4_reason:PySem.W.findIn K (.ref C4) "reason"=some none)
    (n4_pairs:PySem.W.findIn K (.ref C4) "pairs"=some none)
    (n4_camp:PySem.W.findIn K (.ref C4) "camp"=some none)
    (n4_other:PySem.W.findIn K (.ref C4) "other"=some none)
    (isn:PySem.W.specialIn K (.builtin "object.__class__") "__get__"=some (some (.builtin "getset_descriptor.__get__")))
    (ist:PySem.W.takesIn K (.builtin "object.__class__")=some true)
    (isa1:PySem.W.findIn K (.ref C1) "__class__"=some (some (.builtin "object.__class__")))
    (ism1:PySem.W.mroIn K C1 (.type "object")=some true)
    (isa2:PySem.W.findIn K (.ref C2) "__class__"=some (some (.builtin "object.__class__")))
    (ism2:PySem.W.mroIn K C2 (.type "object")=some true)
    (isa3:PySem.W.findIn K (.ref C3) "__class__"=some (some (.builtin "object.__class__")))
    (ism3:PySem.W.mroIn K C3 (.type "object")=some true)
    (isa4:PySem.W.findIn K (.ref C4) "__class__"=some (some (.builtin "object.__class__")))
    (ism4:PySem.W.mroIn K C4 (.type "object")=some true)
    (isk_Maybe:PySem.W.isClsIn K C3=true)
    (isy_Maybe:PySem.W.typeIn K (.ref C3)=some (.type "type"))
    (is_Maybe_1:PySem.W.mroIn K C1 (.ref C3)=some false)
    (ne_Maybe_1:(C1==C3)=false)
    (is_Maybe_2:PySem.W.mroIn K C2 (.ref C3)=some false)
    (ne_Maybe_2:(C2==C3)=false)
    (is_Maybe_3:PySem.W.mroIn K C3 (.ref C3)=some true)
    (is_Maybe_4:PySem.W.mroIn K C4 (.ref C3)=some false)
    (ne_Maybe_4:(C4==C3)=false)
    (isk_Never:PySem.W.isClsIn K C4=true)
    (isy_Never:PySem.W.typeIn K (.ref C4)=some (.type "type"))
    (is_Never_1:PySem.W.mroIn K C1 (.ref C4)=some false)
    (ne_Never_1:(C1==C4)=false)
    (is_Never_2:PySem.W.mroIn K C2 (.ref C4)=some false)
    (ne_Never_2:(C2==C4)=false)
    (is_Never_3:PySem.W.mroIn K C3 (.ref C4)=some false)
    (ne_Never_3:(C3==C4)=false)
    (is_Never_4:PySem.W.mroIn K C4 (.ref C4)=some true)
    (isk_Settled:PySem.W.isClsIn K C1=true)
    (isy_Settled:PySem.W.typeIn K (.ref C1)=some (.type "type"))
    (is_Settled_1:PySem.W.mroIn K C1 (.ref C1)=some true)
    (is_Settled_2:PySem.W.mroIn K C2 (.ref C1)=some false)
    (ne_Settled_2:(C2==C1)=false)
    (is_Settled_3:PySem.W.mroIn K C3 (.ref C1)=some false)
    (ne_Settled_3:(C3==C1)=false)
    (is_Settled_4:PySem.W.mroIn K C4 (.ref C1)=some false)
    (ne_Settled_4:(C4==C1)=false)
    (isk_Sure:PySem.W.isClsIn K C2=true)
    (isy_Sure:PySem.W.typeIn K (.ref C2)=some (.type "type"))
    (is_Sure_1:PySem.W.mroIn K C1 (.ref C2)=some false)
    (ne_Sure_1:(C1==C2)=false)
    (is_Sure_2:PySem.W.mroIn K C2 (.ref C2)=some true)
    (is_Sure_3:PySem.W.mroIn K C3 (.ref C2)=some false)
    (ne_Sure_3:(C3==C2)=false)
    (is_Sure_4:PySem.W.mroIn K C4 (.ref C2)=some false)
    (ne_Sure_4:(C4==C2)=false)
    (a0:PySem.W.nsIn K mainGlobals "_law_cell_at"=some (some (.ref f0)))
    (l0:K.lookup f0=some ⟨oc0,od0,.func (PySem.W.fnOf "_law_cell_at" "_law_cell_at" (Qp ZB) (Ql ZB) (Qc ZB) .none kV0 dc0 pm0 an0 cd0 ct0),sl0⟩)
    (c0:PySem.W.codeIn K cd0 "_law_cell_at"=true)
    (k0:PySem.W.keepIn K (.ref f0)=true)
    (a1:PySem.W.nsIn K mainGlobals "_law_first"=some (some (.ref f1)))
    (l1:K.lookup f1=some ⟨oc1,od1,.func (PySem.W.fnOf "_law_first" "_law_first" (Qp Ya) (Ql Ya) (Qc Ya) .none kV1 dc1 pm1 an1 cd1 ct1),sl1⟩)
    (c1:PySem.W.codeIn K cd1 "_law_first"=true)
    (k1:PySem.W.keepIn K (.ref f1)=true)
    (a2:PySem.W.nsIn K mainGlobals "_law_draw"=some (some (.ref f2)))
    (l2:K.lookup f2=some ⟨oc2,od2,.func (PySem.W.fnOf "_law_draw" "_law_draw" (Qp Yr) (Ql Yr) (Qc Yr) .none kV2 dc2 pm2 an2 cd2 ct2),sl2⟩)
    (c2:PySem.W.codeIn K cd2 "_law_draw"=true)
    (k2:PySem.W.keepIn K (.ref f2)=true)
    (a3:PySem.W.nsIn K mainGlobals "_law_book"=some (some (.ref f3)))
    (l3:K.lookup f3=some ⟨oc3,od3,.func (PySem.W.fnOf "_law_book" "_law_book" (Qp ZG) (Ql ZG) (Qc ZG) .none kV3 dc3 pm3 an3 cd3 ct3),sl3⟩)
    (c3:PySem.W.codeIn K cd3 "_law_book"=true)
    (k3:PySem.W.keepIn K (.ref f3)=true)
    (a4:PySem.W.nsIn K mainGlobals "_law_letters"=some (some (.ref f4)))
    (l4:K.lookup f4=some ⟨oc4,od4,.func (PySem.W.fnOf "_law_letters" "_law_letters" (Qp QW) (Ql QW) (Qc QW) .none kV4 dc4 pm4 an4 cd4 ct4),sl4⟩)
    (c4:PySem.W.codeIn K cd4 "_law_letters"=true)
    (k4:PySem.W.keepIn K (.ref f4)=true)
    (a5:PySem.W.nsIn K mainGlobals "_law_names"=some (some (.ref f5)))
    (l5:K.lookup f5=some ⟨oc5,od5,.func (PySem.W.fnOf "_law_names" "_law_names" (Qp ZZ) (Ql ZZ) (Qc ZZ) .none kV5 dc5 pm5 an5 cd5 ct5),sl5⟩)
    (c5:PySem.W.codeIn K cd5 "_law_names"=true)
    (k5:PySem.W.keepIn K (.ref f5)=true)
    (a6:PySem.W.nsIn K mainGlobals "places"=some (some (.ref f6)))
    (l6:K.lookup f6=some ⟨oc6,od6,.func (PySem.W.fnOf "places" "places" (Qp YZ) (Ql YZ) (Qc YZ) .none kV6 dc6 pm6 an6 cd6 ct6),sl6⟩)
    (c6:PySem.W.codeIn K cd6 "places"=true)
    (k6:PySem.W.keepIn K (.ref f6)=true)
    (a7:PySem.W.nsIn K mainGlobals "inside"=some (some (.ref f7)))
    (l7:K.lookup f7=some ⟨oc7,od7,.func (PySem.W.fnOf "inside" "inside" (Qp Qaf) (Ql Qaf) (Qc Qaf) .none kV7 dc7 pm7 an7 cd7 ct7),sl7⟩)
    (c7:PySem.W.codeIn K cd7 "inside"=true)
    (k7:PySem.W.keepIn K (.ref f7)=true)
    (a8:PySem.W.nsIn K mainGlobals "mask_of"=some (some (.ref f8)))
    (l8:K.lookup f8=some ⟨oc8,od8,.func (PySem.W.fnOf "mask_of" "mask_of" (Qp Xm) (Ql Xm) (Qc Xm) .none kV8 dc8 pm8 an8 cd8 ct8),sl8⟩)
    (c8:PySem.W.codeIn K cd8 "mask_of"=true)
    (k8:PySem.W.keepIn K (.ref f8)=true)
    (a9:PySem.W.nsIn K mainGlobals "known_after"=some (some (.ref f9)))
    (l9:K.lookup f9=some ⟨oc9,od9,.func (PySem.W.fnOf "known_after" "known_after" (Qp Zi) (Ql Zi) (Qc Zi) .none kV9 dc9 pm9 an9 cd9 ct9),sl9⟩)
    (c9:PySem.W.codeIn K cd9 "known_after"=true)
    (k9:PySem.W.keepIn K (.ref f9)=true)
    (a10:PySem.W.nsIn K mainGlobals "bringing_steps"=some (some (.ref f10)))
    (l10:K.lookup f10=some ⟨oc10,od10,.func (PySem.W.fnOf "bringing_steps" "bringing_steps" (Qp QO) (Ql QO) (Qc QO) .none kV10 dc10 pm10 an10 cd10 ct10),sl10⟩)
    (c10:PySem.W.codeIn K cd10 "bringing_steps"=true)
    (k10:PySem.W.keepIn K (.ref f10)=true)
    (a11:PySem.W.nsIn K mainGlobals "yielded"=some (some (.ref f11)))
    (l11:K.lookup f11=some ⟨oc11,od11,.func (PySem.W.fnOf "yielded" "yielded" (Qp Xk) (Ql Xk) (Qc Xk) .none kV11 dc11 pm11 an11 cd11 ct11),sl11⟩)
    (c11:PySem.W.codeIn K cd11 "yielded"=true)
    (k11:PySem.W.keepIn K (.ref f11)=true)
    (a12:PySem.W.nsIn K mainGlobals "does_yield"=some (some (.ref f12)))
    (l12:K.lookup f12=some ⟨oc12,od12,.func (PySem.W.fnOf "does_yield" "does_yield" (Qp ZX) (Ql ZX) (Qc ZX) .none kV12 dc12 pm12 an12 cd12 ct12),sl12⟩)
    (c12:PySem.W.codeIn K cd12 "does_yield"=true)
    (k12:PySem.W.keepIn K (.ref f12)=true)
    (a13:PySem.W.nsIn K mainGlobals "a_reason"=some (some (.ref f13)))
    (l13:K.lookup f13=some ⟨oc13,od13,.func (PySem.W.fnOf "a_reason" "a_reason" (Qp YK) (Ql YK) (Qc YK) .none kV13 dc13 pm13 an13 cd13 ct13),sl13⟩)
    (c13:PySem.W.codeIn K cd13 "a_reason"=true)
    (k13:PySem.W.keepIn K (.ref f13)=true)
    (a14:PySem.W.findCls K (.ref C0) (.type "type") "__init__"=some (.val (.ref f14)))
    (l14:K.lookup f14=some ⟨oc14,od14,.func (PySem.W.fnOf "__init__" "Lot.__init__" (Qp ZC) (Ql ZC) (Qc ZC) .none kV14 dc14 pm14 an14 cd14 ct14),sl14⟩)
    (c14:PySem.W.codeIn K cd14 "Lot.__init__"=true)
    (k14:PySem.W.keepIn K (.ref f14)=true)
    (a15:PySem.W.findIn K (.ref C3) "__init__"=some (some (.ref f15)))
    (i15:PySem.W.isFn K (.ref f15)=true)
    (l15:K.lookup f15=some ⟨oc15,od15,.func (PySem.W.fnOf "__init__" "Maybe.__init__" (Qp Zh) (Ql Zh) (Qc Zh) .none kV15 dc15 pm15 an15 cd15 ct15),sl15⟩)
    (c15:PySem.W.codeIn K cd15 "Maybe.__init__"=true)
    (k15:PySem.W.keepIn K (.ref f15)=true)
    (a16:PySem.W.findIn K (.ref C1) "__init__"=some (some (.ref f16)))
    (i16:PySem.W.isFn K (.ref f16)=true)
    (l16:K.lookup f16=some ⟨oc16,od16,.func (PySem.W.fnOf "__init__" "Settled.__init__" (Qp QN) (Ql QN) (Qc QN) .none kV16 dc16 pm16 an16 cd16 ct16),sl16⟩)
    (c16:PySem.W.codeIn K cd16 "Settled.__init__"=true)
    (k16:PySem.W.keepIn K (.ref f16)=true)
    (a17:PySem.W.findIn K (.ref C2) "__init__"=some (some (.ref f17)))
    (i17:PySem.W.isFn K (.ref f17)=true)
    (l17:K.lookup f17=some ⟨oc17,od17,.func (PySem.W.fnOf "__init__" "Sure.__init__" (Qp Zr) (Ql Zr) (Qc Zr) .none kV17 dc17 pm17 an17 cd17 ct17),sl17⟩)
    (c17:PySem.W.codeIn K cd17 "Sure.__init__"=true)
    (k17:PySem.W.keepIn K (.ref f17)=true)
    (a18:PySem.W.findIn K (.ref C4) "__init__"=some (some (.ref f18)))
    (i18:PySem.W.isFn K (.ref f18)=true)
    (l18:K.lookup f18=some ⟨oc18,od18,.func (PySem.W.fnOf "__init__" "Never.__init__" (Qp Zg) (Ql Zg) (Qc Zg) .none kV18 dc18 pm18 an18 cd18 ct18),sl18⟩)
    (c18:PySem.W.codeIn K cd18 "Never.__init__"=true)
    (k18:PySem.W.keepIn K (.ref f18)=true)
    (a19:PySem.W.nsIn K mainGlobals "all_guesses"=some (some (.ref f19)))
    (l19:K.lookup f19=some ⟨oc19,od19,.func (PySem.W.fnOf "all_guesses" "all_guesses" (Qp ZI) (Ql ZI) (Qc ZI) .none kV19 dc19 pm19 an19 cd19 ct19),sl19⟩)
    (c19:PySem.W.codeIn K cd19 "all_guesses"=true)
    (k19:PySem.W.keepIn K (.ref f19)=true)
    (a20:PySem.W.nsIn K mainGlobals "struck"=some (some (.ref f20)))
    (l20:K.lookup f20=some ⟨oc20,od20,.func (PySem.W.fnOf "struck" "struck" (Qp YY) (Ql YY) (Qc YY) .none kV20 dc20 pm20 an20 cd20 ct20),sl20⟩)
    (c20:PySem.W.codeIn K cd20 "struck"=true)
    (k20:PySem.W.keepIn K (.ref f20)=true)
    (a21:PySem.W.nsIn K mainGlobals "unstruck"=some (some (.ref f21)))
    (l21:K.lookup f21=some ⟨oc21,od21,.func (PySem.W.fnOf "unstruck" "unstruck" (Qp YH) (Ql YH) (Qc YH) .none kV21 dc21 pm21 an21 cd21 ct21),sl21⟩)
    (c21:PySem.W.codeIn K cd21 "unstruck"=true)
    (k21:PySem.W.keepIn K (.ref f21)=true)
    (a22:PySem.W.nsIn K mainGlobals "defended"=some (some (.ref f22)))
    (l22:K.lookup f22=some ⟨oc22,od22,.func (PySem.W.fnOf "defended" "defended" (Qp YI) (Ql YI) (Qc YI) .none kV22 dc22 pm22 an22 cd22 ct22),sl22⟩)
    (c22:PySem.W.codeIn K cd22 "defended"=true)
    (k22:PySem.W.keepIn K (.ref f22)=true)
    (a23:PySem.W.nsIn K mainGlobals "rounds"=some (some (.ref f23)))
    (l23:K.lookup f23=some ⟨oc23,od23,.func (PySem.W.fnOf "rounds" "rounds" (Qp Qae) (Ql Qae) (Qc Qae) .none kV23 dc23 pm23 an23 cd23 ct23),sl23⟩)
    (c23:PySem.W.codeIn K cd23 "rounds"=true)
    (k23:PySem.W.keepIn K (.ref f23)=true)
    (a24:PySem.W.nsIn K mainGlobals "rank_in"=some (some (.ref f24)))
    (l24:K.lookup f24=some ⟨oc24,od24,.func (PySem.W.fnOf "rank_in" "rank_in" (Qp Xl) (Ql Xl) (Qc Xl) .none kV24 dc24 pm24 an24 cd24 ct24),sl24⟩)
    (c24:PySem.W.codeIn K cd24 "rank_in"=true)
    (k24:PySem.W.keepIn K (.ref f24)=true)
    (a25:PySem.W.nsIn K mainGlobals "settled"=some (some (.ref f25)))
    (l25:K.lookup f25=some ⟨oc25,od25,.func (PySem.W.fnOf "settled" "settled" (Qp YN) (Ql YN) (Qc YN) .none kV25 dc25 pm25 an25 cd25 ct25),sl25⟩)
    (c25:PySem.W.codeIn K cd25 "settled"=true)
    (k25:PySem.W.keepIn K (.ref f25)=true)
    (a26:PySem.W.nsIn K mainGlobals "at_peace"=some (some (.ref f26)))
    (l26:K.lookup f26=some ⟨oc26,od26,.func (PySem.W.fnOf "at_peace" "at_peace" (Qp YJ) (Ql YJ) (Qc YJ) .none kV26 dc26 pm26 an26 cd26 ct26),sl26⟩)
    (c26:PySem.W.codeIn K cd26 "at_peace"=true)
    (k26:PySem.W.keepIn K (.ref f26)=true)
    (a27:PySem.W.nsIn K mainGlobals "stands"=some (some (.ref f27)))
    (l27:K.lookup f27=some ⟨oc27,od27,.func (PySem.W.fnOf "stands" "stands" (Qp Qad) (Ql Qad) (Qc Qad) .none kV27 dc27 pm27 an27 cd27 ct27),sl27⟩)
    (c27:PySem.W.codeIn K cd27 "stands"=true)
    (k27:PySem.W.keepIn K (.ref f27)=true)
    (a28:PySem.W.nsIn K mainGlobals "camps"=some (some (.ref f28)))
    (l28:K.lookup f28=some ⟨oc28,od28,.func (PySem.W.fnOf "camps" "camps" (Qp Xb) (Ql Xb) (Qc Xb) (.ref T28) kV28 dc28 pm28 an28 cd28 ct28),sl28⟩)
    (c28:PySem.W.codeIn K cd28 "camps"=true)
    (k28:PySem.W.keepIn K (.ref f28)=true)
    (t28:K.lookup T28=some ⟨tc28,td28,.seq #[.int 0 tk28] tn28,ts28⟩)
    (a29:PySem.W.nsIn K mainGlobals "lot"=some (some (.ref f29)))
    (l29:K.lookup f29=some ⟨oc29,od29,.func (PySem.W.fnOf "lot" "lot" (Qp QdI) (Ql QdI) (Qc QdI) .none kV29 dc29 pm29 an29 cd29 ct29),sl29⟩)
    (c29:PySem.W.codeIn K cd29 "lot"=true)
    (k29:PySem.W.keepIn K (.ref f29)=true)
    (a30:PySem.W.nsIn K mainGlobals "_law_set"=some (some (.ref f30)))
    (l30:K.lookup f30=some ⟨oc30,od30,.func (PySem.W.fnOf "_law_set" "_law_set" (Qp ZT) (Ql ZT) (Qc ZT) .none kV30 dc30 pm30 an30 cd30 ct30),sl30⟩)
    (c30:PySem.W.codeIn K cd30 "_law_set"=true)
    (k30:PySem.W.keepIn K (.ref f30)=true)
    (a31:PySem.W.nsIn K mainGlobals "_law_due"=some (some (.ref f31)))
    (l31:K.lookup f31=some ⟨oc31,od31,.func (PySem.W.fnOf "_law_due" "_law_due" (Qp YL) (Ql YL) (Qc YL) .none kV31 dc31 pm31 an31 cd31 ct31),sl31⟩)
    (c31:PySem.W.codeIn K cd31 "_law_due"=true)
    (k31:PySem.W.keepIn K (.ref f31)=true)
    (a32:PySem.W.nsIn K mainGlobals "shown_set"=some (some (.ref f32)))
    (l32:K.lookup f32=some ⟨oc32,od32,.func (PySem.W.fnOf "shown_set" "shown_set" (Qp ZF) (Ql ZF) (Qc ZF) .none kV32 dc32 pm32 an32 cd32 ct32),sl32⟩)
    (c32:PySem.W.codeIn K cd32 "shown_set"=true)
    (k32:PySem.W.keepIn K (.ref f32)=true)
    (a33_1:PySem.W.findIn K (.ref C1) "shown"=some (some (.ref f33)))
    (i33:PySem.W.isFn K (.ref f33)=true)
    (l33:K.lookup f33=some ⟨oc33,od33,.func (PySem.W.fnOf "shown" "Settled.shown" (Qp Zs) (Ql Zs) (Qc Zs) .none kV33 dc33 pm33 an33 cd33 ct33),sl33⟩)
    (c33:PySem.W.codeIn K cd33 "Settled.shown"=true)
    (k33:PySem.W.keepIn K (.ref f33)=true)
    (a34:PySem.W.nsIn K mainGlobals "shown_pair"=some (some (.ref f34)))
    (l34:K.lookup f34=some ⟨oc34,od34,.func (PySem.W.fnOf "shown_pair" "shown_pair" (Qp ZW) (Ql ZW) (Qc ZW) .none kV34 dc34 pm34 an34 cd34 ct34),sl34⟩)
    (c34:PySem.W.codeIn K cd34 "shown_pair"=true)
    (k34:PySem.W.keepIn K (.ref f34)=true)
    (a35_2:PySem.W.findIn K (.ref C2) "shown"=some (some (.ref f35)))
    (i35:PySem.W.isFn K (.ref f35)=true)
    (l35:K.lookup f35=some ⟨oc35,od35,.func (PySem.W.fnOf "shown" "Sure.shown" (Qp Zv) (Ql Zv) (Qc Zv) .none kV35 dc35 pm35 an35 cd35 ct35),sl35⟩)
    (c35:PySem.W.codeIn K cd35 "Sure.shown"=true)
    (k35:PySem.W.keepIn K (.ref f35)=true)
    (a36_3:PySem.W.findIn K (.ref C3) "shown"=some (some (.ref f36)))
    (i36:PySem.W.isFn K (.ref f36)=true)
    (l36:K.lookup f36=some ⟨oc36,od36,.func (PySem.W.fnOf "shown" "Maybe.shown" (Qp ZJ) (Ql ZJ) (Qc ZJ) .none kV36 dc36 pm36 an36 cd36 ct36),sl36⟩)
    (c36:PySem.W.codeIn K cd36 "Maybe.shown"=true)
    (k36:PySem.W.keepIn K (.ref f36)=true)
    (a37_4:PySem.W.findIn K (.ref C4) "shown"=some (some (.ref f37)))
    (i37:PySem.W.isFn K (.ref f37)=true)
    (l37:K.lookup f37=some ⟨oc37,od37,.func (PySem.W.fnOf "shown" "Lot.shown" (Qp Ys) (Ql Ys) (Qc Ys) .none kV37 dc37 pm37 an37 cd37 ct37),sl37⟩)
    (c37:PySem.W.codeIn K cd37 "Lot.shown"=true)
    (k37:PySem.W.keepIn K (.ref f37)=true)
    (a38:PySem.W.nsIn K mainGlobals "_law_right"=some (some (.ref f38)))
    (l38:K.lookup f38=some ⟨oc38,od38,.func (PySem.W.fnOf "_law_right" "_law_right" (Qp ZY) (Ql ZY) (Qc ZY) .none kV38 dc38 pm38 an38 cd38 ct38),sl38⟩)
    (c38:PySem.W.codeIn K cd38 "_law_right"=true)
    (k38:PySem.W.keepIn K (.ref f38)=true)
    (a39:PySem.W.nsIn K mainGlobals "law"=some (some (.ref f39)))
    (l39:K.lookup f39=some ⟨oc39,od39,.func (PySem.W.fnOf "law" "law" (Qp QdJ) (Ql QdJ) (Qc QdJ) .none kV39 dc39 pm39 an39 cd39 ct39),sl39⟩)
    (c39:PySem.W.codeIn K cd39 "law"=true)
    (k39:PySem.W.keepIn K (.ref f39)=true)
    (z_any:PySem.W.nsIn K mainGlobals "any"=some none)
    (z_enumerate:PySem.W.nsIn K mainGlobals "enumerate"=some none)
    (z_isinstance:PySem.W.nsIn K mainGlobals "isinstance"=some none)
    (z_len:PySem.W.nsIn K mainGlobals "len"=some none)
    (z_list:PySem.W.nsIn K mainGlobals "list"=some none)
    (z_range:PySem.W.nsIn K mainGlobals "range"=some none)
    (z_reversed:PySem.W.nsIn K mainGlobals "reversed"=some none)
    (z_set:PySem.W.nsIn K mainGlobals "set"=some none)
    (z_sorted:PySem.W.nsIn K mainGlobals "sorted"=some none)
    (z_str:PySem.W.nsIn K mainGlobals "str"=some none)
    (z_tuple:PySem.W.nsIn K mainGlobals "tuple"=some none)
    (dC:([C1,C2,C3,C4]:List Addr).Nodup)
    : ∃ fd:FuncData,(∀ (s:Shared) (v:Value),BindsTo s fd ⟨[v],[]⟩ [("script",v)])∧∀ base:Heap,K.In base→base.Ns mainGlobals mg→FnOk l.prog w K mg base CX0 10 fa fd ["script"] (spM K 1 Qcz):=by
  have e:=hfa.symm.trans (PySem.W.mg_of X G a39)
  cases e
  have T:Txt mg:=⟨PySem.W.mg_none_of X G z_any,PySem.W.mg_none_of X G z_enumerate,PySem.W.mg_none_of X G z_isinstance,PySem.W.mg_none_of X G z_len,PySem.W.mg_none_of X G z_list,PySem.W.mg_none_of X G z_range,PySem.W.mg_none_of X G z_reversed,PySem.W.mg_none_of X G z_set,PySem.W.mg_none_of X G z_sorted,PySem.W.mg_none_of X G z_str,PySem.W.mg_none_of X G z_tuple⟩
  have CL1:Cls K C1:=⟨pC1,hC1,oC1,sC1⟩
  have W1:TFld K C1:=⟨⟨CL1,n1_word⟩,⟨CL1,n1_name⟩,⟨CL1,n1_reason⟩,⟨CL1,n1_pairs⟩,⟨CL1,n1_camp⟩,⟨CL1,n1_other⟩⟩
  have CL2:Cls K C2:=⟨pC2,hC2,oC2,sC2⟩
  have W2:TFld K C2:=⟨⟨CL2,n2_word⟩,⟨CL2,n2_name⟩,⟨CL2,n2_reason⟩,⟨CL2,n2_pairs⟩,⟨CL2,n2_camp⟩,⟨CL2,n2_other⟩⟩
  have CL3:Cls K C3:=⟨pC3,hC3,oC3,sC3⟩
  have W3:TFld K C3:=⟨⟨CL3,n3_word⟩,⟨CL3,n3_name⟩,⟨CL3,n3_reason⟩,⟨CL3,n3_pairs⟩,⟨CL3,n3_camp⟩,⟨CL3,n3_other⟩⟩
  have CL4:Cls K C4:=⟨pC4,hC4,oC4,sC4⟩
  have W4:TFld K C4:=⟨⟨CL4,n4_word⟩,⟨CL4,n4_name⟩,⟨CL4,n4_reason⟩,⟨CL4,n4_pairs⟩,⟨CL4,n4_camp⟩,⟨CL4,n4_other⟩⟩
  have W:WFam K mg (famC [C0,C1,C2,C3,C4]):=⟨famA W1 (famA W2 (famA W3 (famA W4 (fun _ h=>nomatch h)))),PySem.W.mg_of X G aC3,(QJ ⟨CL1,isa1,isn,ist,ism1,QbJ isk_Maybe isy_Maybe is_Maybe_1 ne_Maybe_1⟩ (QJ ⟨CL2,isa2,isn,ist,ism2,QbJ isk_Maybe isy_Maybe is_Maybe_2 ne_Maybe_2⟩ (QJ ⟨CL3,isa3,isn,ist,ism3,Qlu isk_Maybe isy_Maybe is_Maybe_3⟩ (QJ ⟨CL4,isa4,isn,ist,ism4,QbJ isk_Maybe isy_Maybe is_Maybe_4 ne_Maybe_4⟩ QdS)))),PySem.W.mg_of X G aC4,(QJ ⟨CL1,isa1,isn,ist,ism1,QbJ isk_Never isy_Never is_Never_1 ne_Never_1⟩ (QJ ⟨CL2,isa2,isn,ist,ism2,QbJ isk_Never isy_Never is_Never_2 ne_Never_2⟩ (QJ ⟨CL3,isa3,isn,ist,ism3,QbJ isk_Never isy_Never is_Never_3 ne_Never_3⟩ (QJ ⟨CL4,isa4,isn,ist,ism4,Qlu isk_Never isy_Never is_Never_4⟩ QdS)))),PySem.W.mg_of X G aC1,(QJ ⟨CL1,isa1,isn,ist,ism1,Qlu isk_Settled isy_Settled is_Settled_1⟩ (QJ ⟨CL2,isa2,isn,ist,ism2,QbJ isk_Settled isy_Settled is_Settled_2 ne_Settled_2⟩ (QJ ⟨CL3,isa3,isn,ist,ism3,QbJ isk_Settled isy_Settled is_Settled_3 ne_Settled_3⟩ (QJ ⟨CL4,isa4,isn,ist,ism4,QbJ isk_Settled isy_Settled is_Settled_4 ne_Settled_4⟩ QdS)))),PySem.W.mg_of X G aC2,(QJ ⟨CL1,isa1,isn,ist,ism1,QbJ isk_Sure isy_Sure is_Sure_1 ne_Sure_1⟩ (QJ ⟨CL2,isa2,isn,ist,ism2,Qlu isk_Sure isy_Sure is_Sure_2⟩ (QJ ⟨CL3,isa3,isn,ist,ism3,QbJ isk_Sure isy_Sure is_Sure_3 ne_Sure_3⟩ (QJ ⟨CL4,isa4,isn,ist,ism4,QbJ isk_Sure isy_Sure is_Sure_4 ne_Sure_4⟩ QdS))))⟩
  have F0:=Qz (st:=ZB) l0 c0 k0
  have b0:=F0.binds (ps:=["script","k"]) fun _ _ _ _ _ _ us hl=>match us,hl with | [_,_],_=>rfl
  have F1:=Qz (st:=Ya) l1 c1 k1
  have b1:=F1.binds (ps:=["shape","n","last"]) fun _ _ _ _ _ _ us hl=>match us,hl with | [_,_,_],_=>rfl
  have F2:=Qz (st:=Yr) l2 c2 k2
  have b2:=F2.binds (ps:=["cell","k"]) fun _ _ _ _ _ _ us hl=>match us,hl with | [_,_],_=>rfl
  have F3:=Qz (st:=ZG) l3 c3 k3
  have b3:=F3.binds (ps:=["script"]) fun _ _ _ _ _ _ us hl=>match us,hl with | [_],_=>rfl
  have F4:=Qz (st:=QW) l4 c4 k4
  have b4:=F4.binds (ps:=["cell","size"]) fun _ _ _ _ _ _ us hl=>match us,hl with | [_,_],_=>rfl
  have F5:=Qz (st:=ZZ) l5 c5 k5
  have b5:=F5.binds (ps:=["cell","words","n"]) fun _ _ _ _ _ _ us hl=>match us,hl with | [_,_,_],_=>rfl
  have F6:=Qz (st:=YZ) l6 c6 k6
  have b6:=F6.binds (ps:=["mask"]) fun _ _ _ _ _ _ us hl=>match us,hl with | [_],_=>rfl
  have F7:=Qz (st:=Qaf) l7 c7 k7
  have b7:=F7.binds (ps:=["mask","other"]) fun _ _ _ _ _ _ us hl=>match us,hl with | [_,_],_=>rfl
  have F8:=Qz (st:=Xm) l8 c8 k8
  have b8:=F8.binds (ps:=["row"]) fun _ _ _ _ _ _ us hl=>match us,hl with | [_],_=>rfl
  have F9:=Qz (st:=Zi) l9 c9 k9
  have b9:=F9.binds (ps:=["book","held","steps"]) fun _ _ _ _ _ _ us hl=>match us,hl with | [_,_,_],_=>rfl
  have F10:=Qz (st:=QO) l10 c10 k10
  have b10:=F10.binds (ps:=["book","held"]) fun _ _ _ _ _ _ us hl=>match us,hl with | [_,_],_=>rfl
  have F11:=Qz (st:=Xk) l11 c11 k11
  have b11:=F11.binds (ps:=["book","held"]) fun _ _ _ _ _ _ us hl=>match us,hl with | [_,_],_=>rfl
  have F12:=Qz (st:=ZX) l12 c12 k12
  have b12:=F12.binds (ps:=["book","held","word"]) fun _ _ _ _ _ _ us hl=>match us,hl with | [_,_,_],_=>rfl
  have F13:=Qz (st:=YK) l13 c13 k13
  have b13:=F13.binds (ps:=["book","within","word"]) fun _ _ _ _ _ _ us hl=>match us,hl with | [_,_,_],_=>rfl
  have F14:=Qz (st:=ZC) l14 c14 k14
  have b14:=F14.binds (ps:=["self","word","name"]) fun _ _ _ _ _ _ us hl=>match us,hl with | [_,_,_],_=>rfl
  have F15:=Qz (st:=Zh) l15 c15 k15
  have b15:=F15.binds (ps:=["self","word","camp","reason","other"]) fun _ _ _ _ _ _ us hl=>match us,hl with | [_,_,_,_,_],_=>rfl
  have F16:=Qz (st:=QN) l16 c16 k16
  have b16:=F16.binds (ps:=["self","word","reason"]) fun _ _ _ _ _ _ us hl=>match us,hl with | [_,_,_],_=>rfl
  have F17:=Qz (st:=Zr) l17 c17 k17
  have b17:=F17.binds (ps:=["self","word","pairs"]) fun _ _ _ _ _ _ us hl=>match us,hl with | [_,_,_],_=>rfl
  have F18:=Qz (st:=Zg) l18 c18 k18
  have b18:=F18.binds (ps:=["self","word"]) fun _ _ _ _ _ _ us hl=>match us,hl with | [_,_],_=>rfl
  have F19:=Qz (st:=ZI) l19 c19 k19
  have b19:=F19.binds (ps:=["book"]) fun _ _ _ _ _ _ us hl=>match us,hl with | [_],_=>rfl
  have F20:=Qz (st:=YY) l20 c20 k20
  have b20:=F20.binds (ps:=["book","held"]) fun _ _ _ _ _ _ us hl=>match us,hl with | [_,_],_=>rfl
  have F21:=Qz (st:=YH) l21 c21 k21
  have b21:=F21.binds (ps:=["book","held"]) fun _ _ _ _ _ _ us hl=>match us,hl with | [_,_],_=>rfl
  have F22:=Qz (st:=YI) l22 c22 k22
  have b22:=F22.binds (ps:=["book","held"]) fun _ _ _ _ _ _ us hl=>match us,hl with | [_,_],_=>rfl
  have F23:=Qz (st:=Qae) l23 c23 k23
  have b23:=F23.binds (ps:=["book"]) fun _ _ _ _ _ _ us hl=>match us,hl with | [_],_=>rfl
  have F24:=Qz (st:=Xl) l24 c24 k24
  have b24:=F24.binds (ps:=["sets","guess"]) fun _ _ _ _ _ _ us hl=>match us,hl with | [_,_],_=>rfl
  have F25:=Qz (st:=YN) l25 c25 k25
  have b25:=F25.binds (ps:=["book"]) fun _ _ _ _ _ _ us hl=>match us,hl with | [_],_=>rfl
  have F26:=Qz (st:=YJ) l26 c26 k26
  have b26:=F26.binds (ps:=["book","held"]) fun _ _ _ _ _ _ us hl=>match us,hl with | [_,_],_=>rfl
  have F27:=Qz (st:=Qad) l27 c27 k27
  have b27:=F27.binds (ps:=["book","held"]) fun _ _ _ _ _ _ us hl=>match us,hl with | [_,_],_=>rfl
  have F28:=funD_mk (st:=Xb) l28 c28 k28 t28
  have b28:=F28.binds (ps:=["book","holding"]) fun _ _ _ _ _ _ _ d us hl=>match us,hl with | [_,_],_=>⟨_,rfl,rfl⟩
  have bd28:=F28.bindsD (ps:=["book","holding"]) fun _ _ _ _ _ _ _ d us hl=>match us,hl with | [_],_=>⟨_,rfl,rfl⟩
  have F29:=Qz (st:=QdI) l29 c29 k29
  have b29:=F29.binds (ps:=["book","word"]) fun _ _ _ _ _ _ us hl=>match us,hl with | [_,_],_=>rfl
  have F30:=Qz (st:=ZT) l30 c30 k30
  have b30:=F30.binds (ps:=["names","mask"]) fun _ _ _ _ _ _ us hl=>match us,hl with | [_,_],_=>rfl
  have F31:=Qz (st:=YL) l31 c31 k31
  have b31:=F31.binds (ps:=["found","names"]) fun _ _ _ _ _ _ us hl=>match us,hl with | [_,_],_=>rfl
  have F32:=Qz (st:=ZF) l32 c32 k32
  have b32:=F32.binds (ps:=["names","mask"]) fun _ _ _ _ _ _ us hl=>match us,hl with | [_,_],_=>rfl
  have F33:=Qz (st:=Zs) l33 c33 k33
  have b33:=F33.binds (ps:=["self","names"]) fun _ _ _ _ _ _ us hl=>match us,hl with | [_,_],_=>rfl
  have F34:=Qz (st:=ZW) l34 c34 k34
  have b34:=F34.binds (ps:=["names","camp","reason"]) fun _ _ _ _ _ _ us hl=>match us,hl with | [_,_,_],_=>rfl
  have F35:=Qz (st:=Zv) l35 c35 k35
  have b35:=F35.binds (ps:=["self","names"]) fun _ _ _ _ _ _ us hl=>match us,hl with | [_,_],_=>rfl
  have F36:=Qz (st:=ZJ) l36 c36 k36
  have b36:=F36.binds (ps:=["self","names"]) fun _ _ _ _ _ _ us hl=>match us,hl with | [_,_],_=>rfl
  have F37:=Qz (st:=Ys) l37 c37 k37
  have b37:=F37.binds (ps:=["self","names"]) fun _ _ _ _ _ _ us hl=>match us,hl with | [_,_],_=>rfl
  have F38:=Qz (st:=ZY) l38 c38 k38
  have b38:=F38.binds (ps:=["found","names"]) fun _ _ _ _ _ _ us hl=>match us,hl with | [_,_],_=>rfl
  have F39:=Qz (st:=QdJ) l39 c39 k39
  refine ⟨PySem.W.fnOf "law" "law" (Qp QdJ) (Ql QdJ) (Qc QdJ) .none kV39 dc39 pm39 an39 cd39 ct39,fun s v => .of_eq rfl,fun base _ _ => ?_⟩
  have q0:Cal l.prog w K mg base 1 "_law_cell_at" 2 QA:=⟨_,_,_,QdE T  F0,PySem.W.mg_of X G a0,k0,b0⟩
  have q1:CalO l.prog w K mg base 1 "_law_first" 3 Zm:=⟨_,_,_,Qfa T  F1,PySem.W.mg_of X G a1,k1,b1⟩
  have q2:Cal l.prog w K mg base 1 "_law_draw" 2 Qj:=⟨_,_,_,Qgn T  F2,PySem.W.mg_of X G a2,k2,b2⟩
  have q3:Cal l.prog w K mg base 2 "_law_book" 1 Zn:=⟨_,_,_,Qgo T q0 q1 q2 F3,PySem.W.mg_of X G a3,k3,b3⟩
  have q4:Cal l.prog w K mg base 2 "_law_letters" 2 QY:=⟨_,_,_,QdD T q2 F4,PySem.W.mg_of X G a4,k4,b4⟩
  have q5:Cal l.prog w K mg base 3 "_law_names" 3 QX:=⟨_,_,_,QeZ T q2 q4 F5,PySem.W.mg_of X G a5,k5,b5⟩
  have q6:Cal l.prog w K mg base 1 "places" 1 YA:=⟨_,_,_,QkF T  F6,PySem.W.mg_of X G a6,k6,b6⟩
  have q7:Cal l.prog w K mg base 1 "inside" 2 QM:=⟨_,_,_,QkG T  F7,PySem.W.mg_of X G a7,k7,b7⟩
  have q8:Cal l.prog w K mg base 1 "mask_of" 1 Zo:=⟨_,_,_,QiL T  F8,PySem.W.mg_of X G a8,k8,b8⟩
  have q9:Cal l.prog w K mg base 2 "known_after" 3 ZA:=⟨_,_,_,QdX T q8 F9,PySem.W.mg_of X G a9,k9,b9⟩
  have q10:Cal l.prog w K mg base 2 "bringing_steps" 2 QP:=⟨_,_,_,Qci T q7 q8 F10,PySem.W.mg_of X G a10,k10,b10⟩
  have q11:Cal l.prog w K mg base 3 "yielded" 2 Yc:=⟨_,_,_,QiI T q9 q10 F11,PySem.W.mg_of X G a11,k11,b11⟩
  have q12:Cal l.prog w K mg base 4 "does_yield" 3 Zx:=⟨_,_,_,QeX T q7 q11 F12,PySem.W.mg_of X G a12,k12,b12⟩
  have q13:Cal l.prog w K mg base 5 "a_reason" 3 QI:=⟨_,_,_,Qhh T q6 q12 F13,PySem.W.mg_of X G a13,k13,b13⟩
  have q14_1:CalB l.prog w K mg base 1 C1 "-" "Lot" "__init__" 3 Qr:=⟨_,_,_,C0,Ye T W1  F14,PySem.W.mg_of X G aC0,gC0,rC0,a14,k14,b14⟩
  have q14_2:CalB l.prog w K mg base 1 C2 "-" "Lot" "__init__" 3 Qr:=⟨_,_,_,C0,Ye T W2  F14,PySem.W.mg_of X G aC0,gC0,rC0,a14,k14,b14⟩
  have q14_3:CalB l.prog w K mg base 1 C3 "-" "Lot" "__init__" 3 Qr:=⟨_,_,_,C0,Ye T W3  F14,PySem.W.mg_of X G aC0,gC0,rC0,a14,k14,b14⟩
  have q14_4:CalB l.prog w K mg base 1 C4 "-" "Lot" "__init__" 3 Qr:=⟨_,_,_,C0,Ye T W4  F14,PySem.W.mg_of X G aC0,gC0,rC0,a14,k14,b14⟩
  have q15:QdL l.prog w K mg base 3 C3 "-" "Maybe" 5 QR:=⟨_,_,_,Qck T W3 q14_3 F15,⟨mC3,a15,i15,kC3⟩,PySem.W.mg_of X G aC3,b15⟩
  have q16:QdL l.prog w K mg base 3 C1 "-" "Settled" 3 QD:=⟨_,_,_,Qbm T W1 q14_1 F16,⟨mC1,a16,i16,kC1⟩,PySem.W.mg_of X G aC1,b16⟩
  have q17:QdL l.prog w K mg base 3 C2 "-" "Sure" 3 Za:=⟨_,_,_,QcO T W2 q14_2 F17,⟨mC2,a17,i17,kC2⟩,PySem.W.mg_of X G aC2,b17⟩
  have q18:QdL l.prog w K mg base 3 C4 "-" "Never" 2 QQ:=⟨_,_,_,Qcj T W4 q14_4 F18,⟨mC4,a18,i18,kC4⟩,PySem.W.mg_of X G aC4,b18⟩
  have q19:Cal l.prog w K mg base 1 "all_guesses" 1 QT:=⟨_,_,_,QdY T  F19,PySem.W.mg_of X G a19,k19,b19⟩
  have q20:Cal l.prog w K mg base 4 "struck" 2 Yz:=⟨_,_,_,QkC T q7 q8 q11 F20,PySem.W.mg_of X G a20,k20,b20⟩
  have q21:Cal l.prog w K mg base 5 "unstruck" 2 ZU:=⟨_,_,_,Qhe T q19 q20 F21,PySem.W.mg_of X G a21,k21,b21⟩
  have q22:Cal l.prog w K mg base 6 "defended" 2 Zb:=⟨_,_,_,Qhf T q21 F22,PySem.W.mg_of X G a22,k22,b22⟩
  have q23:Cal l.prog w K mg base 7 "rounds" 1 Xt:=⟨_,_,_,QkE T q22 F23,PySem.W.mg_of X G a23,k23,b23⟩
  have q24:Cal l.prog w K mg base 2 "rank_in" 2 YQ:=⟨_,_,_,QiK T q7 F24,PySem.W.mg_of X G a24,k24,b24⟩
  have q25:Cal l.prog w K mg base 8 "settled" 1 YO:=⟨_,_,_,QiJ T q23 q24 F25,PySem.W.mg_of X G a25,k25,b25⟩
  have q26:Cal l.prog w K mg base 5 "at_peace" 2 Yp:=⟨_,_,_,Qhg T q20 F26,PySem.W.mg_of X G a26,k26,b26⟩
  have q27:Cal l.prog w K mg base 7 "stands" 2 Xs:=⟨_,_,_,QkD T q7 q22 q26 F27,PySem.W.mg_of X G a27,k27,b27⟩
  have q28:CalD l.prog w K mg base 8 "camps" 2 0 QaG:=⟨_,_,_,ok_camps T q7 q19 q27 F28,PySem.W.mg_of X G a28,k28,b28,bd28⟩
  have q29:Cal l.prog w K mg base 9 "lot" 2 (Qgf (famC [C0,C1,C2,C3,C4])):=⟨_,_,_,ok_lot T W q13 q15 q16 q17 q18 q25 q28 F29,PySem.W.mg_of X G a29,k29,b29⟩
  have q30:Cal l.prog w K mg base 1 "_law_set" 2 QE:=⟨_,_,_,Qhi T  F30,PySem.W.mg_of X G a30,k30,b30⟩
  have q31:Cal l.prog w K mg base 2 "_law_due" 2 (QV (famC [C0,C1,C2,C3,C4])):=⟨_,_,_,Qhj T W q30 F31,PySem.W.mg_of X G a31,k31,b31⟩
  have q32:Cal l.prog w K mg base 2 "shown_set" 2 QL:=⟨_,_,_,Qgm T q6 F32,PySem.W.mg_of X G a32,k32,b32⟩
  have q33_1:Qbf l.prog w K mg base 3 C1 "shown" 2 (QC (famC [C0,C1,C2,C3,C4])):=⟨_,_,_,QcP T W q32 F33,CL1,⟨a33_1,i33,k33⟩,b33⟩
  have q34:Cal l.prog w K mg base 3 "shown_pair" 3 Ze:=⟨_,_,_,QeW T q32 F34,PySem.W.mg_of X G a34,k34,b34⟩
  have q35_2:Qbf l.prog w K mg base 4 C2 "shown" 2 (Zf (famC [C0,C1,C2,C3,C4])):=⟨_,_,_,Qfb T W q34 F35,CL2,⟨a35_2,i35,k35⟩,b35⟩
  have q36_3:Qbf l.prog w K mg base 4 C3 "shown" 2 (QU (famC [C0,C1,C2,C3,C4])):=⟨_,_,_,QdZ T W q32 q34 F36,CL3,⟨a36_3,i36,k36⟩,b36⟩
  have q37_4:Qbf l.prog w K mg base 1 C4 "shown" 2 (Zy (famC [C0,C1,C2,C3,C4])):=⟨_,_,_,Qgp T W  F37,CL4,⟨a37_4,i37,k37⟩,b37⟩
  have q38:Cal l.prog w K mg base 5 "_law_right" 2 (QH (famC [C0,C1,C2,C3,C4])):=⟨_,_,_,QeY T W q31 q33_1 q35_2 q36_3 q37_4 F38,PySem.W.mg_of X G a38,k38,b38⟩
  exact (ok_law T W q0 q3 q5 q29 q38 F39).sw fun qs r h=>QiA (hlaw (famC [C0,C1,C2,C3,C4]) dC) h
theorem walk {l:PySem.W.OpenLaw} {q:Program} {loose:List Str} {XP:(Str→Option Value)→Heap→Prop} {YP:World→Heap→Prop} {d:DefRec} {K:Params→PySem.W.Frag} (hn:l.most=some 63) (hdf:d.params.defaults=[])
    (hY:∀ (w:World) (h:Heap),YP w h→(K w.params).In h) (hlaw:∀ ns:List Int,ns.length≤63→Qcz [.lst (ns.map .int)]=some (.bl true))
    (F:∀ (w:World) (mg:Str→Option Value) (fa:Addr) (h:Heap),(K w.params).In h→h.Ns mainGlobals mg→mg d.name=some (.ref fa) →
      ∃ fd:FuncData,(∀ (s:Shared) (u:Value),BindsTo s fd ⟨[u],[]⟩ [("script",u)])∧∀ base:Heap,(K w.params).In base→base.Ns mainGlobals mg→FnOk l.prog w (K w.params) mg base CX0 10 fa fd ["script"] (spM (K w.params) 1 Qcz)) :
    PySem.W.WalkO q loose XP YP l.row.toRowW d [] (fun f vs=>PySem.call f vs) :=
  L2.walk_of (n:=63) (k:=10) (x := "script") (CX:=fun _=>CX0) (sp:=fun w=>spM (K w.params) 1 Qcz) hn (by decide) hdf ⟨rfl,by decide,by decide⟩ hY F (fun w H a ns hl _ hS=>law_sp hlaw hl hS) fun _ _ _ _ _ z=>z
end K45
namespace K45
open PySem PySem.W L2 L2.PM DH HD
noncomputable def kk (P:Params):PySem.W.Frag :=
(nat_lit 2,⟨.none,none,(.dict #[] 0),#[]⟩) ::
(nat_lit 3,⟨(.type "dict"),none,(.dict #[en P "__name__" 165 (.str "law_doubthall_k45_lots_shown" 544),en P "__doc__" 166 .none,en P "__package__" 167 .none,en P "__loader__" 168 (.builtin "__main__.__loader__#opaque"),en P "__spec__" 169 .none,en P "__annotations__" 170 (.ref 6),en P "__builtins__" 171 (.ref 4),en P "__file__" 173 (.str "/claim/cut.py" 172),en P "__cached__" 174 .none,en P "_wall" 193 (.ref 21),en P "places" 201 (.ref 26),en P "mask_of" 210 (.ref 33),en P "inside" 218 (.ref 40),en P "shown_set" 224 (.ref 45),en P "bringing_steps" 232 (.ref 50),en P "known_after" 238 (.ref 55),en P "yielded" 246 (.ref 62),en P "all_guesses" 255 (.ref 69),en P "does_yield" 264 (.ref 76),en P "a_reason" 276 (.ref 83),en P "struck" 284 (.ref 88),en P "unstruck" 292 (.ref 95),en P "at_peace" 300 (.ref 102),en P "defended" 308 (.ref 109),en P "stands" 316 (.ref 116),en P "camps" 325 (.ref 122),en P "rounds" 336 (.ref 129),en P "rank_in" 346 (.ref 136),en P "settled" 352 (.ref 141),en P "shown_pair" 363 (.ref 148),en P "Lot" 409 (.ref 179),en P "Settled" 443 (.ref 207),en P "Sure" 475 (.ref 231),en P "Maybe" 513 (.ref 257),en P "Never" 537 (.ref 276),en P "lot" 543 (.ref 283),en P "_law_cell_at" 553 (.ref 290),en P "_law_draw" 562 (.ref 297),en P "_law_first" 573 (.ref 304),en P "_law_book" 579 (.ref 309),en P "_law_letters" 585 (.ref 314),en P "_law_names" 601 (.ref 321),en P "_law_set" 607 (.ref 326),en P "_law_due" 619 (.ref 333),en P "_law_right" 630 (.ref 340),en P "law" 644 (.ref 347)] 46),#[]⟩) ::
(nat_lit 20,co "_wall" "_wall" 187 1 1 15 16 (.ref 17) (.ref 18) 19 191) ::
(nat_lit 21,fo "_wall" "_wall" (top 0) .none .none (.str "__main__" 164) 20) ::
(nat_lit 25,co "places" "places" 196 5 1 22 23 .none .none 24 199) ::
(nat_lit 26,fo "places" "places" (top 2) .none .none (.str "doubthall.masks" 194) 25) ::
(nat_lit 32,co "mask_of" "mask_of" 202 7 1 27 28 (.ref 29) (.ref 30) 31 208) ::
(nat_lit 33,fo "mask_of" "mask_of" (top 3) .none .none (.str "doubthall.masks" 194) 32) ::
(nat_lit 39,co "inside" "inside" 211 12 2 34 35 (.ref 36) (.ref 37) 38 216) ::
(nat_lit 40,fo "inside" "inside" (top 4) .none .none (.str "doubthall.masks" 194) 39) ::
(nat_lit 44,co "shown_set" "shown_set" 219 14 2 41 42 .none .none 43 222) ::
(nat_lit 45,fo "shown_set" "shown_set" (top 5) .none .none (.str "doubthall.masks" 194) 44) ::
(nat_lit 49,co "bringing_steps" "bringing_steps" 227 17 2 46 47 .none .none 48 230) ::
(nat_lit 50,fo "bringing_steps" "bringing_steps" (top 7) .none .none (.str "doubthall.yields" 225) 49) ::
(nat_lit 54,co "known_after" "known_after" 233 32 3 51 52 .none .none 53 236) ::
(nat_lit 55,fo "known_after" "known_after" (top 8) .none .none (.str "doubthall.yields" 225) 54) ::
(nat_lit 61,co "yielded" "yielded" 239 34 2 56 57 (.ref 58) (.ref 59) 60 244) ::
(nat_lit 62,fo "yielded" "yielded" (top 9) .none .none (.str "doubthall.yields" 225) 61) ::
(nat_lit 68,co "all_guesses" "all_guesses" 249 37 1 63 64 (.ref 65) (.ref 66) 67 253) ::
(nat_lit 69,fo "all_guesses" "all_guesses" (top 11) .none .none (.str "doubthall.reasons" 247) 68) ::
(nat_lit 75,co "does_yield" "does_yield" 256 39 3 70 71 (.ref 72) (.ref 73) 74 262) ::
(nat_lit 76,fo "does_yield" "does_yield" (top 12) .none .none (.str "doubthall.reasons" 247) 75) ::
(nat_lit 82,co "a_reason" "a_reason" 265 41 3 77 78 (.ref 79) (.ref 80) 81 274) ::
(nat_lit 83,fo "a_reason" "a_reason" (top 13) .none .none (.str "doubthall.reasons" 247) 82) ::
(nat_lit 87,co "struck" "struck" 279 51 2 84 85 .none .none 86 282) ::
(nat_lit 88,fo "struck" "struck" (top 15) .none .none (.str "doubthall.standing" 277) 87) ::
(nat_lit 94,co "unstruck" "unstruck" 285 54 2 89 90 (.ref 91) (.ref 92) 93 290) ::
(nat_lit 95,fo "unstruck" "unstruck" (top 16) .none .none (.str "doubthall.standing" 277) 94) ::
(nat_lit 101,co "at_peace" "at_peace" 293 56 2 96 97 (.ref 98) (.ref 99) 100 298) ::
(nat_lit 102,fo "at_peace" "at_peace" (top 17) .none .none (.str "doubthall.standing" 277) 101) ::
(nat_lit 108,co "defended" "defended" 301 58 2 103 104 (.ref 105) (.ref 106) 107 306) ::
(nat_lit 109,fo "defended" "defended" (top 18) .none .none (.str "doubthall.standing" 277) 108) ::
(nat_lit 115,co "stands" "stands" 309 60 2 110 111 (.ref 112) (.ref 113) 114 314) ::
(nat_lit 116,fo "stands" "stands" (top 19) .none .none (.str "doubthall.standing" 277) 115) ::
(nat_lit 117,⟨(.type "tuple"),none,(.seq #[(.int 0 319)] 0),#[]⟩) ::
(nat_lit 121,co "camps" "camps" 320 63 2 118 119 .none .none 120 323) ::
(nat_lit 122,fo "camps" "camps" (top 21) (.ref 117) .none (.str "doubthall.camps" 317) 121) ::
(nat_lit 128,co "rounds" "rounds" 328 71 1 123 124 (.ref 125) (.ref 126) 127 334) ::
(nat_lit 129,fo "rounds" "rounds" (top 23) .none .none (.str "doubthall.settled" 326) 128) ::
(nat_lit 135,co "rank_in" "rank_in" 337 78 2 130 131 (.ref 132) (.ref 133) 134 344) ::
(nat_lit 136,fo "rank_in" "rank_in" (top 24) .none .none (.str "doubthall.settled" 326) 135) ::
(nat_lit 140,co "settled" "settled" 347 83 1 137 138 .none .none 139 350) ::
(nat_lit 141,fo "settled" "settled" (top 25) .none .none (.str "doubthall.settled" 326) 140) ::
(nat_lit 147,co "shown_pair" "shown_pair" 355 88 3 142 143 (.ref 144) (.ref 145) 146 361) ::
(nat_lit 148,fo "shown_pair" "shown_pair" (top 27) .none .none (.str "doubthall.lots" 353) 147) ::
(nat_lit 161,co "__init__" "Lot.__init__" 376 92 3 156 157 (.ref 158) (.ref 159) 160 382) ::
(nat_lit 162,fo "__init__" "Lot.__init__" (Zq (top 28) 0) .none .none (.str "doubthall.lots" 353) 161) ::
(nat_lit 168,co "called" "Lot.called" 385 96 1 163 164 (.ref 165) (.ref 166) 167 389) ::
(nat_lit 169,fo "called" "Lot.called" (Zq (top 28) 1) .none .none (.str "doubthall.lots" 353) 168) ::
(nat_lit 175,co "shown" "Lot.shown" 392 99 2 170 171 (.ref 172) (.ref 173) 174 397) ::
(nat_lit 176,fo "shown" "Lot.shown" (Zq (top 28) 2) .none .none (.str "doubthall.lots" 353) 175) ::
(nat_lit 178,⟨(.type "dict"),none,(.dict #[en P "__module__" 371 (.str "doubthall.lots" 353),en P "__firstlineno__" 375 (.int 90 374),en P "__init__" 384 (.ref 162),en P "called" 391 (.ref 169),en P "shown" 399 (.ref 176),en P "__static_attributes__" 402 (.ref 177),en P "__dict__" 404 (.ref 180),en P "__weakref__" 406 (.ref 181),en P "__doc__" 407 .none] 4),#[]⟩) ::
(nat_lit 179,⟨(.type "type"),none,(.cls { name := "Lot",bases:=[(.type "object")],mro:=[(.ref 179),(.type "object")],ns:=178,qualname := "Lot",hasDict:=true,subclasses:=[(.ref 207),(.ref 231),(.ref 257),(.ref 276)],abstract:=false,hasDel:=false }),#[none,none,some (.str "Lot" 364),some (.str "Lot" 372),some (.builtin "object.__new__"),some (.bool true)]⟩) ::
(nat_lit 196,co "__init__" "Settled.__init__" 422 103 3 191 192 (.ref 193) (.ref 194) 195 428) ::
(nat_lit 197,fo "__init__" "Settled.__init__" (Zq (top 29) 0) .none .none (.str "doubthall.lots" 353) 196) ::
(nat_lit 203,co "shown" "Settled.shown" 431 107 2 198 199 (.ref 200) (.ref 201) 202 436) ::
(nat_lit 204,fo "shown" "Settled.shown" (Zq (top 29) 1) .none .none (.str "doubthall.lots" 353) 203) ::
(nat_lit 206,⟨(.type "dict"),none,(.dict #[en P "__module__" 417 (.str "doubthall.lots" 353),en P "__firstlineno__" 421 (.int 101 420),en P "__init__" 430 (.ref 197),en P "shown" 438 (.ref 204),en P "__static_attributes__" 440 (.ref 205),en P "__doc__" 441 .none] 2),#[]⟩) ::
(nat_lit 207,⟨(.type "type"),none,(.cls { name := "Settled",bases:=[(.ref 179)],mro:=[(.ref 207),(.ref 179),(.type "object")],ns:=206,qualname := "Settled",hasDict:=true,subclasses:=[],abstract:=false,hasDel:=false }),#[some (.ref 184),none,some (.str "Settled" 410),some (.str "Settled" 418),some (.builtin "object.__new__"),some (.bool true)]⟩) ::
(nat_lit 222,co "__init__" "Sure.__init__" 456 111 3 217 218 (.ref 219) (.ref 220) 221 462) ::
(nat_lit 223,fo "__init__" "Sure.__init__" (Zq (top 30) 0) .none .none (.str "doubthall.lots" 353) 222) ::
(nat_lit 227,co "shown" "Sure.shown" 465 115 2 224 225 .none .none 226 468) ::
(nat_lit 228,fo "shown" "Sure.shown" (Zq (top 30) 1) .none .none (.str "doubthall.lots" 353) 227) ::
(nat_lit 230,⟨(.type "dict"),none,(.dict #[en P "__module__" 451 (.str "doubthall.lots" 353),en P "__firstlineno__" 455 (.int 109 454),en P "__init__" 464 (.ref 223),en P "shown" 470 (.ref 228),en P "__static_attributes__" 472 (.ref 229),en P "__doc__" 473 .none] 2),#[]⟩) ::
(nat_lit 231,⟨(.type "type"),none,(.cls { name := "Sure",bases:=[(.ref 179)],mro:=[(.ref 231),(.ref 179),(.type "object")],ns:=230,qualname := "Sure",hasDict:=true,subclasses:=[],abstract:=false,hasDel:=false }),#[some (.ref 210),none,some (.str "Sure" 444),some (.str "Sure" 452),some (.builtin "object.__new__"),some (.bool true)]⟩) ::
(nat_lit 246,co "__init__" "Maybe.__init__" 488 119 5 241 242 (.ref 243) (.ref 244) 245 496) ::
(nat_lit 247,fo "__init__" "Maybe.__init__" (Zq (top 31) 0) .none .none (.str "doubthall.lots" 353) 246) ::
(nat_lit 253,co "shown" "Maybe.shown" 499 125 2 248 249 (.ref 250) (.ref 251) 252 504) ::
(nat_lit 254,fo "shown" "Maybe.shown" (Zq (top 31) 1) .none .none (.str "doubthall.lots" 353) 253) ::
(nat_lit 256,⟨(.type "dict"),none,(.dict #[en P "__module__" 483 (.str "doubthall.lots" 353),en P "__firstlineno__" 487 (.int 117 486),en P "__init__" 498 (.ref 247),en P "shown" 506 (.ref 254),en P "__static_attributes__" 510 (.ref 255),en P "__doc__" 511 .none] 2),#[]⟩) ::
(nat_lit 257,⟨(.type "type"),none,(.cls { name := "Maybe",bases:=[(.ref 179)],mro:=[(.ref 257),(.ref 179),(.type "object")],ns:=256,qualname := "Maybe",hasDict:=true,subclasses:=[],abstract:=false,hasDel:=false }),#[some (.ref 234),none,some (.str "Maybe" 476),some (.str "Maybe" 484),some (.builtin "object.__new__"),some (.bool true)]⟩) ::
(nat_lit 272,co "__init__" "Never.__init__" 526 129 2 267 268 (.ref 269) (.ref 270) 271 531) ::
(nat_lit 273,fo "__init__" "Never.__init__" (Zq (top 32) 0) .none .none (.str "doubthall.lots" 353) 272) ::
(nat_lit 275,⟨(.type "dict"),none,(.dict #[en P "__module__" 521 (.str "doubthall.lots" 353),en P "__firstlineno__" 525 (.int 127 524),en P "__init__" 533 (.ref 273),en P "__static_attributes__" 534 (.ref 274),en P "__doc__" 535 .none] 2),#[]⟩) ::
(nat_lit 276,⟨(.type "type"),none,(.cls { name := "Never",bases:=[(.ref 179)],mro:=[(.ref 276),(.ref 179),(.type "object")],ns:=275,qualname := "Never",hasDict:=true,subclasses:=[],abstract:=false,hasDel:=false }),#[some (.ref 260),none,some (.str "Never" 514),some (.str "Never" 522),some (.builtin "object.__new__"),some (.bool true)]⟩) ::
(nat_lit 282,co "lot" "lot" 538 131 2 279 280 .none .none 281 541) ::
(nat_lit 283,fo "lot" "lot" (top 33) .none .none (.str "doubthall.lots" 353) 282) ::
(nat_lit 289,co "_law_cell_at" "_law_cell_at" 546 144 2 284 285 (.ref 286) (.ref 287) 288 551) ::
(nat_lit 290,fo "_law_cell_at" "_law_cell_at" (top 35) .none .none (.str "law_doubthall_k45_lots_shown" 544) 289) ::
(nat_lit 296,co "_law_draw" "_law_draw" 554 148 2 291 292 (.ref 293) (.ref 294) 295 560) ::
(nat_lit 297,fo "_law_draw" "_law_draw" (top 36) .none .none (.str "law_doubthall_k45_lots_shown" 544) 296) ::
(nat_lit 303,co "_law_first" "_law_first" 563 152 3 298 299 (.ref 300) (.ref 301) 302 571) ::
(nat_lit 304,fo "_law_first" "_law_first" (top 37) .none .none (.str "law_doubthall_k45_lots_shown" 544) 303) ::
(nat_lit 308,co "_law_book" "_law_book" 574 162 1 305 306 .none .none 307 577) ::
(nat_lit 309,fo "_law_book" "_law_book" (top 38) .none .none (.str "law_doubthall_k45_lots_shown" 544) 308) ::
(nat_lit 313,co "_law_letters" "_law_letters" 580 182 2 310 311 .none .none 312 583) ::
(nat_lit 314,fo "_law_letters" "_law_letters" (top 39) .none .none (.str "law_doubthall_k45_lots_shown" 544) 313) ::
(nat_lit 320,co "_law_names" "_law_names" 586 185 3 315 316 (.ref 317) (.ref 318) 319 599) ::
(nat_lit 321,fo "_law_names" "_law_names" (top 40) .none .none (.str "law_doubthall_k45_lots_shown" 544) 320) ::
(nat_lit 325,co "_law_set" "_law_set" 602 199 2 322 323 .none .none 324 605) ::
(nat_lit 326,fo "_law_set" "_law_set" (top 41) .none .none (.str "law_doubthall_k45_lots_shown" 544) 325) ::
(nat_lit 332,co "_law_due" "_law_due" 608 201 2 327 328 (.ref 329) (.ref 330) 331 617) ::
(nat_lit 333,fo "_law_due" "_law_due" (top 42) .none .none (.str "law_doubthall_k45_lots_shown" 544) 332) ::
(nat_lit 339,co "_law_right" "_law_right" 620 215 2 334 335 (.ref 336) (.ref 337) 338 628) ::
(nat_lit 340,fo "_law_right" "_law_right" (top 43) .none .none (.str "law_doubthall_k45_lots_shown" 544) 339) ::
(nat_lit 346,co "law" "law" 631 227 1 341 342 (.ref 343) (.ref 344) 345 642) ::
(nat_lit 347,fo "law" "law" (top 44) .none .none (.str "law_doubthall_k45_lots_shown" 544) 346) :: []
noncomputable def ka:List Addr:=[2,3,20,21,25,26,32,33,39,40,44,45,49,50,54,55,61,62,68,69,75,76,82,83,87,88,94,95,101,102,108,109,115,116,117,121,122,128,129,135,136,140,141,147,148,161,162,168,169,175,176,178,179,196,197,203,204,206,207,222,223,227,228,230,231,246,247,253,254,256,257,272,273,275,276,282,283,289,290,296,297,303,304,308,309,313,314,320,321,325,326,332,333,339,340,346,347]
theorem h_said:PySem.W.Fast.tw9446332074065402090 PySem.Challenge.rw_doubthall_k45_lots_shown=true:=by kernel_rfl
theorem h_one (w:World) (os:OsState):end_ PySem.Challenge.pw_doubthall_k45_lots_shown (only PySem.Challenge.pw_doubthall_k45_lots_shown (top 44)) ka w os 2451=some (true,openGood (only PySem.Challenge.pw_doubthall_k45_lots_shown (top 44)) (QdO PySem.Challenge.pw_doubthall_k45_lots_shown),(kk w.params).map fun x=>some x.2):=by kernel_rfl
end K45
open PySem PySem.W PyProof.Rows
set_option maxRecDepth 100000 in
set_option maxHeartbeats 8000000 in
theorem PySem.Challenge.cw_doubthall_k45_lots_shown_holds : PySem.Challenge.rw_doubthall_k45_lots_shown.Holds := by
  refine HD.opens (K:=K45.kk) (as:=K45.ka) (st:=K45.top 44) (N:=2451) K45.h_said (by kernel_rfl) (fun s=>by kernel_rfl) (by kernel_rfl) K45.h_one (fun P=>by kernel_rfl) (by kernel_rfl) (by kernel_rfl) (by kernel_rfl) (by kernel_rfl) ⟨rfl,rfl,rfl,rfl,rfl,by decide +kernel⟩ ?hw ?hc
  (case hw=>w_witness2)
  k_fill
  refine K45.walk (l:=PySem.Challenge.rw_doubthall_k45_lots_shown) rfl rfl (fun w h Y=>Y) L2.PM.trueOn_ok ?F
  case F =>
    intro w mg fa h KX G hmg
    refine' K45.all_mk K45.law_true KX G hmg ?aC0 ?aC1 ?aC2 ?aC3 ?aC4 ?gC0 ?rC0 ?pC1 ?hC1 ?oC1 ?sC1 ?mC1 ?kC1 ?n1_word ?n1_name ?n1_reason ?n1_pairs ?n1_camp ?n1_other ?pC2 ?hC2 ?oC2 ?sC2 ?mC2 ?kC2 ?n2_word ?n2_name ?n2_reason ?n2_pairs ?n2_camp ?n2_other ?pC3 ?hC3 ?oC3 ?sC3 ?mC3 ?kC3 ?n3_word ?n3_name ?n3_reason ?n3_pairs ?n3_camp ?n3_other ?pC4 ?hC4 ?oC4 ?sC4 ?mC4 ?kC4 ?n4_word ?n4_name ?n4_reason ?n4_pairs ?n4_camp ?n4_other ?isn ?ist ?isa1 ?ism1 ?isa2 ?ism2 ?isa3 ?ism3 ?isa4 ?ism4 ?isk_Maybe ?isy_Maybe ?is_Maybe_1 ?ne_Maybe_1 ?is_Maybe_2 ?ne_Maybe_2 ?is_Maybe_3 ?is_Maybe_4 ?ne_Maybe_4 ?isk_Never ?isy_Never ?is_Never_1 ?ne_Never_1 ?is_Never_2 ?ne_Never_2 ?is_Never_3 ?ne_Never_3 ?is_Never_4 ?isk_Settled ?isy_Settled ?is_Settled_1 ?is_Settled_2 ?ne_Settled_2 ?is_Settled_3 ?ne_Settled_3 ?is_Settled_4 ?ne_Settled_4 ?isk_Sure ?isy_Sure ?is_Sure_1 ?ne_Sure_1 ?is_Sure_2 ?is_Sure_3 ?ne_Sure_3 ?is_Sure_4 ?ne_Sure_4 ?a0 ?l0 ?c0 ?k0 ?a1 ?l1 ?c1 ?k1 ?a2 ?l2 ?c2 ?k2 ?a3 ?l3 ?c3 ?k3 ?a4 ?l4 ?c4 ?k4 ?a5 ?l5 ?c5 ?k5 ?a6 ?l6 ?c6 ?k6 ?a7 ?l7 ?c7 ?k7 ?a8 ?l8 ?c8 ?k8 ?a9 ?l9 ?c9 ?k9 ?a10 ?l10 ?c10 ?k10 ?a11 ?l11 ?c11 ?k11 ?a12 ?l12 ?c12 ?k12 ?a13 ?l13 ?c13 ?k13 ?a14 ?l14 ?c14 ?k14 ?a15 ?i15 ?l15 ?c15 ?k15 ?a16 ?i16 ?l16 ?c16 ?k16 ?a17 ?i17 ?l17 ?c17 ?k17 ?a18 ?i18 ?l18 ?c18 ?k18 ?a19 ?l19 ?c19 ?k19 ?a20 ?l20 ?c20 ?k20 ?a21 ?l21 ?c21 ?k21 ?a22 ?l22 ?c22 ?k22 ?a23 ?l23 ?c23 ?k23 ?a24 ?l24 ?c24 ?k24 ?a25 ?l25 ?c25 ?k25 ?a26 ?l26 ?c26 ?k26 ?a27 ?l27 ?c27 ?k27 ?a28 ?l28 ?c28 ?k28 ?t28 ?a29 ?l29 ?c29 ?k29 ?a30 ?l30 ?c30 ?k30 ?a31 ?l31 ?c31 ?k31 ?a32 ?l32 ?c32 ?k32 ?a33_1 ?i33 ?l33 ?c33 ?k33 ?a34 ?l34 ?c34 ?k34 ?a35_2 ?i35 ?l35 ?c35 ?k35 ?a36_3 ?i36 ?l36 ?c36 ?k36 ?a37_4 ?i37 ?l37 ?c37 ?k37 ?a38 ?l38 ?c38 ?k38 ?a39 ?l39 ?c39 ?k39 ?z_any ?z_enumerate ?z_isinstance ?z_len ?z_list ?z_range ?z_reversed ?z_set ?z_sorted ?z_str ?z_tuple ?dC
    (case aC0=>k_is)
    (case aC1=>k_is)
    (case aC2=>k_is)
    (case aC3=>k_is)
    (case aC4=>k_is)
    (case gC0=>k_is)
    (case rC0=>k_is)
    (case pC1=>k_is)
    (case hC1=>k_is)
    (case oC1=>k_is)
    (case sC1=>k_is)
    (case mC1=>k_is)
    (case kC1=>k_is)
    (case n1_word=>k_is)
    (case n1_name=>k_is)
    (case n1_reason=>k_is)
    (case n1_pairs=>k_is)
    (case n1_camp=>k_is)
    (case n1_other=>k_is)
    (case pC2=>k_is)
    (case hC2=>k_is)
    (case oC2=>k_is)
    (case sC2=>k_is)
    (case mC2=>k_is)
    (case kC2=>k_is)
    (case n2_word=>k_is)
    (case n2_name=>k_is)
    (case n2_reason=>k_is)
    (case n2_pairs=>k_is)
    (case n2_camp=>k_is)
    (case n2_other=>k_is)
    (case pC3=>k_is)
    (case hC3=>k_is)
    (case oC3=>k_is)
    (case sC3=>k_is)
    (case mC3=>k_is)
    (case kC3=>k_is)
    (case n3_word=>k_is)
    (case n3_name=>k_is)
    (case n3_reason=>k_is)
    (case n3_pairs=>k_is)
    (case n3_camp=>k_is)
    (case n3_other=>k_is)
    (case pC4=>k_is)
    (case hC4=>k_is)
    (case oC4=>k_is)
    (case sC4=>k_is)
    (case mC4=>k_is)
    (case kC4=>k_is)
    (case n4_word=>k_is)
    (case n4_name=>k_is)
    (case n4_reason=>k_is)
    (case n4_pairs=>k_is)
    (case n4_camp=>k_is)
    (case n4_other=>k_is)
    (case isn=>k_is)
    (case ist=>k_is)
    (case isa1=>k_is)
    (case ism1=>k_is)
    (case isa2=>k_is)
    (case ism2=>k_is)
    (case isa3=>k_is)
    (case ism3=>k_is)
    (case isa4=>k_is)
    (case ism4=>k_is)
    (case isk_Maybe=>k_is)
    (case isy_Maybe=>k_is)
    (case is_Maybe_1=>k_is)
    (case ne_Maybe_1=>rfl)
    (case is_Maybe_2=>k_is)
    (case ne_Maybe_2=>rfl)
    (case is_Maybe_3=>k_is)
    (case is_Maybe_4=>k_is)
    (case ne_Maybe_4=>rfl)
    (case isk_Never=>k_is)
    (case isy_Never=>k_is)
    (case is_Never_1=>k_is)
    (case ne_Never_1=>rfl)
    (case is_Never_2=>k_is)
    (case ne_Never_2=>rfl)
    (case is_Never_3=>k_is)
    (case ne_Never_3=>rfl)
    (case is_Never_4=>k_is)
    (case isk_Settled=>k_is)
    (case isy_Settled=>k_is)
    (case is_Settled_1=>k_is)
    (case is_Settled_2=>k_is)
    (case ne_Settled_2=>rfl)
    (case is_Settled_3=>k_is)
    (case ne_Settled_3=>rfl)
    (case is_Settled_4=>k_is)
    (case ne_Settled_4=>rfl)
    (case isk_Sure=>k_is)
    (case isy_Sure=>k_is)
    (case is_Sure_1=>k_is)
    (case ne_Sure_1=>rfl)
    (case is_Sure_2=>k_is)
    (case is_Sure_3=>k_is)
    (case ne_Sure_3=>rfl)
    (case is_Sure_4=>k_is)
    (case ne_Sure_4=>rfl)
    (case a0=>k_is)
    (case l0=>k_is)
    (case c0=>k_is)
    (case k0=>k_is)
    (case a1=>k_is)
    (case l1=>k_is)
    (case c1=>k_is)
    (case k1=>k_is)
    (case a2=>k_is)
    (case l2=>k_is)
    (case c2=>k_is)
    (case k2=>k_is)
    (case a3=>k_is)
    (case l3=>k_is)
    (case c3=>k_is)
    (case k3=>k_is)
    (case a4=>k_is)
    (case l4=>k_is)
    (case c4=>k_is)
    (case k4=>k_is)
    (case a5=>k_is)
    (case l5=>k_is)
    (case c5=>k_is)
    (case k5=>k_is)
    (case a6=>k_is)
    (case l6=>k_is)
    (case c6=>k_is)
    (case k6=>k_is)
    (case a7=>k_is)
    (case l7=>k_is)
    (case c7=>k_is)
    (case k7=>k_is)
    (case a8=>k_is)
    (case l8=>k_is)
    (case c8=>k_is)
    (case k8=>k_is)
    (case a9=>k_is)
    (case l9=>k_is)
    (case c9=>k_is)
    (case k9=>k_is)
    (case a10=>k_is)
    (case l10=>k_is)
    (case c10=>k_is)
    (case k10=>k_is)
    (case a11=>k_is)
    (case l11=>k_is)
    (case c11=>k_is)
    (case k11=>k_is)
    (case a12=>k_is)
    (case l12=>k_is)
    (case c12=>k_is)
    (case k12=>k_is)
    (case a13=>k_is)
    (case l13=>k_is)
    (case c13=>k_is)
    (case k13=>k_is)
    (case a14=>k_is)
    (case l14=>k_is)
    (case c14=>k_is)
    (case k14=>k_is)
    (case a15=>k_is)
    (case i15=>k_is)
    (case l15=>k_is)
    (case c15=>k_is)
    (case k15=>k_is)
    (case a16=>k_is)
    (case i16=>k_is)
    (case l16=>k_is)
    (case c16=>k_is)
    (case k16=>k_is)
    (case a17=>k_is)
    (case i17=>k_is)
    (case l17=>k_is)
    (case c17=>k_is)
    (case k17=>k_is)
    (case a18=>k_is)
    (case i18=>k_is)
    (case l18=>k_is)
    (case c18=>k_is)
    (case k18=>k_is)
    (case a19=>k_is)
    (case l19=>k_is)
    (case c19=>k_is)
    (case k19=>k_is)
    (case a20=>k_is)
    (case l20=>k_is)
    (case c20=>k_is)
    (case k20=>k_is)
    (case a21=>k_is)
    (case l21=>k_is)
    (case c21=>k_is)
    (case k21=>k_is)
    (case a22=>k_is)
    (case l22=>k_is)
    (case c22=>k_is)
    (case k22=>k_is)
    (case a23=>k_is)
    (case l23=>k_is)
    (case c23=>k_is)
    (case k23=>k_is)
    (case a24=>k_is)
    (case l24=>k_is)
    (case c24=>k_is)
    (case k24=>k_is)
    (case a25=>k_is)
    (case l25=>k_is)
    (case c25=>k_is)
    (case k25=>k_is)
    (case a26=>k_is)
    (case l26=>k_is)
    (case c26=>k_is)
    (case k26=>k_is)
    (case a27=>k_is)
    (case l27=>k_is)
    (case c27=>k_is)
    (case k27=>k_is)
    (case a28=>k_is)
    (case l28=>k_is)
    (case c28=>k_is)
    (case k28=>k_is)
    (case t28=>k_is)
    (case a29=>k_is)
    (case l29=>k_is)
    (case c29=>k_is)
    (case k29=>k_is)
    (case a30=>k_is)
    (case l30=>k_is)
    (case c30=>k_is)
    (case k30=>k_is)
    (case a31=>k_is)
    (case l31=>k_is)
    (case c31=>k_is)
    (case k31=>k_is)
    (case a32=>k_is)
    (case l32=>k_is)
    (case c32=>k_is)
    (case k32=>k_is)
    (case a33_1=>k_is)
    (case i33=>k_is)
    (case l33=>k_is)
    (case c33=>k_is)
    (case k33=>k_is)
    (case a34=>k_is)
    (case l34=>k_is)
    (case c34=>k_is)
    (case k34=>k_is)
    (case a35_2=>k_is)
    (case i35=>k_is)
    (case l35=>k_is)
    (case c35=>k_is)
    (case k35=>k_is)
    (case a36_3=>k_is)
    (case i36=>k_is)
    (case l36=>k_is)
    (case c36=>k_is)
    (case k36=>k_is)
    (case a37_4=>k_is)
    (case i37=>k_is)
    (case l37=>k_is)
    (case c37=>k_is)
    (case k37=>k_is)
    (case a38=>k_is)
    (case l38=>k_is)
    (case c38=>k_is)
    (case k38=>k_is)
    (case a39=>k_is)
    (case l39=>k_is)
    (case c39=>k_is)
    (case k39=>k_is)
    (case z_any=>k_is)
    (case z_enumerate=>k_is)
    (case z_isinstance=>k_is)
    (case z_len=>k_is)
    (case z_list=>k_is)
    (case z_range=>k_is)
    (case z_reversed=>k_is)
    (case z_set=>k_is)
    (case z_sorted=>k_is)
    (case z_str=>k_is)
    (case z_tuple=>k_is)
    (case dC=>decide)
