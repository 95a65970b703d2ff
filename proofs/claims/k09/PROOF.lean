import PyProof.Rows.All
import Wide.All
import OpenK.AllK
import Wide.FinOn
import Lean
import PyProof.EqAt
import PyProof.EqKinds
import PyProof.TupleCall
import KE.KMinBuiltin
import KE.KTryMore
import PyProof.ExcAttrAll.ValueError
import PyProof.ListRange
import PyProof.Rows.SortWalk
import PySem.Challenge.RW_switchlamps_k09_refused
set_option Elab.async false
set_option linter.all false
set_option maxRecDepth 100000
namespace L2
open PySem PySem.Spec PyProof.Rows
abbrev Key := Sum Int Str
def keyIs : Key → Value → Bool
  | .inl k, v => Value.isInt k v
  | .inr x, v => Value.isStrOf x v
def keyH (w : World) : Key → Int
  | .inl k => hashInt k
  | .inr x => hashStr w x
theorem keyIs_shape : ∀ {k : Key} {v : Value}, keyIs k v = true → (∃ i t, k = Sum.inl i ∧ v = Value.int i t) ∨ (∃ x t, k = Sum.inr x ∧ v = Value.str x t)
  | .inl i, v, h => by
    obtain ⟨t, e⟩ := Value.isInt_shape (k := i) (v := v) h
    exact .inl ⟨i, t, rfl, e⟩
  | .inr x, v, h => by
    obtain ⟨t, e⟩ := Value.isStrOf_shape (x := x) (v := v) h
    exact .inr ⟨x, t, rfl, e⟩
theorem key_ll (a b : Int) : decide ((Sum.inl a : Key) = Sum.inl b) = (a == b) := by
  by_cases e : a = b
  · subst e; simp
  · have h : ¬ (Sum.inl a : Key) = Sum.inl b := fun q => e (Sum.inl.inj q)
    rw [decide_eq_false h]
    exact (beq_eq_false_iff_ne.mpr e).symm
theorem key_rr (a b : Str) : decide ((Sum.inr a : Key) = Sum.inr b) = decide (a = b) := by
  by_cases e : a = b
  · subst e; simp
  · have h : ¬ (Sum.inr a : Key) = Sum.inr b := fun q => e (Sum.inr.inj q)
    rw [decide_eq_false h, decide_eq_false e]
theorem key_lr (a : Int) (b : Str) : decide ((Sum.inl a : Key) = Sum.inr b) = false := decide_eq_false (fun q => nomatch q)
theorem key_rl (a : Str) (b : Int) : decide ((Sum.inr a : Key) = Sum.inl b) = false := decide_eq_false (fun q => nomatch q)
def mixKind (prog : Program) (w : World) : PySem.KeyKind prog w Key where
  is := keyIs
  hash := keyH w
  inj := fun v a b ha hb => by
    rcases keyIs_shape ha with ⟨i, t, rfl, rfl⟩ | ⟨x, t, rfl, rfl⟩
    · rcases keyIs_shape hb with ⟨j, u, rfl, e⟩ | ⟨y, u, rfl, e⟩
      · injection e with e1 _; rw [e1]
      · exact nomatch e
    · rcases keyIs_shape hb with ⟨j, u, rfl, e⟩ | ⟨y, u, rfl, e⟩
      · exact nomatch e
      · injection e with e1 _; rw [e1]
  byValue := fun k v h => by
    rcases keyIs_shape h with ⟨i, t, rfl, rfl⟩ | ⟨x, t, rfl, rfl⟩ <;> rfl
  pyHash := fun hv h => by
    rcases keyIs_shape hv with ⟨i, t, rfl, rfl⟩ | ⟨x, t, rfl, rfl⟩
    · exact wpAny_pyHash_int h
    · exact wpAny_pyHash_str h
  eqBool := fun hu hv h => by
    rcases keyIs_shape hu with ⟨i, t, rfl, rfl⟩ | ⟨x, t, rfl, rfl⟩
    · rcases keyIs_shape hv with ⟨j, u, rfl, rfl⟩ | ⟨y, u, rfl, rfl⟩
      · rw [key_ll] at h; exact wpAny_eqBool_int h
      · rw [key_lr] at h; exact SeqAt.EqAt.int_str i t y u _ _ _ _ h
    · rcases keyIs_shape hv with ⟨j, u, rfl, rfl⟩ | ⟨y, u, rfl, rfl⟩
      · rw [key_rl] at h; exact SeqAt.EqAt.str_int x t j u _ _ _ _ h
      · rw [key_rr] at h; exact wpAny_eqBool_str h
  «strs» := fun k x t v h => by
    rcases keyIs_shape h with ⟨i, u, rfl, e⟩ | ⟨y, u, rfl, e⟩
    · exact nomatch e
    · injection e with e1 _
      subst e1
      cases v <;> rfl
end L2
namespace L2
open PySem PySem.Spec PyProof.Rows
inductive V where
  | non | bl (b : Bool) | int (i : Int) | str (x : Str) | byt (b : Array UInt8) | flt (b : UInt64) | ref (a : Addr) | ty (n : String)
  deriving DecidableEq
def RelV : V → Value → Prop
  | .non, u => u = Value.none
  | .bl b, u => u = Value.bool b
  | .int i, u => ∃ t, u = Value.int i t
  | .str x, u => ∃ t, u = Value.str x t
  | .byt b, u => ∃ t, u = Value.bytes b t
  | .flt b, u => ∃ t, u = Value.float b t
  | .ref a, u => u = Value.ref a
  | .ty n, u => u = Value.type n
abbrev Vals : List V → List Value → Prop := Paired RelV
theorem Vals.length {xs : List V} {us : List Value} (r : Vals xs us) : xs.length = us.length := Paired.length r
theorem Vals.get : ∀ {xs : List V} {us : List Value} {i : Nat} {x : V}, Vals xs us → xs[i]? = some x → ∃ u, us[i]? = some u ∧ RelV x u
  | _, _, _, _, .nil, e => by simp at e
  | _, _, 0, _, .cons r _, e => by simp at e; subst e; exact ⟨_, rfl, r⟩
  | _, _, i + 1, x, .cons _ t, e => by
    obtain ⟨u, h1, h2⟩ := Vals.get (i := i) (x := x) t (by simpa using e)
    exact ⟨u, by simpa using h1, h2⟩
theorem Vals.set {x : V} {u : Value} (r : RelV x u) : ∀ {xs : List V} {us : List Value} (i : Nat), Vals xs us → Vals (xs.set i x) (us.set i u)
  | _, _, _, .nil => .nil
  | _, _, 0, .cons _ t => .cons r t
  | _, _, i + 1, .cons q t => .cons q (Vals.set r i t)
theorem Vals.append : ∀ {xs ys : List V} {us ws : List Value}, Vals xs us → Vals ys ws → Vals (xs ++ ys) (us ++ ws)
  | _, _, _, _, .nil, s => s
  | _, _, _, _, .cons r t, s => .cons r (Vals.append t s)
def RelO : Option V → Option Value → Prop
  | some v, some u => RelV v u
  | none, none => True
  | _, _ => False
def KV {κ : Type} : List (κ × V) → List (κ × Value) → Prop := Paired fun (p : κ × V) (q : κ × Value) => p.1 = q.1 ∧ RelV p.2 q.2
def kV : Key → V
  | .inl i => .int i
  | .inr x => .str x
inductive HO where
  | lst (xs : List V)
  | tup (xs : List V)
  | dK (kvs : List (Key × V)) | dT (kvs : List (List Key × V))
  | set (S : Int → Bool) (n : Nat)
  | ins (C dx : Addr) (fs : List (Str × V))
  | own (x : Addr)
  | xd (fs : List (Str × V))
  | met (f x : Addr)
  | rng (lo hi : Int)
  | frz (o : Obj) (u : HO)
  | tbl (ps : Array Value)
  | ext (φ : Heap → Prop)
abbrev Hp := Addr → Option HO
def upd (H : Hp) (a : Addr) (o : HO) : Hp := fun b => if b = a then some o else H b
theorem upd_same {H : Hp} {a : Addr} {o : HO} : upd H a o a = some o := by unfold upd; rw [if_pos rfl]
theorem upd_ne {H : Hp} {a b : Addr} {o : HO} (h : b ≠ a) : upd H a o b = H b := by unfold upd; rw [if_neg h]
theorem upd_upd {H : Hp} {a : Addr} {o u : HO} : upd (upd H a o) a u = upd H a u := by
  funext b; unfold upd; split <;> rfl
theorem ne_of {H : Hp} {a b : Addr} {o u : HO} (h : H a = some o) (h' : H b = some u) (d : o ≠ u) : a ≠ b := by
  intro e; subst e; rw [h] at h'; exact d (Option.some.inj h')
theorem ne_of_none {H : Hp} {a b : Addr} {o : HO} (h : H a = some o) (h' : H b = none) : a ≠ b := by
  intro e; subst e; rw [h] at h'; cases h'
section
variable (P : Program) (w : World)
def ObjOk (H : Hp) (h : Heap) (a : Addr) : HO → Prop
  | .lst xs => xs.length ≤ sizeLine ∧ ∃ (its : List Value) (n : Nat), Vals xs its ∧ h.get? a = some { cls := .type "list", data := .seq its.toArray n }
  | .tup xs => xs.length ≤ sizeLine ∧ ∃ its : List Value, Vals xs its ∧ IsTup h a its.toArray
  | .dK kvs => kvs.length ≤ sizeLine ∧ (a == sysModules) = false ∧ ∃ vs, KV kvs vs ∧ h.DictOf (mixKind P w) a vs
  | .dT kvs => kvs.length ≤ sizeLine ∧ (a == sysModules) = false ∧ ∃ xs : List (List Key × Addr × Value),
      Paired (fun (p : List Key × V) (q : List Key × Addr × Value) => p.1 = q.1 ∧ H q.2.1 = some (.tup (p.1.map kV)) ∧ RelV p.2 q.2.2) kvs xs ∧
      ∃ o es ep, h.get? a = some o ∧ o.ExactDict ∧ o.data = .dict es ep ∧ es.toList = xs.map (entryOfKey (tupleKind (mixKind P w))) ∧ (xs.map (·.1)).Nodup
  | .set S n => h.SetOf (intKind P w) a S n
  | .ins C dx fs => H dx = some (.own a) ∧ fs.length ≤ 1000 ∧ dx ≠ a ∧ h.get? a = some (PySem.W.instObj C dx) ∧
      ∃ mA, h.Ns1 dx mA ∧ (∀ f, RelO (fs.lookup f) (mA f)) ∧ PySem.Within mA (fs.map (·.1))
  | .own _ => ∃ o, h.get? a = some o
  | .xd fs => ∃ mA, h.Ns1 a mA ∧ ∀ f, RelO (fs.lookup f) (mA f)
  | .rng lo hi => ∃ t u v, h.get? a = some { cls := .type "range", data := .fields #[.int lo t, .int hi u, .int 1 v] }
  | .frz o u => h.get? a = some o ∧ ObjOk H h a u
  | .tbl ps => h.get? a = some { cls := .none, data := .fields ps }
  | .met f x => h.get? a = some (PySem.W.methodObj (.ref f) (.ref x))
  | .ext φ => φ h ∧ (∃ o, h.get? a = some o) ∧ ∀ h1 h2 : Heap, φ h1 → (∀ o, h1.get? a = some o → h2.get? a = some o) → φ h2
def HOk (H : Hp) (h : Heap) : Prop := ∀ a o, H a = some o → ObjOk P w H h a o
end
section
variable {P : Program} {w : World} {H H' : Hp} {h h' : Heap} {a : Addr} {o : HO}
theorem ObjOk.lt (x : ObjOk P w H h a o) : a < h.objs.size := by
  cases o with
  | lst xs => obtain ⟨_, _, _, _, e⟩ := x; exact Heap.lt_size e
  | tup xs => obtain ⟨_, _, _, p⟩ := x; exact p.lt
  | dK kvs => obtain ⟨_, _, _, _, o, _, _, e, _⟩ := x; exact Heap.lt_size e
  | dT kvs => obtain ⟨_, _, _, _, o, _, _, e, _⟩ := x; exact Heap.lt_size e
  | set S n => obtain ⟨o, _, _, _, e, _⟩ := x; exact Heap.lt_size e
  | ins C dx fs => obtain ⟨_, _, _, e, _⟩ := x; exact Heap.lt_size e
  | own y => obtain ⟨_, e⟩ := x; exact Heap.lt_size e
  | xd fs => obtain ⟨_, ⟨_, _, _, e, _⟩, _⟩ := x; exact Heap.lt_size e
  | rng lo hi => obtain ⟨_, _, _, e⟩ := x; exact Heap.lt_size e
  | frz ob u => obtain ⟨e, _⟩ := x; exact Heap.lt_size e
  | tbl ps => exact Heap.lt_size (show h.get? a = some _ from x)
  | met f y => exact Heap.lt_size (show h.get? a = some _ from x)
  | ext φ => obtain ⟨_, ⟨_, e⟩, _⟩ := x; exact Heap.lt_size e
theorem Paired.mapP {α β : Type} {F G : α → β → Prop} : ∀ {l₁ : List α} {l₂ : List β}, Paired F l₁ l₂ → (∀ a b, F a b → G a b) → Paired G l₁ l₂
  | _, _, .nil, _ => .nil
  | _, _, .cons r t, f => .cons (f _ _ r) (Paired.mapP t f)
theorem ObjOk.stay (x : ObjOk P w H h a o) (k : ∀ b u, (b = a ∨ H b = some (.own a)) → h.get? b = some u → h'.get? b = some u)
    (ho : ∀ b, H b = some (.own a) → H' b = some (.own a)) (ht : ∀ b xs, H b = some (.tup xs) → H' b = some (.tup xs)) : ObjOk P w H' h' a o := by
  induction o with
  | lst xs => obtain ⟨z, its, n, r, e⟩ := x; exact ⟨z, its, n, r, k _ _ (.inl rfl) e⟩
  | tup xs => obtain ⟨z, its, r, ob, e, c⟩ := x; exact ⟨z, its, r, ob, k _ _ (.inl rfl) e, c⟩
  | dK kvs => obtain ⟨z, y, vs, r, ob, es, ep, e, c⟩ := x; exact ⟨z, y, vs, r, ob, es, ep, k _ _ (.inl rfl) e, c⟩
  | dT kvs =>
    obtain ⟨z, y, xs, r, ob, es, ep, e, c⟩ := x
    exact ⟨z, y, xs, Paired.mapP r fun p q z => ⟨z.1, ht _ _ z.2.1, z.2.2⟩, ob, es, ep, k _ _ (.inl rfl) e, c⟩
  | set S n => obtain ⟨ob, es, ep, t, e, c⟩ := x; exact ⟨ob, es, ep, t, k _ _ (.inl rfl) e, c⟩
  | ins C dx fs =>
    obtain ⟨d, z, ne, e, mA, ⟨od, es, ep, e2, c⟩, r⟩ := x
    exact ⟨ho _ d, z, ne, k _ _ (.inl rfl) e, mA, ⟨od, es, ep, k _ _ (.inr d) e2, c⟩, r⟩
  | own y => obtain ⟨ob, e⟩ := x; exact ⟨ob, k _ _ (.inl rfl) e⟩
  | xd fs => obtain ⟨mA, ⟨od, es, ep, e, c⟩, r⟩ := x; exact ⟨mA, ⟨od, es, ep, k _ _ (.inl rfl) e, c⟩, r⟩
  | rng lo hi => obtain ⟨t, u, v, e⟩ := x; exact ⟨t, u, v, k _ _ (.inl rfl) e⟩
  | frz ob u ih => obtain ⟨e, q⟩ := x; exact ⟨k _ _ (.inl rfl) e, ih q⟩
  | tbl ps =>
    have e : h.get? a = some { cls := .none, data := .fields ps } := x
    show h'.get? a = some { cls := .none, data := .fields ps }
    exact k a _ (.inl rfl) e
  | met f y =>
    have e : h.get? a = some (PySem.W.methodObj (.ref f) (.ref y)) := x
    show h'.get? a = some (PySem.W.methodObj (.ref f) (.ref y))
    exact k a _ (.inl rfl) e
  | ext φ => obtain ⟨p, ⟨o, e⟩, st⟩ := x; exact ⟨st _ _ p fun o q => k _ _ (.inl rfl) q, ⟨o, k _ _ (.inl rfl) e⟩, st⟩
theorem HOk.lt (x : HOk P w H h) (e : H a = some o) : a < h.objs.size := (x a o e).lt
theorem HOk.fresh (x : HOk P w H h) (e : h.objs.size ≤ a) : H a = none := by
  cases q : H a with
  | none => rfl
  | some u => exact absurd (Nat.lt_of_lt_of_le (x.lt q) e) (Nat.lt_irrefl _)
theorem HOk.kept (x : HOk P w H h) (k : ∀ b u, h.get? b = some u → h'.get? b = some u) : HOk P w H h' := fun a o e =>
  (x a o e).stay (fun b u _ q => k b u q) (fun _ q => q) fun _ _ q => q
theorem HOk.laid (x : HOk P w H h) (k : ∀ b u, h.get? b = some u → h'.get? b = some u) (hp : h.objs.size ≤ a) (new : ObjOk P w (upd H a o) h' a o) : HOk P w (upd H a o) h' := fun b u e => by
  have hn := x.fresh hp
  by_cases hb : b = a
  · subst hb; rw [upd_same] at e; cases e; exact new
  · rw [upd_ne hb] at e
    exact (x b u e).stay (fun c v _ q => k c v q) (fun c q => by rw [upd_ne (ne_of_none q hn)]; exact q) fun c xs q => by rw [upd_ne (ne_of_none q hn)]; exact q
end
def Rd (H : Hp) (a : Addr) (u : HO) : Prop := H a = some u ∨ ∃ o, H a = some (.frz o u)
theorem Rd.ok {P : Program} {w : World} {H : Hp} {h : Heap} {a : Addr} {u : HO} (r : Rd H a u) (x : HOk P w H h) : ObjOk P w H h a u := by
  rcases r with r | ⟨o, r⟩
  · exact x a u r
  · obtain ⟨_, q⟩ := x a _ r
    exact q
def Mut : Option HO → Prop
  | some (.lst _) => True
  | some (.dK _) => True
  | some (.dT _) => True
  | some (.set _ _) => True
  | some (.ins _ _ _) => True
  | some (.ext _) => True
  | _ => False
section
variable {P : Program} {w : World} {H : Hp} {h h' : Heap} {x e : Addr} {o' : HO}
theorem HOk.write (ok : HOk P w H h) (mu : Mut (H x)) (he : e = x ∨ H e = some (.own x)) (k : ∀ b u, b ≠ e → h.get? b = some u → h'.get? b = some u) (heo : ∃ u, h'.get? e = some u)
    (new : ObjOk P w (upd H x o') h' x o') : HOk P w (upd H x o') h' := fun b u q => by
  have nown : ∀ c y, H c = some (.own y) → c ≠ x := fun c y r z => by subst z; rw [r] at mu; exact mu
  have ntup : ∀ c xs, H c = some (.tup xs) → c ≠ x := fun c xs r z => by subst z; rw [r] at mu; exact mu
  by_cases hb : b = x
  · subst hb; rw [upd_same] at q; cases q; exact new
  · rw [upd_ne hb] at q
    by_cases hbe : b = e
    · have q' : H b = some (.own x) := by
        rcases he with z | z
        · exact absurd (hbe.trans z) hb
        · rw [hbe]; exact z
      rw [q] at q'; cases q'
      obtain ⟨v, hv⟩ := heo
      exact ⟨v, by rw [hbe]; exact hv⟩
    · refine (ok b u q).stay (fun c v hc r => k c v ?_ r) (fun c r => by rw [upd_ne (nown c b r)]; exact r) fun c xs r => by rw [upd_ne (ntup c xs r)]; exact r
      rcases hc with rfl | hc
      · exact hbe
      · rintro rfl
        rcases he with z | z
        · exact nown c b hc z
        · rw [hc] at z; cases z; exact hb rfl
end
structure Un (fs ex : List Addr) (H H' : Hp) (h h' : Heap) : Prop where
  keep : ∀ b o, h.get? b = some o → H b = none → b ∉ fs → b ∉ ex → h'.get? b = some o
  slot : ∀ b o, h.get? b = some o → H b = none → b ∈ fs → b ∉ ex → ∃ sl, h'.get? b = some { o with slots := sl }
  free : ∀ b o, h.get? b = some o → H b = none → b ∉ ex → H' b = none
  there : ∀ b o, h.get? b = some o → b ∉ ex → ∃ o', h'.get? b = some o'
  tups : ∀ b xs, H b = some (.tup xs) → H' b = some (.tup xs)
  frzs : ∀ b o u, H b = some (.frz o u) → H' b = some (.frz o u)
  tbls : ∀ b ps, H b = some (.tbl ps) → ∃ more, H' b = some (.tbl (ps ++ more))
section
variable {fs fs' ex ex' : List Addr} {H H1 H2 : Hp} {h h1 h2 h' : Heap} {a x e : Addr} {o : HO}
theorem Un.any (u : Un fs ex H H1 h h1) {b : Addr} {ob : Obj} (q : h.get? b = some ob) (n : H b = none) (hx : b ∉ ex) : ∃ sl, h1.get? b = some { ob with slots := sl } := by
  by_cases hb : b ∈ fs
  · exact u.slot b ob q n hb hx
  · exact ⟨ob.slots, u.keep b ob q n hb hx⟩
theorem Un.kept (k : ∀ b u, h.get? b = some u → h'.get? b = some u) : Un fs ex H H h h' :=
  ⟨fun b ob q _ _ _ => k b ob q, fun b ob q _ _ _ => ⟨ob.slots, k b ob q⟩, fun _ _ _ n _ => n, fun b ob q _ => ⟨ob, k b ob q⟩, fun _ _ q => q, fun _ _ _ q => q, fun _ ps q => ⟨#[], by rw [q]; simp⟩⟩
theorem Un.refl : Un fs ex H H h h := Un.kept fun _ _ q => q
theorem Un.laid (k : ∀ b u, h.get? b = some u → h'.get? b = some u) (hp : h.objs.size ≤ a) (hn : H a = none) : Un fs ex H (upd H a o) h h' where
  keep := fun b u q _ _ _ => k b u q
  slot := fun b u q _ _ _ => ⟨u.slots, k b u q⟩
  free := fun b u q n _ => by rw [upd_ne (Nat.ne_of_lt (Nat.lt_of_lt_of_le (Heap.lt_size q) hp))]; exact n
  there := fun b u q _ => ⟨u, k b u q⟩
  tups := fun b xs q => by rw [upd_ne (ne_of_none q hn)]; exact q
  frzs := fun b u xs q => by rw [upd_ne (ne_of_none q hn)]; exact q
  tbls := fun b ps q => ⟨#[], by rw [upd_ne (ne_of_none q hn), q]; simp⟩
theorem Un.write (mu : Mut (H x)) (he : e = x ∨ H e = some (.own x)) (k : ∀ b u, b ≠ e → h.get? b = some u → h'.get? b = some u) (heo : ∃ u, h'.get? e = some u) : Un fs ex H (upd H x o) h h' := by
  have hx : ∀ b, H b = none → b ≠ x := fun b n z => by subst z; rw [n] at mu; exact mu
  have hb : ∀ b, H b = none → b ≠ e := fun b n z => by
    subst z
    rcases he with r | r
    · exact hx b n r
    · rw [n] at r; cases r
  have hm : ∀ b u, H b = some u → ¬ Mut (some u) → b ≠ x := fun b u q nm z => by subst z; rw [q] at mu; exact nm mu
  refine ⟨fun b u q n _ _ => k b u (hb b n) q, fun b u q n _ _ => ⟨u.slots, k b u (hb b n) q⟩, fun b u q n _ => by rw [upd_ne (hx b n)]; exact n, fun b u q _ => ?_,
    fun b xs q => by rw [upd_ne (hm b _ q fun z => z)]; exact q, fun b u xs q => by rw [upd_ne (hm b _ q fun z => z)]; exact q, fun b ps q => ⟨#[], by rw [upd_ne (hm b _ q fun z => z), q]; simp⟩⟩
  by_cases hbe : b = e
  · subst hbe; exact heo
  · exact ⟨u, k b u hbe q⟩
end
def trk (h : Heap) (H : Hp) : List Addr := (List.range h.objs.size).filter fun a => (H a).isSome
def hidT (h : Heap) (H : Hp) : Heap := PySem.W.hideAll h (trk h H)
theorem hidT_size (h : Heap) (H : Hp) : (hidT h H).objs.size = h.objs.size := PySem.W.hideAll_size _ _
theorem hidT_get {h : Heap} {H : Hp} {b : Addr} {o : Obj} (e : h.get? b = some o) (n : H b = none) : (hidT h H).get? b = some o :=
  PySem.W.hideAll_get _ e fun hm => by
    have q : (H b).isSome = true := (List.mem_filter.mp hm).2
    rw [n] at q; simp at q
theorem of_hidT {h : Heap} {H : Hp} {b : Addr} {o : Obj} (e : (hidT h H).get? b = some o) : h.get? b = some o ∧ H b = none := by
  have e' : h.get? b = some o := PySem.W.of_hideAll (trk h H) e
  refine ⟨e', ?_⟩
  cases q : H b with
  | none => rfl
  | some x =>
    have hm : b ∈ trk h H := List.mem_filter.mpr ⟨List.mem_range.mpr (Heap.lt_size e'), by simp [q]⟩
    have z : (hidT h H).get? b = none := PySem.W.hideAll_none (trk h H) hm
    rw [z] at e; cases e
end L2
namespace L2
open PySem PySem.Spec PyProof.Rows
structure Mod (K : PySem.W.Frag) (mg : Str → Option Value) (base : Heap) : Prop where
  kin : K.In base
  glob : base.Ns mainGlobals mg
  blt : ∃ mb, base.Ns builtinsNs mb ∧ ∀ x : Str, x ≠ "__name__" → mb x = bootBuiltins x
  nolimit : base.NoLimit
structure Cx where
  prog : Program
  w : World
  K : PySem.W.Frag
  mg : Str → Option Value
  base : Heap
  A : Around
  N : List Str
  s₀ : Shared
  H₀ : Hp
  env : Env
  outer : List Env
  stack : List Env
  ex : List Addr
  fn : Str → Bool
  calm : Bool
  pn : List (Addr × Obj)
  xe : Value → Shared → Prop
def frs (l : List Env) : List Addr := l.filterMap (·.frame)
abbrev Cx.fs (X : Cx) : List Addr := frs X.outer
def Vis (sc : Scope) (x : Str) : Prop := sc.names.lookup x = some .local ∨ sc.names.lookup x = some .cell ∨ sc.names.lookup x = some .free
def Loc (sc : Scope) (x : Str) : Prop := sc.names.lookup x = some .local ∨ sc.names.lookup x = some .cell
def Look (env : Env) (h : Heap) (m : Str → Option Value) (x : Str) (u : Value) : Prop :=
  (env.kindOf x = some .local ∧ m x = some u) ∨ ((env.kindOf x = some .cell ∨ env.kindOf x = some .free) ∧ ∃ c, env.cells.lookup x = some c ∧ h.IsCell c (some u))
structure Cx.Ok (X : Cx) : Prop where
  mod : Mod X.K X.mg X.base
  kind : X.env.scope.kind = .function
  glob : X.env.globals = mainGlobals
  blt : X.env.builtins = builtinsNs
  above : X.s₀.heap.objs.size ≤ X.env.locals
  inj : ∀ x y c, X.env.cells.lookup x = some c → X.env.cells.lookup y = some c → x = y
  has : ∀ x, (X.env.kindOf x = some .cell ∨ X.env.kindOf x = some .free) → ∃ c, X.env.cells.lookup x = some c
  cab : ∀ x c, X.fn x = true → X.env.cells.lookup x = some c → X.s₀.heap.objs.size ≤ c
  hd : X.calm = true → X.A.handled = none
  frames : X.A.frames = some X.stack
  stk : X.stack = X.outer ∨ (X.stack = X.env :: X.outer ∧ X.env.frame = some X.env.locals)
  exf : ∀ b ∈ X.ex, b ≠ X.env.locals ∧ ∀ x c, X.env.cells.lookup x = some c → c ≠ b
  bs : ∀ b o, X.base.get? b = some o → X.s₀.heap.get? b = some o ∧ X.H₀ b = none
  bsz : X.base.objs.size ≤ X.s₀.heap.objs.size
  noex : ∀ b o, X.base.get? b = some o → b ∉ X.ex
  exfs : ∀ b ∈ X.ex, b ∉ X.fs
  funs : X.s₀.heap.FunFrames X.base X.outer
  frf : ∀ b ∈ X.fs, X.H₀ b = none
structure Inv (X : Cx) (pins : List (Addr × Obj)) (σ : List (Option V)) (H : Hp) (s : Shared) : Prop where
  ok : X.Ok
  os : s.os = X.s₀.os
  bare : AllBare s.gens
  base : Un X.fs X.ex X.H₀ H X.s₀.heap s.heap
  loc : ∃ m, s.heap.Ns X.env.locals m ∧ ∀ (i : Nat) (x : Str) (v : V), X.N[i]? = some x → σ[i]? = some (some v) → Vis X.env.scope x → ∃ u, RelV v u ∧ Look X.env s.heap m x u
  cell : ∀ x c, X.env.cells.lookup x = some c → ∃ v, s.heap.IsCell c v
  free : H X.env.locals = none
  freeC : ∀ x c, X.env.cells.lookup x = some c → H c = none
  pin : ∀ p ∈ X.pn ++ pins, s.heap.get? p.1 = some p.2 ∧ H p.1 = none ∧ p.1 ≠ X.env.locals ∧ p.1 ∉ X.fs ∧ ∀ v, p.2.data ≠ .cell v
  hok : HOk X.prog X.w H s.heap
  len : σ.length = X.N.length
section
variable {X : Cx} {pins : List (Addr × Obj)} {σ : List (Option V)} {H H' : Hp} {s : Shared} {h' : Heap}
theorem Cx.Ok.nofr (ok : X.Ok) {b : Addr} {o : Obj} (e : X.base.get? b = some o) : b ∉ X.fs := fun hb => by
  have := (ok.funs.mem hb).1
  rw [e] at this; cases this
theorem Inv.bs (I : Inv X pins σ H s) : ∀ b o, X.base.get? b = some o → s.heap.get? b = some o ∧ H b = none := fun b o e =>
  ⟨I.base.keep b o (I.ok.bs b o e).1 (I.ok.bs b o e).2 (I.ok.nofr e) (I.ok.noex b o e), I.base.free b o (I.ok.bs b o e).1 (I.ok.bs b o e).2 (I.ok.noex b o e)⟩
theorem Inv.bk (I : Inv X pins σ H s) : ∀ b o, X.base.get? b = some o → s.heap.get? b = some o := fun b o e => (I.bs b o e).1
theorem Inv.mod (I : Inv X pins σ H s) : Mod X.K X.mg X.base := I.ok.mod
theorem Inv.kIn (I : Inv X pins σ H s) : X.K.In s.heap := I.ok.mod.kin.keeps I.bk
theorem Inv.lt (I : Inv X pins σ H s) : X.env.locals < s.heap.objs.size := let ⟨_, hn, _⟩ := I.loc; hn.lt
theorem Inv.sz (I : Inv X pins σ H s) : X.s₀.heap.objs.size ≤ s.heap.objs.size := Nat.le_trans I.ok.above (Nat.le_of_lt I.lt)
theorem Inv.nofs (I : Inv X pins σ H s) {a : Addr} (h : s.heap.objs.size ≤ a) : a ∉ X.fs := fun hb => by
  obtain ⟨_, o, ho, _⟩ := I.ok.funs.mem hb
  exact absurd (Nat.lt_of_lt_of_le (Heap.lt_size ho) (Nat.le_trans I.sz h)) (Nat.lt_irrefl _)
theorem Inv.cne (I : Inv X pins σ H s) : ∀ x c, X.env.cells.lookup x = some c → c ≠ X.env.locals := fun x c e z => by
  obtain ⟨v, o, ho, hd⟩ := I.cell x c e
  obtain ⟨m, ⟨o', es, ep, ho', hd', _⟩, _⟩ := I.loc
  rw [z, ho'] at ho; cases ho; rw [hd'] at hd; cases hd
theorem Inv.funs (I : Inv X pins σ H s) : s.heap.FunFrames X.base X.outer := by
  have all : ∀ (l : List Env), (∀ b ∈ frs l, b ∈ X.fs) → X.s₀.heap.FunFrames X.base l → s.heap.FunFrames X.base l := by
    intro l
    induction l with
    | nil => intro _ _; trivial
    | cons env r ih =>
      intro hs hl
      obtain ⟨hk, ⟨L, o, hf, hn, ho, hd⟩, hr⟩ := hl
      have hL : L ∈ X.fs := hs L (by unfold frs; rw [List.filterMap_cons, hf]; exact List.mem_cons_self)
      obtain ⟨sl, e⟩ := I.base.slot L o ho (I.ok.frf L hL) hL fun z => I.ok.exfs L z hL
      exact ⟨hk, ⟨L, _, hf, hn, e, hd⟩, ih (fun b hb => hs b (by unfold frs; rw [List.filterMap_cons, hf]; exact List.mem_cons_of_mem _ hb)) hr⟩
  exact all X.outer (fun _ hb => hb) I.ok.funs
theorem Inv.stack (I : Inv X pins σ H s) : s.heap.FunFrames X.base X.stack := by
  rcases I.ok.stk with e | ⟨e, hf⟩
  · rw [e]; exact I.funs
  · rw [e]
    obtain ⟨m, hn, _⟩ := I.loc
    refine .cons (by rw [I.ok.kind]; decide) hf hn ?_ I.funs
    exact Heap.get?_none_of_le (Nat.le_trans I.ok.bsz I.ok.above)
theorem Inv.stkSub (I : Inv X pins σ H s) : ∀ b ∈ frs X.stack, b ∈ X.env.locals :: X.fs := fun b hb => by
  rcases I.ok.stk with e | ⟨e, hf⟩
  · rw [e] at hb; exact List.mem_cons_of_mem _ hb
  · rw [e] at hb
    unfold frs at hb
    rw [List.filterMap_cons, hf] at hb
    exact hb
theorem Inv.stkFree (I : Inv X pins σ H s) : ∀ b ∈ frs X.stack, H b = none := fun b hb => by
  rcases List.mem_cons.mp (I.stkSub b hb) with e | hb
  · rw [e]; exact I.free
  · obtain ⟨_, o, ho, _⟩ := I.ok.funs.mem hb
    exact I.base.free b o ho (I.ok.frf b hb) fun z => I.ok.exfs b z hb
theorem Inv.step {g' : Array GenState} {t' : Nat} {d' : Drawn} {ch : List Addr} (I : Inv X pins σ H s)
    (hch : ∀ b ∈ ch, (b ∈ X.ex ∨ X.s₀.heap.objs.size ≤ b) ∧ b ≠ X.env.locals ∧ (∀ x c, X.env.cells.lookup x = some c → c ≠ b) ∧ ∀ p ∈ X.pn ++ pins, p.1 ≠ b)
    (keep : ∀ b o, b ≠ X.env.locals → b ∉ X.fs → b ∉ ch → s.heap.get? b = some o → H b = none → h'.get? b = some o)
    (slot : ∀ b o, b ≠ X.env.locals → b ∈ X.fs → b ∉ ch → s.heap.get? b = some o → H b = none → ∃ sl, h'.get? b = some { o with slots := sl }) (free : ∀ b o, b ∉ ch → s.heap.get? b = some o → H b = none → H' b = none)
    (there : ∀ b o, b ∉ ch → s.heap.get? b = some o → ∃ o', h'.get? b = some o')
    (tups : ∀ b xs, H b = some (.tup xs) → H' b = some (.tup xs)) (frzs : ∀ b o u, H b = some (.frz o u) → H' b = some (.frz o u)) (tbls : ∀ b ps, H b = some (.tbl ps) → ∃ more, H' b = some (.tbl (ps ++ more)))
    (ns : ∀ m, s.heap.Ns X.env.locals m → h'.Ns X.env.locals m) (hok : HOk X.prog X.w H' h') (hg : AllBare g') :
    Inv X pins σ H' { s with heap := h', gens := g', drawn := d', toks := t' } := by
  have neL : ∀ b o, X.s₀.heap.get? b = some o → b ≠ X.env.locals := fun b o e => Nat.ne_of_lt (Nat.lt_of_lt_of_le (Heap.lt_size e) I.ok.above)
  have neC : ∀ b o, X.s₀.heap.get? b = some o → b ∉ X.ex → b ∉ ch := fun b o e hx hb => by
    rcases (hch b hb).1 with z | z
    · exact hx z
    · exact absurd (Nat.lt_of_lt_of_le (Heap.lt_size e) z) (Nat.lt_irrefl _)
  have cellK : ∀ x c, X.env.cells.lookup x = some c → ∀ v, s.heap.IsCell c v → h'.IsCell c v := fun x c e v ⟨o, ho, hd⟩ => by
    have nch : c ∉ ch := fun z => (hch c z).2.2.1 x c e rfl
    by_cases hc : c ∈ X.fs
    · obtain ⟨sl, q⟩ := slot c o (I.cne x c e) hc nch ho (I.freeC x c e)
      exact ⟨_, q, hd⟩
    · exact ⟨o, keep c o (I.cne x c e) hc nch ho (I.freeC x c e), hd⟩
  refine ⟨I.ok, I.os, hg, ⟨fun b o e n hb hx => ?_, fun b o e n hb hx => ?_, fun b o e n hx => ?_, fun b o e hx => ?_, fun b xs e => tups b xs (I.base.tups b xs e), fun b o xs e => frzs b o xs (I.base.frzs b o xs e), fun b ps e => ?_⟩, ?_, fun x c e => ?_, ?_, fun x c e => ?_, fun p hp => ?_, hok, I.len⟩
  · exact keep b o (neL b o e) hb (neC b o e hx) (I.base.keep b o e n hb hx) (I.base.free b o e n hx)
  · obtain ⟨sl, e1⟩ := I.base.slot b o e n hb hx
    obtain ⟨sl', e2⟩ := slot b _ (neL b o e) hb (neC b o e hx) e1 (I.base.free b o e n hx)
    exact ⟨sl', e2⟩
  · obtain ⟨o', e1⟩ := I.base.there b o e hx
    exact free b o' (neC b o e hx) e1 (I.base.free b o e n hx)
  · obtain ⟨o', e1⟩ := I.base.there b o e hx
    exact there b o' (neC b o e hx) e1
  · obtain ⟨m1, e1⟩ := I.base.tbls b ps e
    obtain ⟨m2, e2⟩ := tbls b _ e1
    exact ⟨m1 ++ m2, by rw [e2, Array.append_assoc]⟩
  · obtain ⟨m, hn, hl⟩ := I.loc
    refine ⟨m, ns m hn, fun i x v e1 e2 e3 => ?_⟩
    obtain ⟨u, r, l⟩ := hl i x v e1 e2 e3
    refine ⟨u, r, ?_⟩
    rcases l with l | ⟨k, c, e, z⟩
    · exact .inl l
    · exact .inr ⟨k, c, e, cellK x c e _ z⟩
  · obtain ⟨v, z⟩ := I.cell x c e
    exact ⟨v, cellK x c e v z⟩
  · obtain ⟨m, ⟨o, _, _, ho, _⟩, _⟩ := I.loc
    exact free _ o (fun z => (hch _ z).2.1 rfl) ho I.free
  · obtain ⟨v, o, ho, hd⟩ := I.cell x c e
    exact free c o (fun z => (hch c z).2.2.1 x c e rfl) ho (I.freeC x c e)
  · obtain ⟨e, n, ne, nf, d⟩ := I.pin p hp
    have nch : p.1 ∉ ch := fun z => (hch p.1 z).2.2.2 p hp rfl
    exact ⟨keep p.1 p.2 ne nf nch e n, free p.1 p.2 nch e n, ne, nf, d⟩
theorem Inv.un {t' : Nat} (I : Inv X pins σ H s) (u : Un X.fs [] H H' s.heap h') (hok : HOk X.prog X.w H' h') : Inv X pins σ H' { s with heap := h', toks := t' } := by
  obtain ⟨m, ⟨o, es, ep, ho, r⟩, _⟩ := id I.loc
  obtain ⟨sl, hL⟩ := u.any ho I.free (by simp)
  exact I.step (g' := s.gens) (d' := s.drawn) (ch := []) (fun _ z => nomatch z) (fun b o _ hb _ e n => u.keep b o e n hb (by simp)) (fun b o _ hb _ e n => u.slot b o e n hb (by simp)) (fun b o _ e n => u.free b o e n (by simp)) (fun b o _ e => u.there b o e (by simp)) u.tups u.frzs u.tbls (fun m' hm => by
    obtain ⟨o', es', ep', ho', r'⟩ := hm
    rw [ho] at ho'; cases ho'
    exact ⟨_, es', ep', hL, r'⟩) hok I.bare
theorem Inv.call {g' : Array GenState} {t' : Nat} {d' : Drawn} {ch : List Addr} (I : Inv X pins σ H s) (u : Un (frs X.stack) ch H H' s.heap h') (hok : HOk X.prog X.w H' h') (hg : AllBare g')
    (hch : ∀ b ∈ ch, (b ∈ X.ex ∨ X.s₀.heap.objs.size ≤ b) ∧ b ≠ X.env.locals ∧ (∀ x c, X.env.cells.lookup x = some c → c ≠ b) ∧ ∀ p ∈ X.pn ++ pins, p.1 ≠ b) :
    Inv X pins σ H' { s with heap := h', gens := g', drawn := d', toks := t' } := by
  obtain ⟨m, ⟨o, es, ep, ho, r⟩, _⟩ := id I.loc
  obtain ⟨sl, hL⟩ := u.any ho I.free fun z => (hch _ z).2.1 rfl
  exact I.step (ch := ch) hch (fun b o hL hb hc e n => u.keep b o e n (fun z => (List.mem_cons.mp (I.stkSub b z)).elim hL hb) hc) (fun b o _ _ hc e n => u.any e n hc) (fun b o hc e n => u.free b o e n hc) (fun b o hc e => u.there b o e hc) u.tups u.frzs u.tbls (fun m' hm => by
    obtain ⟨o', es', ep', ho', r'⟩ := hm
    rw [ho] at ho'; cases ho'
    exact ⟨_, es', ep', hL, r'⟩) hok hg
theorem Inv.turned {t' : Nat} {it : Addr} (I : Inv X pins σ H s) (k : ∀ b o, b ≠ it → s.heap.get? b = some o → h'.get? b = some o) (hn : H it = none) (hL : it ≠ X.env.locals)
    (h1 : it ∈ X.ex ∨ X.s₀.heap.objs.size ≤ it) (h2 : ∀ x c, X.env.cells.lookup x = some c → c ≠ it) (h3 : ∀ p ∈ X.pn ++ pins, p.1 ≠ it) : Inv X pins σ H { s with heap := h', toks := t' } := by
  have nit : ∀ b u, H b = some u → b ≠ it := fun b u e z => by rw [z, hn] at e; cases e
  refine I.step (g' := s.gens) (d' := s.drawn) (ch := [it]) (fun b hb => ?_) (fun b o _ _ hc e _ => k b o (fun z => hc (by simp [z])) e) (fun b o _ _ hc e _ => ⟨o.slots, k b o (fun z => hc (by simp [z])) e⟩) (fun _ _ _ _ n => n)
    (fun b o hc e => ⟨o, k b o (fun z => hc (by simp [z])) e⟩) (fun _ _ e => e) (fun _ _ _ e => e) (fun b ps e => ⟨#[], by rw [e]; simp⟩) (fun m hm => ?_) (fun b u e => ?_) I.bare
  · have e : b = it := by simpa using hb
    subst e
    exact ⟨h1, hL, h2, h3⟩
  · obtain ⟨o, es, ep, ho, r⟩ := hm
    exact ⟨o, es, ep, k _ o (Ne.symm hL) ho, r⟩
  · refine (I.hok b u e).stay (fun c v hc q => k c v ?_ q) (fun _ q => q) fun _ _ q => q
    rcases hc with z | z
    · rw [z]; exact nit b u e
    · exact nit c _ z
theorem Inv.tok (I : Inv X pins σ H s) (t : Nat) : Inv X pins σ H { s with toks := t } := I.un (h' := s.heap) (t' := t) Un.refl I.hok
theorem Inv.kept {t' : Nat} (I : Inv X pins σ H s) (k : ∀ b u, s.heap.get? b = some u → h'.get? b = some u) : Inv X pins σ H { s with heap := h', toks := t' } := I.un (Un.kept k) (I.hok.kept k)
theorem Inv.laid {a : Addr} {o : HO} {t' : Nat} (I : Inv X pins σ H s) (k : ∀ b u, s.heap.get? b = some u → h'.get? b = some u) (hp : s.heap.objs.size ≤ a) (new : ObjOk X.prog X.w (upd H a o) h' a o) :
    Inv X pins σ (upd H a o) { s with heap := h', toks := t' } := I.un (Un.laid k hp (I.hok.fresh hp)) (I.hok.laid k hp new)
theorem Inv.write {x e : Addr} {o : HO} {t' : Nat} (I : Inv X pins σ H s) (mu : Mut (H x)) (he : e = x ∨ H e = some (.own x)) (k : ∀ b u, b ≠ e → s.heap.get? b = some u → h'.get? b = some u) (heo : ∃ u, h'.get? e = some u)
    (new : ObjOk X.prog X.w (upd H x o) h' x o) : Inv X pins σ (upd H x o) { s with heap := h', toks := t' } := I.un (Un.write mu he k heo) (I.hok.write mu he k heo new)
theorem Inv.pins_of {pins' : List (Addr × Obj)} (I : Inv X pins σ H s) (h : ∀ p ∈ pins', s.heap.get? p.1 = some p.2 ∧ H p.1 = none ∧ p.1 ≠ X.env.locals ∧ p.1 ∉ X.fs ∧ ∀ v, p.2.data ≠ .cell v) : Inv X pins' σ H s :=
  ⟨I.ok, I.os, I.bare, I.base, I.loc, I.cell, I.free, I.freeC, fun p hp => (List.mem_append.mp hp).elim (fun z => I.pin p (List.mem_append_left _ z)) (h p), I.hok, I.len⟩
theorem nodup_ix {N : List Str} (hN : N.Nodup) {i j : Nat} {x : Str} (a : N[i]? = some x) (b : N[j]? = some x) : i = j := by
  obtain ⟨h1, e1⟩ := List.getElem?_eq_some_iff.mp a
  obtain ⟨h2, e2⟩ := List.getElem?_eq_some_iff.mp b
  exact (List.getElem_inj hN).mp (e1.trans e2.symm)
theorem store_ok2 {M : Model} {A : Around} {E : Value → Shared → Prop} {i : Nat} {x : Str} {v : V} {u : Value} {Q : Unit → Shared → Prop} (I : Inv X pins σ H s) (hN : X.N.Nodup) (hi : X.N[i]? = some x) (hx : Loc X.env.scope x) (r : RelV v u)
    (h : ∀ s', Inv X pins (σ.set i (some v)) H s' → (∃ a, Heap.SameBut a s.heap s'.heap ∧ (a = X.env.locals ∨ X.env.cells.lookup x = some a)) → Q () s') (hf : X.fn x = true ∨ X.env.scope.names.lookup x = some .local := by first | exact .inl rfl | exact .inr rfl | assumption) : wpAny M A (storeName X.env x u) Q E s := by
  obtain ⟨m, hn, hl⟩ := id I.loc
  have hcls : (X.env.scope.kind == .class || (X.env.scope.kind == .module && X.env.locals != X.env.globals)) = false := by rw [I.ok.kind]; rfl
  have hiσ : i < σ.length := by rw [I.len]; exact (List.getElem?_eq_some_iff.mp hi).1
  have cne := I.cne
  have tracked : ∀ {a : Addr} {h' : Heap}, (∃ o, s.heap.get? a = some o ∧ H a = none) → Heap.SameBut a s.heap h' → HOk X.prog X.w H h' := fun {a h'} ha hs b ob e => by
    obtain ⟨_, _, hfree⟩ := ha
    refine (I.hok b ob e).stay (fun c w' hc q => (hs.2 c ?_).trans q) (fun _ q => q) fun _ _ q => q
    rintro rfl
    rcases hc with rfl | hc
    · rw [hfree] at e; cases e
    · rw [hfree] at hc; cases hc
  rcases hx with hk | hk
  · refine wpAny_storeName_local hk hn (fun h' hn' hs => ?_) hcls
    obtain ⟨oL, _, _, hoL, _⟩ := id hn
    refine h _ ⟨I.ok, I.os, I.bare, ⟨fun b o e n hb hx => ?_, fun b o e n hb hx => ?_, I.base.free, fun b o e hx => ?_, I.base.tups, I.base.frzs, I.base.tbls⟩, ⟨_, hn', fun j y v' e1 e2 e3 => ?_⟩, fun y c e => ?_, I.free, I.freeC, fun p hp => ?_, tracked ⟨oL, hoL, I.free⟩ hs, by simpa using I.len⟩ ⟨_, hs, .inl rfl⟩
    · exact (hs.2 b (Nat.ne_of_lt (Nat.lt_of_lt_of_le (Heap.lt_size e) I.ok.above))).trans (I.base.keep b o e n hb hx)
    · obtain ⟨sl, e1⟩ := I.base.slot b o e n hb hx
      exact ⟨sl, (hs.2 b (Nat.ne_of_lt (Nat.lt_of_lt_of_le (Heap.lt_size e) I.ok.above))).trans e1⟩
    · obtain ⟨o', e1⟩ := I.base.there b o e hx
      exact ⟨o', (hs.2 b (Nat.ne_of_lt (Nat.lt_of_lt_of_le (Heap.lt_size e) I.ok.above))).trans e1⟩
    · by_cases hj : j = i
      · subst hj
        rw [hi] at e1; cases e1
        rw [List.getElem?_set_self hiσ] at e2
        cases e2
        exact ⟨u, r, .inl ⟨hk, by simp⟩⟩
      · rw [List.getElem?_set_ne (Ne.symm hj)] at e2
        obtain ⟨u', r', q⟩ := hl j y v' e1 e2 e3
        refine ⟨u', r', ?_⟩
        rcases q with ⟨k, e⟩ | ⟨k, c, e, z⟩
        · refine .inl ⟨k, ?_⟩
          have : y ≠ x := fun e => hj (nodup_ix hN e1 (e ▸ hi))
          simp [this, e]
        · exact .inr ⟨k, c, e, z.sameBut hs (cne y c e)⟩
    · obtain ⟨w', z⟩ := I.cell y c e
      exact ⟨w', z.sameBut hs (cne y c e)⟩
    · obtain ⟨e, n, ne, nf, d⟩ := I.pin p hp
      exact ⟨(hs.2 p.1 ne).trans e, n, ne, nf, d⟩
  · have hfn : X.fn x = true := by
      rcases hf with z | z
      · exact z
      · rw [z] at hk; cases hk
    obtain ⟨c, hc⟩ := I.ok.has x (.inl hk)
    obtain ⟨w', z⟩ := I.cell x c hc
    refine wpAny_storeName_cell I.ok.kind hk hc z (fun h' hc' hs => ?_)
    obtain ⟨oc, hoc, hocd⟩ := id z
    refine h { s with heap := h' } ⟨I.ok, I.os, I.bare, ⟨fun b o e n hb hx => ?_, fun b o e n hb hx => ?_, I.base.free, fun b o e hx => ?_, I.base.tups, I.base.frzs, I.base.tbls⟩, ⟨m, hn.sameBut hs (Ne.symm (cne x c hc)), fun j y v' e1 e2 e3 => ?_⟩, fun y c' e => ?_, I.free, I.freeC, fun p hp => ?_, tracked ⟨oc, hoc, I.freeC x c hc⟩ hs, by simpa using I.len⟩ ⟨c, hs, .inr hc⟩
    · exact (hs.2 b (Nat.ne_of_lt (Nat.lt_of_lt_of_le (Heap.lt_size e) (I.ok.cab x c hfn hc)))).trans (I.base.keep b o e n hb hx)
    · obtain ⟨sl, e1⟩ := I.base.slot b o e n hb hx
      exact ⟨sl, (hs.2 b (Nat.ne_of_lt (Nat.lt_of_lt_of_le (Heap.lt_size e) (I.ok.cab x c hfn hc)))).trans e1⟩
    · obtain ⟨o', e1⟩ := I.base.there b o e hx
      exact ⟨o', (hs.2 b (Nat.ne_of_lt (Nat.lt_of_lt_of_le (Heap.lt_size e) (I.ok.cab x c hfn hc)))).trans e1⟩
    · by_cases hj : j = i
      · subst hj
        rw [hi] at e1; cases e1
        rw [List.getElem?_set_self hiσ] at e2
        cases e2
        exact ⟨u, r, .inr ⟨.inl hk, c, hc, hc'⟩⟩
      · rw [List.getElem?_set_ne (Ne.symm hj)] at e2
        obtain ⟨u', r', q⟩ := hl j y v' e1 e2 e3
        refine ⟨u', r', ?_⟩
        rcases q with q | ⟨k, c', e, z'⟩
        · exact .inl q
        · refine .inr ⟨k, c', e, z'.sameBut hs ?_⟩
          rintro rfl
          exact hj (nodup_ix hN e1 (I.ok.inj _ _ _ e hc ▸ hi))
    · by_cases hcc : c' = c
      · subst hcc; exact ⟨_, hc'⟩
      · obtain ⟨w2, z2⟩ := I.cell y c' e
        exact ⟨w2, z2.sameBut hs hcc⟩
    · obtain ⟨e, n, ne, nf, d⟩ := I.pin p hp
      refine ⟨(hs.2 p.1 ?_).trans e, n, ne, nf, d⟩
      intro q
      rw [q, hoc] at e
      have q' : oc = p.2 := Option.some.inj e
      exact d w' (by rw [← q']; exact hocd)
theorem store_ok {M : Model} {A : Around} {E : Value → Shared → Prop} {i : Nat} {x : Str} {v : V} {u : Value} {Q : Unit → Shared → Prop} (I : Inv X pins σ H s) (hN : X.N.Nodup) (hi : X.N[i]? = some x) (hx : Loc X.env.scope x) (r : RelV v u)
    (h : ∀ s', Inv X pins (σ.set i (some v)) H s' → Q () s') (hf : X.fn x = true ∨ X.env.scope.names.lookup x = some .local := by first | exact .inl rfl | exact .inr rfl | assumption) : wpAny M A (storeName X.env x u) Q E s :=
  store_ok2 I hN hi hx r (fun s' I' _ => h s' I') hf
theorem Inv.call' {s' : Shared} {ch : List Addr} (I : Inv X pins σ H s) (ho : s'.os = s.os) (u : Un (frs X.stack) ch H H' s.heap s'.heap) (hok : HOk X.prog X.w H' s'.heap) (hg : AllBare s'.gens)
    (hch : ∀ b ∈ ch, (b ∈ X.ex ∨ X.s₀.heap.objs.size ≤ b) ∧ b ≠ X.env.locals ∧ (∀ x c, X.env.cells.lookup x = some c → c ≠ b) ∧ ∀ p ∈ X.pn ++ pins, p.1 ≠ b) : Inv X pins σ H' s' := by
  obtain ⟨h', g', d', t', o'⟩ := s'
  have e : o' = s.os := ho
  subst e
  exact I.call (g' := g') (t' := t') (d' := d') u hok hg hch
end
abbrev XK := Value → Option Addr → Hp → Prop
abbrev St := List (Option V)
abbrev VK := V → Hp → Prop
abbrev TE := St → Hp → VK → Prop
abbrev TT := St → Hp → (Bool → Hp → Prop) → Prop
abbrev TA := St → Hp → (List V → Hp → Prop) → Prop
structure Ends where
  nx : St → Hp → Prop
  rt : VK
  bk : St → Hp → Prop := fun _ _ => False
  ct : St → Hp → Prop := fun _ _ => False
abbrev TS := Ends → St → Hp → Prop
def EP (X : Cx) (pins : List (Addr × Obj)) (σ : St) (Q : VK) (u : Value) (s' : Shared) : Prop := ∃ v H', Inv X pins σ H' s' ∧ RelV v u ∧ Q v H'
def TP (X : Cx) (pins : List (Addr × Obj)) (σ : St) (Q : Bool → Hp → Prop) (b : Bool) (s' : Shared) : Prop := ∃ H', Inv X pins σ H' s' ∧ Q b H'
def AP (X : Cx) (pins : List (Addr × Obj)) (σ : St) (Q : List V → Hp → Prop) (us : List Value) (s' : Shared) : Prop := ∃ vs H', Inv X pins σ H' s' ∧ Vals vs us ∧ Q vs H'
def SP (X : Cx) (pins : List (Addr × Obj)) (D : Ends) (f : Flow) (s' : Shared) : Prop :=
  match f with
  | .next => ∃ σ' H', Inv X pins σ' H' s' ∧ D.nx σ' H'
  | .brk => ∃ σ' H', Inv X pins σ' H' s' ∧ D.bk σ' H'
  | .cont => ∃ σ' H', Inv X pins σ' H' s' ∧ D.ct σ' H'
  | .ret u => ∃ v σ' H', Inv X pins σ' H' s' ∧ RelV v u ∧ D.rt v H'
def PE (X : Cx) (e : Expr) (t : TE) : Prop :=
  ∀ (pins : List (Addr × Obj)) (s : Shared) (σ : St) (H : Hp) (Q : VK), Inv X pins σ H s → t σ H Q → wpAny (model X.prog X.w) X.A (eval e X.env) (EP X pins σ Q) X.xe s
def PT (X : Cx) (e : Expr) (t : TT) : Prop :=
  ∀ (pins : List (Addr × Obj)) (s : Shared) (σ : St) (H : Hp) (Q : Bool → Hp → Prop), Inv X pins σ H s → t σ H Q → wpAny (model X.prog X.w) X.A (isTrue e X.env (eval e X.env)) (TP X pins σ Q) X.xe s
def PW (X : Cx) (e : Expr) (t : TT) : Prop :=
  ∀ (whole : Sem Value) (pins : List (Addr × Obj)) (s : Shared) (σ : St) (H : Hp) (Q : Bool → Hp → Prop), Inv X pins σ H s → t σ H Q → wpAny (model X.prog X.w) X.A (isTrue e X.env whole) (TP X pins σ Q) X.xe s
theorem PW.pt {X : Cx} {e : Expr} {t : TT} (h : PW X e t) : PT X e t := h _
def PA (X : Cx) (es : List Expr) (t : TA) : Prop :=
  ∀ (pos : Pos) (pins : List (Addr × Obj)) (s : Shared) (σ : St) (H : Hp) (Q : List V → Hp → Prop), Inv X pins σ H s → t σ H Q → wpAny (model X.prog X.w) X.A (spliced (backTo pos (starEach es X.env))) (AP X pins σ Q) X.xe s
def PS (X : Cx) (st : Stmt) (t : TS) : Prop :=
  ∀ (pins : List (Addr × Obj)) (s : Shared) (σ : St) (H : Hp) (D : Ends), Inv X pins σ H s → t D σ H → wpAny (model X.prog X.w) X.A (exec st X.env) (SP X pins D) X.xe s
def PSs (X : Cx) (st : List Stmt) (t : TS) : Prop :=
  ∀ (pins : List (Addr × Obj)) (s : Shared) (σ : St) (H : Hp) (D : Ends), Inv X pins σ H s → t D σ H → wpAny (model X.prog X.w) X.A (execs st X.env) (SP X pins D) X.xe s
theorem thn {α : Type} {t : Sem α} {Q Q' : α → Shared → Prop} {M : Model} {A : Around} {E : Value → Shared → Prop} {s : Shared} (h : wpAny M A t Q E s) (hQ : ∀ a s, Q a s → Q' a s) : wpAny M A t Q' E s := wpAny_mono h hQ fun _ _ x => x
end L2
namespace L2
open PySem PySem.Spec PyProof.Rows
section
variable {X : Cx}
theorem bin {a b : Expr} {ta tb : TE} (ha : PE X a ta) (hb : PE X b tb) {pins : List (Addr × Obj)} {s : Shared} {σ : St} {H : Hp} {R : V → V → Hp → Prop} (I : Inv X pins σ H s) (h : ta σ H fun x H1 => tb σ H1 fun y H2 => R x y H2)
    {α : Type} {Q : α → Shared → Prop} {f : Value → Value → Sem α}
    (hf : ∀ v u s2 x y H2, Inv X pins σ H2 s2 → RelV x v → RelV y u → R x y H2 → wpAny (model X.prog X.w) X.A (f v u) Q X.xe s2) :
    wpAny (model X.prog X.w) X.A (eval a X.env) (fun v s₁ => wpAny (model X.prog X.w) X.A (eval b X.env) (fun u s₂ => wpAny (model X.prog X.w) X.A (f v u) Q X.xe s₂) X.xe s₁) X.xe s := by
  refine thn (ha pins s σ H _ I h) fun v s1 ⟨x, H1, I1, r1, q1⟩ => ?_
  refine thn (hb pins s1 σ H1 _ I1 q1) fun u s2 ⟨y, H2, I2, r2, q2⟩ => ?_
  exact hf v u s2 x y H2 I2 r1 r2 q2
def tVar (i : Nat) : TE := fun σ H Q => ∃ v, σ[i]? = some (some v) ∧ Q v H
def tC (v : V) : TE := fun _ H Q => Q v H
theorem pe_var {i : Nat} {x : Str} {pos : Pos} (hN : X.N[i]? = some x) (hv : Vis X.env.scope x) (hd : (x == ("__debug__" : Str)) = false := by decide) (hcd : (x == ("__classdict__" : Str)) = false := by decide) : PE X (.Name x pos) (tVar i) := by
  intro pins s σ H Q I h
  obtain ⟨v, e, h⟩ := h
  obtain ⟨m, hn, hl⟩ := I.loc
  obtain ⟨u, r, l⟩ := hl i x v hN e hv
  have fin : EP X pins σ Q u s := ⟨v, H, I, r, h⟩
  rcases l with ⟨hk, hm⟩ | ⟨hk, c, hc, hcell⟩
  · exact wpAny_Name (wpAny_loadName_local I.ok.kind hk hn hm fin) hd
  · rcases hk with hk | hk
    · exact wpAny_Name (wpAny_loadName_cell I.ok.kind hk hc hcell fin) hd
    · exact wpAny_Name (wpAny_loadName_free I.ok.kind hk hc hcell fin hcd) hd
theorem pe_int {i j pos} : PE X (.Constant (.int i) j pos) (tC (.int i)) := fun _ _ _ H _ I h => wpAny_Constant_int ⟨.int i, H, I.tok _, ⟨_, rfl⟩, h⟩
theorem pe_bl {b j pos} : PE X (.Constant (.bool b) j pos) (tC (.bl b)) := fun _ _ _ H _ I h => Constant_bool ⟨.bl b, H, I, rfl, h⟩
theorem pe_non {j pos} : PE X (.Constant .none j pos) (tC .non) := fun _ _ _ H _ I h => Constant_none ⟨.non, H, I, rfl, h⟩
theorem pe_str {x j pos} : PE X (.Constant (.str x) j pos) (tC (.str x)) := fun _ _ _ H _ I h => Calls.Constant_str ⟨.str x, H, I.tok _, ⟨_, rfl⟩, h⟩
def Gl (X : Cx) (x : Str) : Prop := X.env.kindOf x = some .globalImplicit
theorem ld_glob {E : Value → Shared → Prop} {pins : List (Addr × Obj)} {s : Shared} {σ : St} {H : Hp} {x : Str} {u : Value} {pos : Pos} {Q : Value → Shared → Prop} (I : Inv X pins σ H s) (hg : Gl X x) (hm : X.mg x = some u) (h : Q u s)
    (hd : (x == ("__debug__" : Str)) = false := by decide) : wpAny (model X.prog X.w) X.A (eval (.Name x pos) X.env) Q E s :=
  Calls.Name_function_global I.ok.kind hg (Calls.loadGlobal_global (by rw [I.ok.glob]; exact I.mod.glob.keeps I.bk) hm h) hd
theorem ld_blt {E : Value → Shared → Prop} {pins : List (Addr × Obj)} {s : Shared} {σ : St} {H : Hp} {x : Str} {u : Value} {pos : Pos} {Q : Value → Shared → Prop} (I : Inv X pins σ H s) (hg : Gl X x) (hm : X.mg x = none) (hv : bootBuiltins x = some u) (h : Q u s)
    (hn : x ≠ "__name__" := by decide) (hd : (x == ("__debug__" : Str)) = false := by decide) : wpAny (model X.prog X.w) X.A (eval (.Name x pos) X.env) Q E s := by
  obtain ⟨mb, h1, h2⟩ := I.mod.blt
  exact Calls.Name_function_global I.ok.kind hg (Calls.loadGlobal_builtin (by rw [I.ok.glob]; exact I.mod.glob.keeps I.bk) hm (by rw [I.ok.blt]; exact h1.keeps I.bk) ((h2 x hn).trans hv) h) hd
theorem pe_glob {x : Str} {v : V} {u : Value} {pos : Pos} (hg : Gl X x) (hm : X.mg x = some u) (r : RelV v u) (hd : (x == ("__debug__" : Str)) = false := by decide) : PE X (.Name x pos) (tC v) :=
  fun _ _ _ H _ I h => ld_glob I hg hm ⟨v, H, I, r, h⟩ hd
theorem pe_bltn {x : Str} {v : V} {u : Value} {pos : Pos} (hg : Gl X x) (hm : X.mg x = none) (hv : bootBuiltins x = some u) (r : RelV v u) (hn : x ≠ "__name__" := by decide) (hd : (x == ("__debug__" : Str)) = false := by decide) : PE X (.Name x pos) (tC v) :=
  fun _ _ _ H _ I h => ld_blt I hg hm hv ⟨v, H, I, r, h⟩ hn hd
def t2I (ta tb : TE) (k : Int → Int → Hp → Prop) : St → Hp → Prop := fun σ H => ta σ H fun x H1 => tb σ H1 fun y H2 => ∃ i j, x = .int i ∧ y = .int j ∧ k i j H2
variable {a b : Expr} {ta tb : TE} {pos : Pos}
def PC (X : Cx) (op : CmpOp) (a b : Expr) (t : TE) : Prop :=
  ∀ (pins : List (Addr × Obj)) (s : Shared) (σ : St) (H : Hp) (Q : VK), Inv X pins σ H s → t σ H Q →
    wpAny (model X.prog X.w) X.A (eval a X.env) (fun v s₁ => wpAny (model X.prog X.w) X.A (eval b X.env) (fun u s₂ => wpAny (model X.prog X.w) X.A (compareOp op v u) (EP X pins σ Q) X.xe s₂) X.xe s₁) X.xe s
def tCmp (p : Int → Int → Bool) (ta tb : TE) : TE := fun σ H Q => t2I ta tb (fun i j H2 => Q (.bl (p i j)) H2) σ H
def tB (t : TE) : TT := fun σ H Q => t σ H fun x H1 => ∃ c, x = .bl c ∧ Q c H1
theorem pt_cmp {op : CmpOp} {t : TE} (h : PC X op a b t) (h1 : behindInMarks op b = false := by first | exact nobehind _ (by decide) (by decide) | rfl) : PT X (.Compare a [op] [b] pos) (tB t) := by
  intro pins s σ H Q I hw
  refine wpAny_isTrue_Compare1 (thn (h pins s σ H _ I hw) fun v s1 h1 => thn h1 fun u s2 h2 => thn h2 fun c s3 ⟨x, H1, I1, r1, q1⟩ => ?_) h1
  obtain ⟨d, rfl, q⟩ := q1
  cases r1
  exact wpAny_truthy_bool ⟨H1, I1, q⟩
theorem pt_val {e : Expr} {t : TE} (h : PE X e t) (he : ∀ whole, isTrue e X.env whole = (do let v ← whole; standAt e.pos; holding [v] (truthy v)) := by intro _; rfl) : PT X e (tB t) := by
  intro pins s σ H Q I hw
  refine isTrue_plain (thn (h pins s σ H _ I hw) fun v s1 ⟨x, H1, I1, r1, q1⟩ => ?_) (he _)
  obtain ⟨d, rfl, q⟩ := q1
  cases r1
  exact wpAny_truthy_bool ⟨H1, I1, q⟩
variable {tA tB' : TT} {rest : List Expr}
def tOr (t u : TT) : TT := fun σ H Q => t σ H fun c H1 => if c = true then Q true H1 else u σ H1 Q
def tNot (t : TT) : TT := fun σ H Q => t σ H fun c H1 => Q (!c) H1
theorem pw_or1 (ha : PT X a tA) : PW X (.BoolOp .Or [a] pos) tA := by
  intro wh pins s σ H Q I h
  refine isTrue_or (thn (ha pins s σ H Q I h) fun c s1 e => ?_)
  cases c with
  | false => exact isTrue_or_nil e
  | true => exact e
theorem pw_or (ha : PT X a tA) (hb : PW X (.BoolOp .Or (b :: rest) pos) tB') : PW X (.BoolOp .Or (a :: b :: rest) pos) (tOr tA tB') := by
  intro wh pins s σ H Q I h
  refine isTrue_or (thn (ha pins s σ H _ I h) fun c s1 ⟨H1, I1, q1⟩ => ?_)
  cases c with
  | true => exact ⟨H1, I1, q1⟩
  | false => exact hb wh pins s1 σ H1 Q I1 q1
theorem pt_not (ha : PT X a tA) : PT X (.UnaryOp .Not a pos) (tNot tA) := by
  intro pins s σ H Q I h
  exact isTrue_not (ha pins s σ H (fun c H1 => Q (!c) H1) I h)
def tAndV (ta tb : TE) : TE := fun σ H Q => ta σ H fun x H1 => ∃ c, x = .bl c ∧ if c = true then tb σ H1 Q else Q (.bl false) H1
def tNotV (ta : TE) : TE := fun σ H Q => ta σ H fun x H1 => ∃ c, x = .bl c ∧ Q (.bl (!c)) H1
theorem pe_one {op} {t : TE} (h : PE X a t) : PE X (.BoolOp op [a] pos) t := fun pins s σ H Q I hw => BoolOp_one (h pins s σ H Q I hw)
theorem pe_and (ha : PE X a ta) (hb : PE X (.BoolOp .And (b :: rest) pos) tb) : PE X (.BoolOp .And (a :: b :: rest) pos) (tAndV ta tb) := by
  intro pins s σ H Q I h
  refine BoolOp_and (thn (ha pins s σ H _ I h) fun v s1 ⟨x, H1, I1, r1, q1⟩ => ?_)
  obtain ⟨c, rfl, q1⟩ := q1
  cases r1
  refine wpAny_truthy_bool ?_
  cases c with
  | true => exact hb pins s1 σ H1 Q I1 q1
  | false => exact ⟨.bl false, H1, I1, rfl, q1⟩
theorem pe_not (ha : PE X a ta) : PE X (.UnaryOp .Not a pos) (tNotV ta) := by
  intro pins s σ H Q I h
  refine UnaryOp_ (thn (ha pins s σ H _ I h) fun v s1 ⟨x, H1, I1, r1, q1⟩ => ?_)
  obtain ⟨c, rfl, q1⟩ := q1
  cases r1
  exact not_of (wpAny_truthy_bool ⟨.bl (!c), H1, I1, rfl, q1⟩)
end
end L2
namespace L2
open PySem PySem.Spec PyProof.Rows
def SqL (K : PySem.W.Frag) (H : Hp) (a : Addr) (xs : List V) : Prop :=
  Rd H a (.lst xs) ∨
    ∃ (o : Obj) (its : Array Value) (n : Nat), K.lookup a = some o ∧ o.cls = .type "list" ∧ o.dict = none ∧ o.data = .seq its n ∧ its.size ≤ sizeLine ∧ Vals xs its.toList
def SqT (K : PySem.W.Frag) (H : Hp) (a : Addr) (xs : List V) : Prop :=
  Rd H a (.tup xs) ∨
    ∃ (o : Obj) (its : Array Value) (n : Nat), K.lookup a = some o ∧ o.cls = .type "tuple" ∧ o.data = .seq its n ∧ its.size ≤ sizeLine ∧ Vals xs its.toList
def absV : Value → Option V
  | .none => some .non
  | .bool b => some (.bl b)
  | .int i _ => some (.int i)
  | .str x _ => some (.str x)
  | .bytes b _ => some (.byt b)
  | .float b _ => some (.flt b)
  | .ref a => some (.ref a)
  | .type n => some (.ty n)
  | _ => none
theorem RelV.abs {x : V} {u : Value} (r : RelV x u) : absV u = some x := by
  cases x with
  | non => cases r; rfl
  | bl _ => cases r; rfl
  | int _ => obtain ⟨t, rfl⟩ := r; rfl
  | str _ => obtain ⟨t, rfl⟩ := r; rfl
  | byt _ => obtain ⟨t, rfl⟩ := r; rfl
  | flt _ => obtain ⟨t, rfl⟩ := r; rfl
  | ref _ => cases r; rfl
  | ty _ => cases r; rfl
theorem RelV.inj {x y : V} {u : Value} (r : RelV x u) (q : RelV y u) : x = y := Option.some.inj (r.abs.symm.trans q.abs)
theorem Vals.inj : ∀ {xs ys : List V} {us : List Value}, Vals xs us → Vals ys us → xs = ys
  | _, _, _, .nil, .nil => rfl
  | _, _, _, .cons r t, .cons r' t' => by rw [r.inj r', Vals.inj t t']
section
variable {X : Cx} {pins : List (Addr × Obj)} {σ : St} {H : Hp} {s : Shared} {a : Addr} {xs ys : List V}
theorem SqL.of {K : PySem.W.Frag} (h : H a = some (.lst xs)) : SqL K H a xs := .inl (.inl h)
theorem SqT.of {K : PySem.W.Frag} (h : H a = some (.tup xs)) : SqT K H a xs := .inl (.inl h)
theorem Inv.list (I : Inv X pins σ H s) (h : SqL X.K H a xs) : ∃ its : List Value, Vals xs its ∧ PlainL s.heap a its.toArray ∧ xs.length ≤ sizeLine := by
  rcases h with h | ⟨o, its, n, hk, hc, hd, hs, hz, r⟩
  · obtain ⟨z, its, n, r, e⟩ := h.ok I.hok
    exact ⟨its, r, ⟨_, n, e, rfl, rfl, rfl⟩, z⟩
  · refine ⟨its.toList, r, ⟨o, n, I.kIn a o hk, hc, hd, by simpa using hs⟩, ?_⟩
    have e := r.length
    simp only [Array.length_toList] at e
    omega
theorem Inv.tuple (I : Inv X pins σ H s) (h : SqT X.K H a xs) : ∃ its : List Value, Vals xs its ∧ IsTup s.heap a its.toArray ∧ xs.length ≤ sizeLine := by
  rcases h with h | ⟨o, its, n, hk, hc, hs, hz, r⟩
  · obtain ⟨z, its, r, p⟩ := h.ok I.hok
    exact ⟨its, r, p, z⟩
  · refine ⟨its.toList, r, ⟨o, I.kIn a o hk, hc, n, by simpa using hs⟩, ?_⟩
    have e := r.length
    simp only [Array.length_toList] at e
    omega
theorem Inv.list_inj (I : Inv X pins σ H s) (h : SqL X.K H a xs) (h' : SqL X.K H a ys) : xs = ys := by
  obtain ⟨its, r, ⟨o, n, e, _, _, d⟩, _⟩ := I.list h
  obtain ⟨its', r', ⟨o', n', e', _, _, d'⟩, _⟩ := I.list h'
  rw [e] at e'; cases e'
  rw [d] at d'
  injection d' with d1 _
  have : its = its' := by simpa using congrArg Array.toList d1
  subst this
  exact r.inj r'
theorem Inv.tuple_inj (I : Inv X pins σ H s) (h : SqT X.K H a xs) (h' : SqT X.K H a ys) : xs = ys := by
  obtain ⟨its, r, ⟨o, e, _, n, d⟩, _⟩ := I.tuple h
  obtain ⟨its', r', ⟨o', e', _, n', d'⟩, _⟩ := I.tuple h'
  rw [e] at e'; cases e'
  rw [d] at d'
  injection d' with d1 _
  have : its = its' := by simpa using congrArg Array.toList d1
  subst this
  exact r.inj r'
end
abbrev Cx.wish (X : Cx) (E : Value → Shared → Prop) : Cx := { X with xe := E }
abbrev Cx.nox (X : Cx) : Cx := X.wish fun _ _ => False
theorem Cx.Ok.wish {X : Cx} (ok : X.Ok) (E : Value → Shared → Prop) : (X.wish E).Ok :=
  ⟨ok.mod, ok.kind, ok.glob, ok.blt, ok.above, ok.inj, ok.has, ok.cab, ok.hd, ok.frames, ok.stk, ok.exf, ok.bs, ok.bsz, ok.noex, ok.exfs, ok.funs, ok.frf⟩
theorem Cx.Ok.unwish {X : Cx} {E : Value → Shared → Prop} (ok : (X.wish E).Ok) : X.Ok :=
  ⟨ok.mod, ok.kind, ok.glob, ok.blt, ok.above, ok.inj, ok.has, ok.cab, ok.hd, ok.frames, ok.stk, ok.exf, ok.bs, ok.bsz, ok.noex, ok.exfs, ok.funs, ok.frf⟩
section
variable {X : Cx} {pins : List (Addr × Obj)} {σ : St} {H : Hp} {s : Shared} {E : Value → Shared → Prop}
theorem Inv.wish (I : Inv X pins σ H s) (E : Value → Shared → Prop) : Inv (X.wish E) pins σ H s := ⟨I.ok.wish E, I.os, I.bare, I.base, I.loc, I.cell, I.free, I.freeC, I.pin, I.hok, I.len⟩
theorem Inv.unwish (I : Inv (X.wish E) pins σ H s) : Inv X pins σ H s := ⟨I.ok.unwish, I.os, I.bare, I.base, I.loc, I.cell, I.free, I.freeC, I.pin, I.hok, I.len⟩
theorem SP.unwish {D : Ends} {f : Flow} {s' : Shared} (h : SP (X.wish E) pins D f s') : SP X pins D f s' := by
  cases f with
  | next => obtain ⟨σ', H', I, q⟩ := h; exact ⟨σ', H', I.unwish, q⟩
  | brk => obtain ⟨σ', H', I, q⟩ := h; exact ⟨σ', H', I.unwish, q⟩
  | cont => obtain ⟨σ', H', I, q⟩ := h; exact ⟨σ', H', I.unwish, q⟩
  | ret u => obtain ⟨v, σ', H', I, r, q⟩ := h; exact ⟨v, σ', H', I.unwish, r, q⟩
theorem PE.nox {e : Expr} {t : TE} (h : PE X.nox e t) : PE X e t := fun pins s σ H Q I hw =>
  wpAny_mono (h pins s σ H Q (I.wish _) hw) (fun _ _ ⟨v, H', I', r, q⟩ => ⟨v, H', I'.unwish, r, q⟩) fun _ _ z => False.elim z
theorem PSs.nox {st : List Stmt} {t : TS} (h : PSs X.nox st t) : PSs X st t := fun pins s σ H D I hw =>
  wpAny_mono (h pins s σ H D (I.wish _) hw) (fun _ _ q => q.unwish) fun _ _ z => False.elim z
end
section
variable {X : Cx} {st : Stmt} {rest : List Stmt} {t u : TS} {e : Expr} {te : TE} {pos : Pos}
def tNext : TS := fun D σ H => D.nx σ H
def tSeq (t u : TS) : TS := fun D σ H => t { D with nx := u D } σ H
theorem pss_nil : PSs X [] tNext := fun _ _ σ H _ I h => wpAny_execs_nil ⟨σ, H, I, h⟩
theorem pss_cons (h1 : PS X st t) (h2 : PSs X rest u) : PSs X (st :: rest) (tSeq t u) := by
  intro pins s σ H D I h
  refine wpAny_execs_cons (thn (h1 pins s σ H { D with nx := u D } I h) fun f s1 q => ?_)
  cases f with
  | next =>
    obtain ⟨σ', H', I', q⟩ := q
    exact h2 pins s1 σ' H' D I' q
  | ret v => exact q
  | brk => exact q
  | cont => exact q
theorem pss_one (h1 : PS X st t) : PSs X [st] t := by
  intro pins s σ H D I h
  refine wpAny_execs_cons (thn (h1 pins s σ H D I h) fun f s1 q => ?_)
  cases f with
  | next => exact wpAny_execs_nil q
  | ret v => exact q
  | brk => exact q
  | cont => exact q
theorem Inv.quiet {pins : List (Addr × Obj)} {σ : St} {H : Hp} {s : Shared} (I : Inv X pins σ H s) : interactive X.env = false := by simp [interactive, I.ok.kind]
def tDrop (te : TE) : TS := fun D σ H => te σ H fun _ H1 => D.nx σ H1
theorem ps_expr (he : PE X e te) (hs : swapsWith e none pos.line X.env = pure false := by rfl) : PS X (.Expr e pos) (tDrop te) := by
  intro pins s σ H D I h
  exact wpAny_Expr_any (thn (he pins s σ H _ I h) fun v s1 ⟨x, H1, I1, r1, q1⟩ => ⟨σ, H1, I1, q1⟩) I.quiet hs
def tRet (te : TE) : TS := fun D σ H => te σ H D.rt
theorem ps_ret (he : PE X e te) : PS X (.Return (some e) pos) (tRet te) := by
  intro pins s σ H D I h
  exact wpAny_Return_some (thn (he pins s σ H _ I h) fun v s1 ⟨x, H1, I1, r1, q1⟩ => ⟨x, σ, H1, I1, r1, q1⟩)
def tIfS (c : TT) (t u : TS) : TS := fun D σ H => c σ H fun b H1 => if b = true then t D σ H1 else u D σ H1
theorem ps_if {c : Expr} {a b : List Stmt} {tc : TT} (hc : PT X c tc) (ha : PSs X a t) (hb : PSs X b u) : PS X (.If c a b pos) (tIfS tc t u) := by
  intro pins s σ H D I h
  refine wpAny_If (thn (hc pins s σ H _ I h) fun d s1 ⟨H1, I1, q1⟩ => ?_)
  cases d with
  | true => exact ha pins s1 σ H1 D I1 q1
  | false => exact hb pins s1 σ H1 D I1 q1
def tNever : TS := fun _ _ _ => False
theorem pss_never {sts : List Stmt} : PSs X sts tNever := fun _ _ _ _ _ _ h => h.elim
end
abbrev TG := V → St → Hp → (St → Hp → Prop) → Prop
abbrev TGs := List V → St → Hp → (St → Hp → Prop) → Prop
def PG (X : Cx) (target : Expr) (t : TG) : Prop :=
  ∀ (pins : List (Addr × Obj)) (s : Shared) (σ : St) (H : Hp) (v : V) (u : Value) (Q : St → Hp → Prop), Inv X pins σ H s → RelV v u → t v σ H Q →
    wpAny (model X.prog X.w) X.A (assign target X.env u) (fun _ s' => ∃ σ' H', Inv X pins σ' H' s' ∧ Q σ' H') X.xe s
def PGs (X : Cx) (ts : List Expr) (t : TGs) : Prop :=
  ∀ (pins : List (Addr × Obj)) (s : Shared) (σ : St) (H : Hp) (vs : List V) (us : List Value) (Q : St → Hp → Prop), Inv X pins σ H s → Vals vs us → t vs σ H Q →
    wpAny (model X.prog X.w) X.A (assignInOrder ((assignEach ts X.env).map (·.2)) us) (fun _ s' => ∃ σ' H', Inv X pins σ' H' s' ∧ Q σ' H') X.xe s
abbrev TSet := V → V → V → Hp → (Hp → Prop) → Prop
def PSet (X : Cx) (t : TSet) : Prop :=
  ∀ (pins : List (Addr × Obj)) (s : Shared) (σ : St) (H : Hp) (o i v : V) (ov iv u : Value) (Q : Hp → Prop), Inv X pins σ H s → RelV o ov → RelV i iv → RelV v u → t o i v H Q →
    wpAny (model X.prog X.w) X.A (setItem ov iv u) (fun _ s' => ∃ H', Inv X pins σ H' s' ∧ Q H') X.xe s
section
variable {X : Cx} {pos : Pos}
def gName (i : Nat) : TG := fun v σ H Q => Q (σ.set i (some v)) H
theorem pg_name {i : Nat} {x : Str} (hN : X.N.Nodup) (hi : X.N[i]? = some x) (hx : Loc X.env.scope x) (hf : X.fn x = true ∨ X.env.scope.names.lookup x = some .local := by first | exact .inl rfl | exact .inr rfl | assumption) : PG X (.Name x pos) (gName i) := by
  intro pins s σ H v u Q I r h
  exact wpAny_assign_Name (store_ok I hN hi hx r (fun s' I' => ⟨_, H, I', h⟩) hf)
def gNil : TGs := fun vs σ H Q => vs = [] ∧ Q σ H
def gCons (t : TG) (u : TGs) : TGs := fun vs σ H Q => ∃ v r, vs = v :: r ∧ t v σ H fun σ' H' => u r σ' H' Q
theorem pgs_nil : PGs X [] gNil := by
  intro pins s σ H vs us Q I r h
  obtain ⟨e, h⟩ := h
  subst e
  cases r
  exact assignInOrder_nil ⟨σ, H, I, h⟩
theorem pgs_cons {e : Expr} {es : List Expr} {t : TG} {u : TGs} (h1 : PG X e t) (h2 : PGs X es u)
    (hs : (assignEach (e :: es) X.env).map (·.2) = assign e X.env :: (assignEach es X.env).map (·.2) := by rfl) : PGs X (e :: es) (gCons t u) := by
  intro pins s σ H vs us Q I r h
  obtain ⟨v, vr, e1, h⟩ := h
  subst e1
  cases r with
  | cons r rr =>
    rw [hs]
    refine assignInOrder_cons (thn (h1 pins s σ H _ _ _ I r h) fun _ s1 ⟨σ1, H1, I1, q1⟩ => ?_)
    exact h2 pins s1 σ1 H1 _ _ Q I1 rr q1
def gTup (K : PySem.W.Frag) (n : Nat) (t : TGs) : TG := fun v σ H Q => ∃ a xs, v = .ref a ∧ SqT K H a xs ∧ xs.length = n ∧ t xs σ H Q
theorem pg_tup {es : List Expr} {k : Nat} {t : TGs} {n : Nat} (hc : X.calm = true) (h : PGs X es t)
    (hn : (assignEach es X.env).length = n := by rfl) (hst : (assignEach es X.env).findIdx? (·.1) = none := by rfl) : PG X (.Tuple es k pos) (gTup X.K n t) := by
  intro pins s σ H v u Q I r hw
  obtain ⟨a, xs, e1, hq, hl, hw⟩ := hw
  subst e1
  cases r
  obtain ⟨its, rv, ht, hz⟩ := I.tuple hq
  refine assign_Tuple_tuple (I.ok.hd hc) ht (by simp [hn, ← hl, rv.length]) hst fun h' hx => ?_
  have I1 : Inv X pins σ H { s with heap := h' } := I.kept (t' := s.toks) fun b o e => hx b o (Nat.ne_of_lt (Heap.lt_size e)) e
  exact h pins _ σ H xs _ Q I1 (by simpa using rv) hw
def gSub (to ti : TE) (t : TSet) : TG := fun v σ H Q => to σ H fun o H1 => ti σ H1 fun i H2 => t o i v H2 fun H3 => Q σ H3
theorem pg_sub {o i : Expr} {to ti : TE} {t : TSet} (ho : PE X o to) (hi : PE X i ti) (hs : PSet X t)
    (ha : ∀ v, assign (.Subscript o i pos) X.env v = (do
      let ov ← holding [v] (eval o X.env)
      let iv ← holding [v, ov] (eval i X.env)
      standAt pos
      holding [v, ov, iv] (setItem ov iv v)
      release [v, ov, iv] []) := by intro _; rfl) : PG X (.Subscript o i pos) (gSub to ti t) := by
  intro pins s σ H v u Q I r h
  rw [ha]
  refine wpAny_bind (wpAny_holding (thn (ho pins s σ H _ I h) fun ov s1 ⟨x, H1, I1, r1, q1⟩ => ?_))
  refine wpAny_bind (wpAny_holding (thn (hi pins s1 σ H1 _ I1 q1) fun iv s2 ⟨y, H2, I2, r2, q2⟩ => ?_))
  refine wpAny_bind (wpAny_standAt (wpAny_bind (wpAny_holding (thn (hs pins s2 σ H2 x y v ov iv u _ I2 r1 r2 r q2) fun _ s3 ⟨H3, I3, q3⟩ => ?_))))
  exact wpAny_release ⟨σ, H3, I3, q3⟩
def tAsg (te : TE) (g : TG) : TS := fun D σ H => te σ H fun x H1 => g x σ H1 D.nx
theorem ps_asg {tg e : Expr} {te : TE} {g : TG} (he : PE X e te) (hg : PG X tg g) (hs : swapsWithSole [tg] e pos.line X.env = pure false := by rfl) (hw : swappedStores [tg] e X.env = pure none := by rfl)
    (h1 : (assignEach [tg] X.env).map (·.2) = [assign tg X.env] := by rfl) : PS X (.Assign [tg] e pos) (tAsg te g) := by
  intro pins s σ H D I h
  refine wpAny_Assign_stores (thn (he pins s σ H _ I h) fun v s1 ⟨x, H1, I1, r1, q1⟩ => ?_) hs hw
  rw [h1]
  exact thn (hg pins s1 σ H1 x v _ I1 r1 q1) fun _ s2 q => q
theorem ps_set {i : Nat} {x : Str} {e : Expr} {te : TE} {pos' : Pos} (hN : X.N.Nodup) (hi : X.N[i]? = some x) (hx : Loc X.env.scope x) (he : PE X e te) (hs : swapsWith e (some (.Name x pos')) pos.line X.env = pure false := by rfl) (hf : X.fn x = true ∨ X.env.scope.names.lookup x = some .local := by first | exact .inl rfl | exact .inr rfl | assumption) :
    PS X (.Assign [.Name x pos'] e pos) (tAsg te (gName i)) := by
  intro pins s σ H D I h
  refine wpAny_Assign_Name (thn (he pins s σ H _ I h) fun v s1 ⟨y, H1, I1, r1, q1⟩ => ?_) hs
  exact store_ok I1 hN hi hx r1 (fun s2 I2 => ⟨_, H1, I2, q1⟩) hf
end
section
variable {X : Cx} {pos : Pos}
end
structure It where
  go : Nat → Hp → Prop
  yld : Nat → Hp → V → Hp → Prop
  stop : Nat → Hp → Prop
def FpOk (X : Cx) (pins : List (Addr × Obj)) (H : Hp) (b : Addr) : Prop :=
  H b = none ∧ b ≠ X.env.locals ∧ b ∉ X.fs ∧ (b ∈ X.ex ∨ X.s₀.heap.objs.size ≤ b) ∧ (∀ x c, X.env.cells.lookup x = some c → c ≠ b) ∧ ∀ p ∈ X.pn ++ pins, p.1 ≠ b
theorem Inv.fpOk {X : Cx} {pins : List (Addr × Obj)} {σ : St} {H H' : Hp} {s : Shared} {b : Addr} (I : Inv X pins σ H s) (hb : s.heap.objs.size ≤ b) (hn : H' b = none) : FpOk X pins H' b := by
  refine ⟨hn, Nat.ne_of_gt (Nat.lt_of_lt_of_le I.lt hb), I.nofs hb, .inr (Nat.le_trans I.sz hb), fun x c e z => ?_, fun p hp z => ?_⟩
  · obtain ⟨v, q⟩ := I.cell x c e
    exact absurd (Nat.lt_of_lt_of_le q.lt (by rw [z]; exact hb)) (Nat.lt_irrefl _)
  · exact absurd (Nat.lt_of_lt_of_le (Heap.lt_size (I.pin p hp).1) (by rw [z]; exact hb)) (Nat.lt_irrefl _)
structure Turn (P : Program) (w : World) (K : PySem.W.Frag) (tg : Expr) (J : It) (fp : List Addr) (it : Addr) (tn : Nat → Heap → Prop) : Prop where
  mem : it ∈ fp
  obj : ∀ i h, tn i h → ∀ b ∈ fp, ∃ o, h.get? b = some o ∧ ∀ v, o.data ≠ .cell v
  keep : ∀ i h h', tn i h → (∀ b ∈ fp, ∀ o, h.get? b = some o → h'.get? b = some o) → tn i h'
  item : ∀ (X : Cx), X.prog = P → X.w = w → X.K = K → X.calm = true → ∀ (i : Nat) (pins : List (Addr × Obj)) (s : Shared) (σ : St) (H : Hp) (E : Value → Shared → Prop), Inv X pins σ H s → (∀ b ∈ fp, FpOk X pins H b) → tn i s.heap → J.go i H →
    wpAny (model P w) X.A (pyNext (.ref it)) (fun r s1 => ∃ u, r = some u ∧
      wpAny (model P w) X.A (letOwnedTupleGo tg (.ref it) u) (fun _ s2 => ∃ x H', Inv X pins σ H' s2 ∧ RelV x u ∧ J.yld i H x H' ∧ tn (i + 1) s2.heap ∧ ∀ b ∈ fp, H' b = none) E s1) E s
  done : ∀ (X : Cx), X.prog = P → X.w = w → X.K = K → X.calm = true → ∀ (i : Nat) (pins : List (Addr × Obj)) (s : Shared) (σ : St) (H : Hp) (E : Value → Shared → Prop), Inv X pins σ H s → (∀ b ∈ fp, FpOk X pins H b) → tn i s.heap → J.stop i H →
    wpAny (model P w) X.A (pyNext (.ref it)) (fun r s1 => r = none ∧ Inv X pins σ H s1) E s
  self : ∀ (A : Around) (i : Nat) (s : Shared) (Q : Value → Shared → Prop) (E : Value → Shared → Prop), tn i s.heap → Q (.ref it) s → wpAny (model P w) A (pyIter (.ref it)) Q E s
abbrev TI := St → Hp → (It → Hp → Prop) → Prop
def PIE (X : Cx) (pins : List (Addr × Obj)) (σ : St) (tg : Expr) (R : It → Hp → Prop) (itv : Value) (s2 : Shared) : Prop :=
  ∃ (it : Addr) (fp : List Addr) (tn : Nat → Heap → Prop) (J : It) (H' : Hp), itv = .ref it ∧ Inv X pins σ H' s2 ∧ Turn X.prog X.w X.K tg J fp it tn ∧ tn 0 s2.heap ∧ (∀ b ∈ fp, FpOk X pins H' b) ∧ R J H'
def PI (X : Cx) (tg iter : Expr) (wi : TI) : Prop :=
  ∀ (pins : List (Addr × Obj)) (s : Shared) (σ : St) (H : Hp) (R : It → Hp → Prop), Inv X pins σ H s → wi σ H R →
    wpAny (model X.prog X.w) X.A (eval iter X.env) (fun v s1 => wpAny (model X.prog X.w) X.A (pyIter v) (PIE X pins σ tg R) X.xe s1) X.xe s
theorem go_of {M : Model} {A : Around} {E : Value → Shared → Prop} {s : Shared} {tg : Expr} {it : Addr} {u : Value} {o : Obj} {n : String} {vs : Array Value} {Q : Unit → Shared → Prop} (ho : s.heap.get? it = some o) (hc : o.cls = .type n) (hd : o.data = .fields vs)
    (hn : ["enumerate", "zip", "dict_itemiterator", "dict_reverseitemiterator", "odict_iterator", "itertools.zip_longest", "itertools.pairwise"].contains n = false) (hQ : Q () s) : wpAny M A (letOwnedTupleGo tg (.ref it) u) Q E s := by
  unfold letOwnedTupleGo
  cases tg <;> first
    | exact wpAny_pure hQ
    | (cases u <;> first
        | exact wpAny_pure hQ
        | (refine wpAny_bind (wpAny_load ho ?_)
           rw [hc, hd]
           show wpAny M A (if (["enumerate", "zip", "dict_itemiterator", "dict_reverseitemiterator", "odict_iterator", "itertools.zip_longest", "itertools.pairwise"].contains n && vs[0]? == some (rawInt _)) = true then _ else _) Q E s
           rw [if_neg (by intro h; rw [hn, Bool.false_and] at h; cases h)]
           exact wpAny_pure hQ))
def Itl (K : PySem.W.Frag) (a : Addr) : It :=
  ⟨fun i H => ∃ xs x, SqL K H a xs ∧ xs[i]? = some x, fun i H x H' => H' = H ∧ ∀ xs, SqL K H a xs → xs[i]? = some x, fun i H => ∃ xs, SqL K H a xs ∧ xs.length ≤ i⟩
def Itt (K : PySem.W.Frag) (a : Addr) : It :=
  ⟨fun i H => ∃ xs x, SqT K H a xs ∧ xs[i]? = some x, fun i H x H' => H' = H ∧ ∀ xs, SqT K H a xs → xs[i]? = some x, fun i H => ∃ xs, SqT K H a xs ∧ xs.length ≤ i⟩
def Itr (lo : Int) (n : Nat) : It := ⟨fun i _ => i < n, fun i H x H' => H' = H ∧ x = .int (lo + i), fun i _ => n ≤ i⟩
theorem turn_list {P : Program} {w : World} {K : PySem.W.Frag} {tg : Expr} (a it : Addr) : Turn P w K tg (Itl K a) [it] it (fun i h => h.IsListIter it a i) where
  mem := by simp
  obj := fun i h st b hb => by
    have e : b = it := by simpa using hb
    subst e
    obtain ⟨o, e, c, d⟩ := st
    exact ⟨o, e, fun v z => by rw [d] at z; cases z⟩
  keep := fun i h h' st k => st.at fun o e => k it (by simp) o e
  item := by
    intro X hP hw hK hc i pins s σ H E I hf st hg
    subst hP hw hK
    obtain ⟨xs, x, hq, hx⟩ := hg
    obtain ⟨its, rv, p, hz⟩ := I.list hq
    obtain ⟨u, hu, ru⟩ := rv.get hx
    obtain ⟨f0, f1, f2, f3, f4, f5⟩ := hf it (by simp)
    refine wpAny_pyNext_list_item st p.isList (x := u) (by simpa using hu) fun h' st' sb => ?_
    have I1 : Inv X pins σ H { s with heap := h' } := I.turned (t' := s.toks) (fun b o hb e => (sb.2 b hb).trans e) f0 f1 f3 f4 f5
    obtain ⟨o, e, c, d⟩ := id st'
    exact ⟨u, rfl, go_of (s := { s with heap := h' }) e c d (by decide) ⟨x, H, I1, ru, ⟨rfl, fun ys hy => by rw [I.list_inj hy hq]; exact hx⟩, st', fun b hb => (hf b hb).1⟩⟩
  done := by
    intro X hP hw hK hc i pins s σ H E I hf st hg
    subst hP hw hK
    obtain ⟨xs, hq, hx⟩ := hg
    obtain ⟨its, rv, p, hz⟩ := I.list hq
    obtain ⟨f0, f1, f2, f3, f4, f5⟩ := hf it (by simp)
    have hl := rv.length
    exact wpAny_pyNext_list_end (I.ok.hd hc) st p.isList (by simp; omega) fun h' eb => ⟨rfl, I.turned (t' := s.toks) (fun b o hb e => eb b o hb e) f0 f1 f3 f4 f5⟩
  self := fun _ _ _ _ _ st h => wpAny_pyIter_listiter st h
theorem turn_tuple {P : Program} {w : World} {K : PySem.W.Frag} {tg : Expr} (a it : Addr) : Turn P w K tg (Itt K a) [it] it (fun i h => h.IsTupleIter it a i) where
  mem := by simp
  obj := fun i h st b hb => by
    have e : b = it := by simpa using hb
    subst e
    obtain ⟨o, e, c, d⟩ := st
    exact ⟨o, e, fun v z => by rw [d] at z; cases z⟩
  keep := fun i h h' st k => st.at fun o e => k it (by simp) o e
  item := by
    intro X hP hw hK hc i pins s σ H E I hf st hg
    subst hP hw hK
    obtain ⟨xs, x, hq, hx⟩ := hg
    obtain ⟨its, rv, p, hz⟩ := I.tuple hq
    obtain ⟨u, hu, ru⟩ := rv.get hx
    obtain ⟨f0, f1, f2, f3, f4, f5⟩ := hf it (by simp)
    refine wpAny_pyNext_tuple_item st (show s.heap.IsTuple a its.toArray from p) (x := u) (by simpa using hu) fun h' st' sb => ?_
    have I1 : Inv X pins σ H { s with heap := h' } := I.turned (t' := s.toks) (fun b o hb e => (sb.2 b hb).trans e) f0 f1 f3 f4 f5
    obtain ⟨o, e, c, d⟩ := id st'
    exact ⟨u, rfl, go_of (s := { s with heap := h' }) e c d (by decide) ⟨x, H, I1, ru, ⟨rfl, fun ys hy => by rw [I.tuple_inj hy hq]; exact hx⟩, st', fun b hb => (hf b hb).1⟩⟩
  done := by
    intro X hP hw hK hc i pins s σ H E I hf st hg
    subst hP hw hK
    obtain ⟨xs, hq, hx⟩ := hg
    obtain ⟨its, rv, p, hz⟩ := I.tuple hq
    obtain ⟨f0, f1, f2, f3, f4, f5⟩ := hf it (by simp)
    have hl := rv.length
    exact wpAny_pyNext_tuple_end (I.ok.hd hc) st (show s.heap.IsTuple a its.toArray from p) (by simp; omega) fun h' eb => ⟨rfl, I.turned (t' := s.toks) (fun b o hb e => eb b o hb e) f0 f1 f3 f4 f5⟩
  self := fun _ _ _ _ _ st h => wpAny_pyIter_tupleiter st h
theorem turn_range {P : Program} {w : World} {K : PySem.W.Frag} {tg : Expr} (it : Addr) (lo : Int) (n : Nat) : Turn P w K tg (Itr lo n) [it] it (fun i h => IsRangeIter h it (lo + (i : Nat) * 1) ((n : Int) - (i : Nat)) 1) where
  mem := by simp
  obj := fun i h st b hb => by
    have e : b = it := by simpa using hb
    subst e
    exact ⟨_, st, fun v z => by
      have z' : Data.fields _ = Data.cell v := z
      cases z'⟩
  keep := fun i h h' st k => k it (by simp) _ st
  item := by
    intro X hP hw hK hc i pins s σ H E I hf st hg
    subst hP hw hK
    obtain ⟨f0, f1, f2, f3, f4, f5⟩ := hf it (by simp)
    have W := Walks.range (prog := X.prog) (w := X.w) (I.ok.hd hc) it lo 1 n
    refine W.item i s _ _ hg st fun v h' tk hv st' kk => ?_
    obtain ⟨t, rfl⟩ := hv
    have I1 : Inv X pins σ H { s with heap := h', toks := tk } := I.turned (fun b o hb e => kk b o (by simpa using hb) e) f0 f1 f3 f4 f5
    refine ⟨_, rfl, go_of (s := { s with heap := h', toks := tk }) (n := "range_iterator") st' rfl rfl (by decide) ⟨.int (lo + i), H, I1, ⟨t, ?_⟩, ⟨rfl, rfl⟩, st', fun b hb => (hf b hb).1⟩⟩
    rw [Int.mul_one]
  done := by
    intro X hP hw hK hc i pins s σ H E I hf st hg
    subst hP hw hK
    obtain ⟨f0, f1, f2, f3, f4, f5⟩ := hf it (by simp)
    exact wpAny_pyNext_range_end (I.ok.hd hc) st (by have : n ≤ i := hg; omega) fun h' eb => ⟨rfl, I.turned (t' := s.toks) (fun b o hb e => eb b o hb e) f0 f1 f3 f4 f5⟩
  self := fun _ _ _ _ _ st h => wpAny_pyIter_rangeiter st h
end L2
namespace L2
open PySem PySem.Spec PyProof.Rows
section
variable {X : Cx} {tg : Expr}
def iList (K : PySem.W.Frag) (tl : TE) : TI := fun σ H R => tl σ H fun x H1 => ∃ a, x = .ref a ∧ (∃ xs, SqL K H1 a xs) ∧ R (Itl K a) H1
def iTup (K : PySem.W.Frag) (tl : TE) : TI := fun σ H R => tl σ H fun x H1 => ∃ a, x = .ref a ∧ (∃ xs, SqT K H1 a xs) ∧ R (Itt K a) H1
theorem pi_list {l : Expr} {tl : TE} (hl : PE X l tl) : PI X tg l (iList X.K tl) := by
  intro pins s σ H R I h
  refine thn (hl pins s σ H _ I h) fun v s1 ⟨x, H1, I1, r1, q1⟩ => ?_
  obtain ⟨a, e, ⟨xs, hq⟩, q⟩ := q1
  subst e
  cases r1
  obtain ⟨its, rv, p, hz⟩ := I1.list hq
  refine wpAny_pyIter_list p.isList ?_
  refine ⟨s1.heap.objs.size, [s1.heap.objs.size], _, _, H1, rfl, I1.kept (t' := s1.toks) fun b o e => Heap.get?_push_of_some _ e, turn_list a _, ⟨_, Heap.get?_push_size _ rfl, rfl, rfl⟩, fun b hb => ?_, q⟩
  have e : b = s1.heap.objs.size := by simpa using hb
  subst e
  exact I1.fpOk (Nat.le_refl _) (I1.hok.fresh (Nat.le_refl _))
theorem pi_tup {l : Expr} {tl : TE} (hl : PE X l tl) : PI X tg l (iTup X.K tl) := by
  intro pins s σ H R I h
  refine thn (hl pins s σ H _ I h) fun v s1 ⟨x, H1, I1, r1, q1⟩ => ?_
  obtain ⟨a, e, ⟨xs, hq⟩, q⟩ := q1
  subst e
  cases r1
  obtain ⟨its, rv, p, hz⟩ := I1.tuple hq
  refine wpAny_pyIter_tuple (show s1.heap.IsTuple a its.toArray from p) ?_
  refine ⟨s1.heap.objs.size, [s1.heap.objs.size], _, _, H1, rfl, I1.kept (t' := s1.toks) fun b o e => Heap.get?_push_of_some _ e, turn_tuple a _, ⟨_, Heap.get?_push_size _ rfl, rfl, rfl⟩, fun b hb => ?_, q⟩
  have e : b = s1.heap.objs.size := by simpa using hb
  subst e
  exact I1.fpOk (Nat.le_refl _) (I1.hok.fresh (Nat.le_refl _))
theorem range_it {pins : List (Addr × Obj)} {σ : St} {H : Hp} {s : Shared} {R : It → Hp → Prop} {E : Value → Shared → Prop} {lo hi : Int} {t u v : Tok} {tk : Nat} (I : Inv X pins σ H s) (h1 : -(2 ^ 62) ≤ lo) (h2 : lo < 2 ^ 62) (h3 : -(2 ^ 62) ≤ hi) (h4 : hi < 2 ^ 62)
    (q : R (Itr lo (hi - lo).toNat) H) : wpAny (model X.prog X.w) X.A (pyIter (.ref s.heap.objs.size)) (PIE X pins σ tg R) E { s with heap := s.heap.push { cls := .type "range", data := .fields #[.int lo t, .int hi u, .int 1 v] }, toks := tk } := by
  refine wpAny_pyIter_range (IsRange.new ..) (small_one h1 h2 h3 h4) ?_
  have I1 : Inv X pins σ H { s with heap := s.heap.push { cls := .type "range", data := .fields #[.int lo t, .int hi u, .int 1 v] }, toks := tk } := I.kept fun b o e => Heap.get?_push_of_some _ e
  refine ⟨(s.heap.push { cls := .type "range", data := .fields #[.int lo t, .int hi u, .int 1 v] }).objs.size, [(s.heap.push { cls := .type "range", data := .fields #[.int lo t, .int hi u, .int 1 v] }).objs.size], _, _, H, rfl,
    I1.kept (t' := tk) fun b o e => Heap.get?_push_of_some _ e, turn_range _ lo (hi - lo).toNat, ?_, fun b hb => ?_, q⟩
  · have e1 : lo + ((0 : Nat) : Int) * 1 = lo := by simp
    have e2 : (((hi - lo).toNat : Nat) : Int) - ((0 : Nat) : Int) = Builtin.Range.rangeSize lo hi 1 := by rw [rangeSize_one]; split <;> omega
    show IsRangeIter _ _ (lo + ((0 : Nat) : Int) * 1) ((((hi - lo).toNat : Nat) : Int) - ((0 : Nat) : Int)) 1
    rw [e1, e2]
    exact Heap.get?_push_size _ rfl
  · have e : b = (s.heap.push { cls := .type "range", data := .fields #[.int lo t, .int hi u, .int 1 v] }).objs.size := by simpa using hb
    subst e
    exact I1.fpOk (Nat.le_refl _) (I1.hok.fresh (Nat.le_refl _))
def iRng1 (ta : TA) : TI := fun σ H R => ta σ H fun vs H1 => ∃ j : Int, vs = [.int j] ∧ -(2 ^ 62) ≤ j ∧ j < 2 ^ 62 ∧ R (Itr 0 j.toNat) H1
theorem pi_range1 {a : Expr} {ta : TA} {p pos : Pos} (hg : Gl X "range") (hm : X.mg "range" = none) (ha : PA X [a] ta) (hs : starEach [a] X.env = [(false, eval a X.env)] := by rfl) : PI X tg (.Call (.Name "range" p) [a] [] pos) (iRng1 ta) := by
  intro pins s σ H R I h
  refine Call_ (ld_blt I hg hm boot_range (PyProof.Rows.callWith_type1 (thn (ha pos pins s σ H _ I h) fun us s1 ⟨vs, H1, I1, r1, q1⟩ => ?_) hs rfl))
  obtain ⟨j, e, q1, q2, q⟩ := q1
  subst e
  cases r1 with
  | cons r rr =>
    cases rr
    obtain ⟨t, rfl⟩ := r
    exact call_range_1 (range_it I1 (by omega) (by omega) q1 q2 (by simpa using q))
def tFor (wi : TI) (g : TG) (tb : TS) : TS := fun D σ H => wi σ H fun J H1 => ∃ W : Nat → Nat → St → Hp → Prop, (∃ m, W 0 m σ H1) ∧ ∀ i m σ H, W i m σ H →
  (J.stop i H ∧ D.nx σ H) ∨ (J.go i H ∧ ∃ N : St → Hp → Prop, (∀ σ' H', N σ' H' → ∃ m', m' < m ∧ W (i + 1) m' σ' H') ∧ ∀ x H', J.yld i H x H' → g x σ H' fun σ2 H2 => tb { D with nx := N, ct := N, bk := D.nx } σ2 H2)
def pinsAt (fp : List Addr) (h : Heap) : List (Addr × Obj) := fp.filterMap fun b => (h.get? b).map fun o => (b, o)
theorem mem_pinsAt {fp : List Addr} {h : Heap} {b : Addr} {o : Obj} (hb : b ∈ fp) (e : h.get? b = some o) : (b, o) ∈ pinsAt fp h := List.mem_filterMap.mpr ⟨b, hb, by rw [e]; rfl⟩
theorem of_pinsAt {fp : List Addr} {h : Heap} {p : Addr × Obj} (hp : p ∈ pinsAt fp h) : p.1 ∈ fp ∧ h.get? p.1 = some p.2 := by
  obtain ⟨b, hb, e⟩ := List.mem_filterMap.mp hp
  cases q : h.get? b with
  | none => rw [q] at e; cases e
  | some o =>
    rw [q] at e
    have e' : (b, o) = p := Option.some.inj e
    subst e'
    exact ⟨hb, q⟩
theorem Inv.pinned {pins : List (Addr × Obj)} {σ : St} {H : Hp} {s : Shared} {fp : List Addr} (I : Inv X pins σ H s) (hf : ∀ b ∈ fp, FpOk X pins H b) (ho : ∀ b ∈ fp, ∃ o, s.heap.get? b = some o ∧ ∀ v, o.data ≠ .cell v) : Inv X (pins ++ pinsAt fp s.heap) σ H s :=
  I.pins_of fun p hp => (List.mem_append.mp hp).elim (fun z => I.pin p (List.mem_append_right _ z)) fun z => by
    obtain ⟨hb, e⟩ := of_pinsAt z
    obtain ⟨f0, f1, f2, _⟩ := hf p.1 hb
    obtain ⟨o, e', d⟩ := ho p.1 hb
    rw [e] at e'; cases e'
    exact ⟨e, f0, f1, f2, d⟩
theorem Inv.unpinned {pins pl : List (Addr × Obj)} {σ : St} {H : Hp} {s : Shared} (I : Inv X (pins ++ pl) σ H s) : Inv X pins σ H s := I.pins_of fun p hp => I.pin p (List.mem_append_right _ (List.mem_append_left _ hp))
theorem ps_for {iter : Expr} {body : List Stmt} {wi : TI} {g : TG} {tb : TS} {pos : Pos} (hp : PassesOwn (model X.prog X.w) X.A X.env X.xe) (hc : X.calm = true) (hi : PI X tg iter wi) (hg : PG X tg g) (hb : PSs X body tb)
    (hs : ∀ x, foldedSetIterable iter X.env x = pure x := by intro _; rfl) : PS X (.For tg iter body [] pos) (tFor wi g tb) := by
  intro pins s σ H D I h
  refine wpAny_For (thn (hi pins s σ H _ I h) fun v s1 h1 => thn h1 fun itv s2 h2 => ?_) hs
  obtain ⟨it, fp, tn, J, H2, e, I2, T, st2, f2, W, ⟨m0, w0⟩, turn⟩ := h2
  subst e
  have stat : ∀ {H' : Hp}, (∀ b ∈ fp, H' b = none) → ∀ b ∈ fp, FpOk X pins H' b := fun hn b hb => ⟨hn b hb, (f2 b hb).2⟩
  refine codeAny_forLoop_any (fun n s' => ∃ i σ' H', Inv X pins σ' H' s' ∧ tn i s'.heap ∧ (∀ b ∈ fp, H' b = none) ∧ W i n σ' H') ?_ m0 ⟨0, σ, H2, I2, st2, fun b hb => (f2 b hb).1, w0⟩
  rintro n s3 ⟨i, σ3, H3, I3, st3, fr3, w3⟩
  rcases turn i n σ3 H3 w3 with ⟨stop, qn⟩ | ⟨go, N, hN, step⟩
  · refine wpAny_passesOwn hp (thn (T.done X rfl rfl rfl hc i pins s3 σ3 H3 X.xe I3 (stat fr3) st3 stop) fun r s4 ⟨hr, I4⟩ => ?_)
    subst hr
    exact wpAny_execs_nil ⟨σ3, H3, I4, qn⟩
  · refine wpAny_passesOwn hp (thn (T.item X rfl rfl rfl hc i pins s3 σ3 H3 X.xe I3 (stat fr3) st3 go) fun r s4 ⟨u, hr, h4⟩ => ?_)
    subst hr
    refine wpAny_passesOwn hp (thn h4 fun _ s5 ⟨x, H5, I5, r5, y5, st5, fr5⟩ => ?_)
    have I5' := I5.pinned (stat fr5) (T.obj _ _ st5)
    refine wpAny_passesOwn hp (thn (hg _ s5 σ3 H5 x u _ I5' r5 (step x H5 y5)) fun _ s6 ⟨σ6, H6, I6, q6⟩ => ?_)
    refine wpAny_passesOwn hp (thn (hb _ s6 σ6 H6 _ I6 q6) fun f s7 q7 => ?_)
    have again : ∀ {σ7 : St} {H7 : Hp}, Inv X (pins ++ pinsAt fp s5.heap) σ7 H7 s7 → N σ7 H7 → ∃ m, m < n ∧ ∃ i σ' H', Inv X pins σ' H' s7 ∧ tn i s7.heap ∧ (∀ b ∈ fp, H' b = none) ∧ W i m σ' H' := fun {σ7 H7} I7 n7 => by
      obtain ⟨m', hm, w7⟩ := hN σ7 H7 n7
      refine ⟨m', hm, i + 1, σ7, H7, I7.unpinned, T.keep _ _ _ st5 fun b hb o e => (I7.pin (b, o) (List.mem_append_right _ (List.mem_append_right _ (mem_pinsAt hb e)))).1, fun b hb => ?_, w7⟩
      obtain ⟨o, e, d⟩ := T.obj _ _ st5 b hb
      exact (I7.pin (b, o) (List.mem_append_right _ (List.mem_append_right _ (mem_pinsAt hb e)))).2.1
    cases f with
    | next => obtain ⟨σ7, H7, I7, n7⟩ := q7; exact again I7 n7
    | cont => obtain ⟨σ7, H7, I7, n7⟩ := q7; exact again I7 n7
    | brk => obtain ⟨σ7, H7, I7, q7⟩ := q7; exact ⟨σ7, H7, I7.unpinned, q7⟩
    | ret v => obtain ⟨x7, σ7, H7, I7, r7, q7⟩ := q7; exact ⟨x7, σ7, H7, I7.unpinned, r7, q7⟩
end
theorem for_list {K : PySem.W.Frag} {a : Addr} {xs : List V} {g : TG} {tb : TS} {D : Ends} {σ : St} {H : Hp} (Pv : Nat → St → Hp → Prop) (h0 : Pv 0 σ H) (hl : ∀ i σ H, i ≤ xs.length → Pv i σ H → SqL K H a xs)
    (hs : ∀ i x σ H, xs[i]? = some x → Pv i σ H → g x σ H fun σ2 H2 => tb { D with nx := Pv (i + 1), ct := Pv (i + 1), bk := D.nx } σ2 H2) (hd : ∀ σ H, Pv xs.length σ H → D.nx σ H) :
    ∃ W : Nat → Nat → St → Hp → Prop, (∃ m, W 0 m σ H) ∧ ∀ i m σ H, W i m σ H →
      ((Itl K a).stop i H ∧ D.nx σ H) ∨ ((Itl K a).go i H ∧ ∃ N : St → Hp → Prop, (∀ σ' H', N σ' H' → ∃ m', m' < m ∧ W (i + 1) m' σ' H') ∧ ∀ x H', (Itl K a).yld i H x H' → g x σ H' fun σ2 H2 => tb { D with nx := N, ct := N, bk := D.nx } σ2 H2) := by
  refine ⟨fun i m σ H => m = xs.length - i ∧ i ≤ xs.length ∧ Pv i σ H, ⟨xs.length, by simp, Nat.zero_le _, h0⟩, ?_⟩
  rintro i m σ H ⟨rfl, hi, p⟩
  have q := hl i σ H hi p
  by_cases hlt : i < xs.length
  · refine .inr ⟨⟨xs, xs[i], q, by simp [hlt]⟩, Pv (i + 1), fun σ' H' p' => ⟨xs.length - (i + 1), by omega, rfl, hlt, p'⟩, fun x H' y => ?_⟩
    obtain ⟨e, y⟩ := y
    subst e
    exact hs i x σ _ (y xs q) p
  · have e : i = xs.length := by omega
    subst e
    exact .inl ⟨⟨xs, q, Nat.le_refl _⟩, hd σ H p⟩
theorem for_tup {K : PySem.W.Frag} {a : Addr} {xs : List V} {g : TG} {tb : TS} {D : Ends} {σ : St} {H : Hp} (Pv : Nat → St → Hp → Prop) (h0 : Pv 0 σ H) (hl : ∀ i σ H, i ≤ xs.length → Pv i σ H → SqT K H a xs)
    (hs : ∀ i x σ H, xs[i]? = some x → Pv i σ H → g x σ H fun σ2 H2 => tb { D with nx := Pv (i + 1), ct := Pv (i + 1), bk := D.nx } σ2 H2) (hd : ∀ σ H, Pv xs.length σ H → D.nx σ H) :
    ∃ W : Nat → Nat → St → Hp → Prop, (∃ m, W 0 m σ H) ∧ ∀ i m σ H, W i m σ H →
      ((Itt K a).stop i H ∧ D.nx σ H) ∨ ((Itt K a).go i H ∧ ∃ N : St → Hp → Prop, (∀ σ' H', N σ' H' → ∃ m', m' < m ∧ W (i + 1) m' σ' H') ∧ ∀ x H', (Itt K a).yld i H x H' → g x σ H' fun σ2 H2 => tb { D with nx := N, ct := N, bk := D.nx } σ2 H2) := by
  refine ⟨fun i m σ H => m = xs.length - i ∧ i ≤ xs.length ∧ Pv i σ H, ⟨xs.length, by simp, Nat.zero_le _, h0⟩, ?_⟩
  rintro i m σ H ⟨rfl, hi, p⟩
  have q := hl i σ H hi p
  by_cases hlt : i < xs.length
  · refine .inr ⟨⟨xs, xs[i], q, by simp [hlt]⟩, Pv (i + 1), fun σ' H' p' => ⟨xs.length - (i + 1), by omega, rfl, hlt, p'⟩, fun x H' y => ?_⟩
    obtain ⟨e, y⟩ := y
    subst e
    exact hs i x σ _ (y xs q) p
  · have e : i = xs.length := by omega
    subst e
    exact .inl ⟨⟨xs, q, Nat.le_refl _⟩, hd σ H p⟩
theorem for_range {lo : Int} {n : Nat} {g : TG} {tb : TS} {D : Ends} {σ : St} {H : Hp} (Pv : Nat → St → Hp → Prop) (h0 : Pv 0 σ H)
    (hs : ∀ i σ H, i < n → Pv i σ H → g (.int (lo + i)) σ H fun σ2 H2 => tb { D with nx := Pv (i + 1), ct := Pv (i + 1), bk := D.nx } σ2 H2) (hd : ∀ σ H, Pv n σ H → D.nx σ H) :
    ∃ W : Nat → Nat → St → Hp → Prop, (∃ m, W 0 m σ H) ∧ ∀ i m σ H, W i m σ H →
      ((Itr lo n).stop i H ∧ D.nx σ H) ∨ ((Itr lo n).go i H ∧ ∃ N : St → Hp → Prop, (∀ σ' H', N σ' H' → ∃ m', m' < m ∧ W (i + 1) m' σ' H') ∧ ∀ x H', (Itr lo n).yld i H x H' → g x σ H' fun σ2 H2 => tb { D with nx := N, ct := N, bk := D.nx } σ2 H2) := by
  refine ⟨fun i m σ H => m = n - i ∧ i ≤ n ∧ Pv i σ H, ⟨n, by simp, Nat.zero_le _, h0⟩, ?_⟩
  rintro i m σ H ⟨rfl, hi, p⟩
  by_cases hlt : i < n
  · refine .inr ⟨hlt, Pv (i + 1), fun σ' H' p' => ⟨n - (i + 1), by omega, rfl, hlt, p'⟩, fun x H' y => ?_⟩
    obtain ⟨e, y⟩ := y
    subst e y
    exact hs i σ _ hlt p
  · have e : i = n := by omega
    subst e
    exact .inl ⟨Nat.le_refl _, hd σ H p⟩
end L2
namespace L2
open PySem PySem.Spec PyProof.Rows
abbrev R2 := V → V → Hp → VK → Prop
def OpR (X : Cx) (f : Value → Value → Sem Value) (r : R2) : Prop :=
  ∀ (pins : List (Addr × Obj)) (s : Shared) (σ : St) (H : Hp) (x y : V) (v u : Value) (Q : VK), Inv X pins σ H s → RelV x v → RelV y u → r x y H Q →
    wpAny (model X.prog X.w) X.A (f v u) (EP X pins σ Q) X.xe s
def UnR (X : Cx) (f : Value → Sem Value) (r : V → Hp → VK → Prop) : Prop :=
  ∀ (pins : List (Addr × Obj)) (s : Shared) (σ : St) (H : Hp) (x : V) (v : Value) (Q : VK), Inv X pins σ H s → RelV x v → r x H Q →
    wpAny (model X.prog X.w) X.A (f v) (EP X pins σ Q) X.xe s
def CallR (X : Cx) (f : Value) (r : List V → Hp → VK → Prop) : Prop :=
  ∀ (pins : List (Addr × Obj)) (s : Shared) (σ : St) (H : Hp) (xs : List V) (us : List Value) (Q : VK), Inv X pins σ H s → Vals xs us → r xs H Q →
    wpAny (model X.prog X.w) X.A (call f us) (EP X pins σ Q) X.xe s
def tOp (r : R2) (ta tb : TE) : TE := fun σ H Q => ta σ H fun x H1 => tb σ H1 fun y H2 => r x y H2 Q
def tUn (r : V → Hp → VK → Prop) (ta : TE) : TE := fun σ H Q => ta σ H fun x H1 => r x H1 Q
def rI (C : Int → Int → Prop) (g : Int → Int → V) : R2 := fun x y H Q => ∃ i j, x = .int i ∧ y = .int j ∧ C i j ∧ Q (g i j) H
def rI0 (g : Int → Int → V) : R2 := fun x y H Q => ∃ i j, x = .int i ∧ y = .int j ∧ Q (g i j) H
def rU (g : Int → V) : V → Hp → VK → Prop := fun x H Q => ∃ i, x = .int i ∧ Q (g i) H
section
variable {X : Cx} {a b c : Expr} {ta tb tc : TE} {pos : Pos}
theorem binT (ha : PE X a ta) (hb : PE X b tb) {pins : List (Addr × Obj)} {s : Shared} {σ : St} {H : Hp} {R : V → V → Hp → Prop} (I : Inv X pins σ H s)
    (h : ta σ H fun x H1 => tb σ H1 fun y H2 => R x y H2) {Q : Value → Shared → Prop} {f : Value → Value → Sem Value}
    (hf : ∀ v u s2 x y H2, Inv X pins σ H2 s2 → RelV x v → RelV y u → R x y H2 → wpAny (model X.prog X.w) X.A (f v u) Q X.xe s2) :
    wpAny (model X.prog X.w) X.A (eval a X.env) (fun v s₁ => wpAny (model X.prog X.w) X.A (eval b X.env) (fun u s₂ => wpAny (model X.prog X.w) X.A (f v u) Q X.xe s₂) X.xe s₁) X.xe s := by
  refine thn (ha pins s σ H _ I h) fun v s1 ⟨x, H1, I1, r1, q1⟩ => ?_
  refine thn (hb pins s1 σ H1 _ I1 q1) fun u s2 ⟨y, H2, I2, r2, q2⟩ => ?_
  exact hf v u s2 x y H2 I2 r1 r2 q2
theorem pe_op {op : Operator} {r : R2} (ho : OpR X (binaryOp op) r) (ha : PE X a ta) (hb : PE X b tb) : PE X (.BinOp a op b pos) (tOp r ta tb) := by
  intro pins s σ H Q I h
  exact wpAny_BinOp (binT ha hb I h fun v u s2 x y H2 I2 rx ry q => ho pins s2 σ H2 x y v u Q I2 rx ry q)
theorem pe_un {op : UnaryOp} {r : V → Hp → VK → Prop} (ho : UnR X (unaryOp op) r) (ha : PE X a ta) : PE X (.UnaryOp op a pos) (tUn r ta) := by
  intro pins s σ H Q I h
  exact UnaryOp_ (thn (ha pins s σ H _ I h) fun v s1 ⟨x, H1, I1, r1, q1⟩ => ho pins s1 σ H1 x v Q I1 r1 q1)
theorem opI {f : Value → Value → Sem Value} {C : Int → Int → Prop} {g : Int → Int → Int}
    (rule : ∀ (i j : Int) (t u : Tok) (s : Shared) (Q : Value → Shared → Prop) (E : Value → Shared → Prop), C i j → Q (.int (g i j) s.toks) { s with toks := s.toks + 1 } → wpAny (model X.prog X.w) X.A (f (.int i t) (.int j u)) Q E s) :
    OpR X f (rI C fun i j => .int (g i j)) := by
  intro pins s σ H x y v u Q I rx ry h
  obtain ⟨i, j, rfl, rfl, hc, q⟩ := h
  obtain ⟨t, rfl⟩ := rx
  obtain ⟨t', rfl⟩ := ry
  exact rule i j t t' s _ _ hc ⟨.int (g i j), H, I.tok _, ⟨_, rfl⟩, q⟩
theorem opI0 {f : Value → Value → Sem Value} {g : Int → Int → Int}
    (rule : ∀ (i j : Int) (t u : Tok) (s : Shared) (Q : Value → Shared → Prop) (E : Value → Shared → Prop), Q (.int (g i j) s.toks) { s with toks := s.toks + 1 } → wpAny (model X.prog X.w) X.A (f (.int i t) (.int j u)) Q E s) :
    OpR X f (rI0 fun i j => .int (g i j)) := by
  intro pins s σ H x y v u Q I rx ry h
  obtain ⟨i, j, rfl, rfl, q⟩ := h
  obtain ⟨t, rfl⟩ := rx
  obtain ⟨t', rfl⟩ := ry
  exact rule i j t t' s _ _ ⟨.int (g i j), H, I.tok _, ⟨_, rfl⟩, q⟩
theorem opB0 {f : Value → Value → Sem Value} {g : Int → Int → Bool}
    (rule : ∀ (i j : Int) (t u : Tok) (s : Shared) (Q : Value → Shared → Prop) (E : Value → Shared → Prop), Q (.bool (g i j)) s → wpAny (model X.prog X.w) X.A (f (.int i t) (.int j u)) Q E s) :
    OpR X f (rI0 fun i j => .bl (g i j)) := by
  intro pins s σ H x y v u Q I rx ry h
  obtain ⟨i, j, rfl, rfl, q⟩ := h
  obtain ⟨t, rfl⟩ := rx
  obtain ⟨t', rfl⟩ := ry
  exact rule i j t t' s _ _ ⟨.bl (g i j), H, I, rfl, q⟩
def CPow (i j : Int) : Prop := 0 ≤ j ∧ j ≤ 1000000 ∧ i.natAbs < 2 ^ 64
theorem op_add : OpR X (binaryOp .Add) (rI0 fun i j => .int (i + j)) := opI0 fun _ _ _ _ _ _ _ q => add_int q
theorem op_sub : OpR X (binaryOp .Sub) (rI0 fun i j => .int (i - j)) := opI0 fun _ _ _ _ _ _ _ q => sub_int q
theorem op_mod : OpR X (binaryOp .Mod) (rI (fun _ j => 0 < j) fun i j => .int (i % j)) := opI fun i j _ _ _ _ _ hc q => by
  have h1 : (0 : Int) < j := hc
  exact mod_int' (by omega) (by rw [Int.fmod_eq_emod_of_nonneg i (by omega)]; exact q)
theorem op_shl : OpR X (binaryOp .LShift) (rI CPow fun i j => .int (i * 2 ^ j.toNat)) := opI fun _ _ _ _ _ _ _ hc q => lshift_int_small hc.1 hc.2.1 hc.2.2 q
theorem op_xor : OpR X (binaryOp .BitXor) (rI0 fun i j => .int (Builtin.bitXor i j)) := opI0 fun _ _ _ _ _ _ _ q => xor_int q
theorem unI {f : Value → Sem Value} {g : Int → Int}
    (rule : ∀ (i : Int) (t : Tok) (s : Shared) (Q : Value → Shared → Prop) (E : Value → Shared → Prop), Q (.int (g i) s.toks) { s with toks := s.toks + 1 } → wpAny (model X.prog X.w) X.A (f (.int i t)) Q E s) :
    UnR X f (rU fun i => .int (g i)) := by
  intro pins s σ H x v Q I rx h
  obtain ⟨i, rfl, q⟩ := h
  obtain ⟨t, rfl⟩ := rx
  exact rule i t s _ _ ⟨.int (g i), H, I.tok _, ⟨_, rfl⟩, q⟩
theorem un_neg : UnR X (unaryOp .USub) (rU fun i => .int (-i)) := unI fun _ _ _ _ _ q => neg_int q
end
def scal : V → V → Bool
  | .non, .non => true | .non, .int _ => true | .int _, .non => true | .non, .bl _ => true | .bl _, .non => true | .non, .str _ => true | .str _, .non => true
  | .int _, .int _ => true | .bl _, .bl _ => true | .str _, .str _ => true | .byt _, .byt _ => true
  | .int _, .str _ => true | .str _, .int _ => true | .bl _, .str _ => true | .str _, .bl _ => true
  | _, _ => false
def rEq : R2 := fun x y H Q => scal x y = true ∧ Q (.bl (decide (x = y))) H
def rNe : R2 := fun x y H Q => scal x y = true ∧ Q (.bl (!decide (x = y))) H
theorem dec_int {i j : Int} : decide (V.int i = V.int j) = (i == j) := by
  rw [Bool.eq_iff_iff]
  simp
theorem dec_bl {i j : Bool} : decide (V.bl i = V.bl j) = (i == j) := by
  rw [Bool.eq_iff_iff]
  simp
theorem dec_str {i j : Str} : decide (V.str i = V.str j) = (i == j) := by
  rw [Bool.eq_iff_iff]
  simp
theorem dec_byt {i j : Array UInt8} : decide (V.byt i = V.byt j) = (i.toList == j.toList) := by
  rw [Bool.eq_iff_iff]
  cases i
  cases j
  simp
section
variable {X : Cx} {a b c : Expr} {ta tb tc : TE} {pos : Pos}
theorem fin_bl {pins : List (Addr × Obj)} {σ : St} {H : Hp} {s : Shared} {Q : VK} {k k' : Bool} (I : Inv X pins σ H s) (q : Q (.bl k) H) (e : k = k') : EP X pins σ Q (.bool k') s := by
  subst e
  exact ⟨.bl k, H, I, rfl, q⟩
theorem op_eq : OpR X (compareOp .Eq) rEq := by
  intro pins s σ H x y v u Q I rx ry h
  obtain ⟨hs, q⟩ := h
  cases x with
  | non =>
    cases rx
    cases y with
    | non => cases ry; exact PySem.EqNone.eq_none_none (fin_bl I q (by simp))
    | bl j => cases ry; exact PySem.EqNone.eq_none_bool (fin_bl I q (by simp))
    | int j => obtain ⟨t', rfl⟩ := ry; exact PySem.EqNone.eq_none_int (fin_bl I q (by simp))
    | str j => obtain ⟨t', rfl⟩ := ry; exact PySem.EqNone.eq_none_str (fin_bl I q (by simp))
    | _ => exact absurd (show false = true from hs) Bool.false_ne_true
  | bl i =>
    cases rx
    cases y with
    | non => cases ry; exact PySem.EqNone.eq_bool_none (fin_bl I q (by simp))
    | bl j => cases ry; exact eq_bool (fin_bl I q dec_bl)
    | str j => obtain ⟨t', rfl⟩ := ry; exact PySem.EqMixed.eq_bool_str (fin_bl I q (by simp))
    | _ => exact absurd (show false = true from hs) Bool.false_ne_true
  | int i =>
    obtain ⟨t, rfl⟩ := rx
    cases y with
    | non => cases ry; exact PySem.EqNone.eq_int_none (fin_bl I q (by simp))
    | int j => obtain ⟨t', rfl⟩ := ry; exact eq_int (fin_bl I q dec_int)
    | str j => obtain ⟨t', rfl⟩ := ry; exact PySem.EqMixed.eq_int_str (fin_bl I q (by simp))
    | _ => exact absurd (show false = true from hs) Bool.false_ne_true
  | str i =>
    obtain ⟨t, rfl⟩ := rx
    cases y with
    | non => cases ry; exact PySem.EqNone.eq_str_none (fin_bl I q (by simp))
    | bl j => cases ry; exact PySem.EqMixed.eq_str_bool (fin_bl I q (by simp))
    | int j => obtain ⟨t', rfl⟩ := ry; exact PySem.EqMixed.eq_str_int (fin_bl I q (by simp))
    | str j => obtain ⟨t', rfl⟩ := ry; exact eq_str (fin_bl I q dec_str)
    | _ => exact absurd (show false = true from hs) Bool.false_ne_true
  | byt i =>
    obtain ⟨t, rfl⟩ := rx
    cases y with
    | byt j => obtain ⟨t', rfl⟩ := ry; exact PySem.W.eq_bytes (fin_bl I q dec_byt)
    | _ => exact absurd (show false = true from hs) Bool.false_ne_true
  | _ => cases y <;> exact absurd (show false = true from hs) Bool.false_ne_true
theorem op_ne : OpR X (compareOp .NotEq) rNe := by
  intro pins s σ H x y v u Q I rx ry h
  obtain ⟨hs, q⟩ := h
  cases x with
  | non =>
    cases rx
    cases y with
    | non => cases ry; exact PySem.EqNone.ne_none_none (fin_bl I q (by simp))
    | bl j => cases ry; exact PySem.EqNone.ne_none_bool (fin_bl I q (by simp))
    | int j => obtain ⟨t', rfl⟩ := ry; exact PySem.EqNone.ne_none_int (fin_bl I q (by simp))
    | str j => obtain ⟨t', rfl⟩ := ry; exact PySem.EqNone.ne_none_str (fin_bl I q (by simp))
    | _ => exact absurd (show false = true from hs) Bool.false_ne_true
  | bl i =>
    cases rx
    cases y with
    | non => cases ry; exact PySem.EqNone.ne_bool_none (fin_bl I q (by simp))
    | bl j => cases ry; exact ne_bool (fin_bl I q (congrArg not dec_bl))
    | str j => obtain ⟨t', rfl⟩ := ry; exact PySem.EqMixed.ne_bool_str (fin_bl I q (by simp))
    | _ => exact absurd (show false = true from hs) Bool.false_ne_true
  | int i =>
    obtain ⟨t, rfl⟩ := rx
    cases y with
    | non => cases ry; exact PySem.EqNone.ne_int_none (fin_bl I q (by simp))
    | int j => obtain ⟨t', rfl⟩ := ry; exact ne_int (fin_bl I q (congrArg not dec_int))
    | str j => obtain ⟨t', rfl⟩ := ry; exact PySem.EqMixed.ne_int_str (fin_bl I q (by simp))
    | _ => exact absurd (show false = true from hs) Bool.false_ne_true
  | str i =>
    obtain ⟨t, rfl⟩ := rx
    cases y with
    | non => cases ry; exact PySem.EqNone.ne_str_none (fin_bl I q (by simp))
    | bl j => cases ry; exact PySem.EqMixed.ne_str_bool (fin_bl I q (by simp))
    | int j => obtain ⟨t', rfl⟩ := ry; exact PySem.EqMixed.ne_str_int (fin_bl I q (by simp))
    | str j => obtain ⟨t', rfl⟩ := ry; exact ne_str (fin_bl I q (congrArg not dec_str))
    | _ => exact absurd (show false = true from hs) Bool.false_ne_true
  | byt i =>
    obtain ⟨t, rfl⟩ := rx
    cases y with
    | byt j => obtain ⟨t', rfl⟩ := ry; exact PySem.W.ne_bytes (fin_bl I q (congrArg not dec_byt))
    | _ => exact absurd (show false = true from hs) Bool.false_ne_true
  | _ => cases y <;> exact absurd (show false = true from hs) Bool.false_ne_true
theorem op_lt : OpR X (compareOp .Lt) (rI0 fun i j => .bl (decide (i < j))) := opB0 fun _ _ _ _ _ _ _ q => lt_int q
theorem op_le : OpR X (compareOp .LtE) (rI0 fun i j => .bl (decide (i ≤ j))) := opB0 fun _ _ _ _ _ _ _ q => le_int q
theorem op_gt : OpR X (compareOp .Gt) (rI0 fun i j => .bl (decide (j < i))) := opB0 fun _ _ _ _ _ _ _ q => gt_int q
theorem nomark (b : Expr) {op : CmpOp} (h : op ≠ .In := by decide) (h2 : op ≠ .NotIn := by decide) : behindInMarks op b = false := by
  have e1 : (op == CmpOp.In) = false := by cases op <;> first | rfl | exact absurd rfl h
  have e2 : (op == CmpOp.NotIn) = false := by cases op <;> first | rfl | exact absurd rfl h2
  cases b <;> simp [behindInMarks, e1, e2]
theorem pe_cmpR {op : CmpOp} {r : R2} (ho : OpR X (compareOp op) r) (ha : PE X a ta) (hb : PE X b tb) (hm : behindInMarks op b = false) : PE X (.Compare a [op] [b] pos) (tOp r ta tb) := by
  intro pins s σ H Q I h
  exact wpAny_Compare1 (binT ha hb I h fun v u s2 x y H2 I2 rx ry q => ho pins s2 σ H2 x y v u Q I2 rx ry q) hm
def tTest (t : TE) : TT := fun σ H Q => t σ H fun x H' => ∃ k, x = .bl k ∧ Q k H'
theorem pt_cmpR {op : CmpOp} {r : R2} (ho : OpR X (compareOp op) r) (ha : PE X a ta) (hb : PE X b tb) (hm : behindInMarks op b = false) : PT X (.Compare a [op] [b] pos) (tTest (tOp r ta tb)) := by
  intro pins s σ H Q I h
  refine wpAny_isTrue_Compare1 (thn (ha pins s σ H _ I h) fun v s1 ⟨x, H1, I1, r1, q1⟩ => thn (hb pins s1 σ H1 _ I1 q1) fun u s2 ⟨y, H2, I2, r2, q2⟩ =>
    thn (ho pins s2 σ H2 x y v u _ I2 r1 r2 q2) fun c s3 ⟨z, H3, I3, r3, k, e, q3⟩ => ?_) hm
  subst e
  cases r3
  exact wpAny_truthy_bool ⟨H3, I3, q3⟩
def tChain (r r' : R2) (ta tb tc : TE) : TE := fun σ H Q => ta σ H fun x H1 => tb σ H1 fun y H2 => r x y H2 fun z H3 => ∃ k, z = .bl k ∧
  (if k = true then tc σ H3 fun w' H4 => r' y w' H4 Q else Q (.bl false) H3)
theorem pe_chain {op op' : CmpOp} {r r' : R2} (ho : OpR X (compareOp op) r) (ho' : OpR X (compareOp op') r') (ha : PE X a ta) (hb : PE X b tb) (hc : PE X c tc)
    (hm : lastMarks [op, op'] [b, c] = false := by with_unfolding_all rfl) : PE X (.Compare a [op, op'] [b, c] pos) (tChain r r' ta tb tc) := by
  intro pins s σ H Q I h
  refine Compare_chain (thn (ha pins s σ H _ I h) fun v s1 ⟨x, H1, I1, r1, q1⟩ => chain_link (thn (hb pins s1 σ H1 _ I1 q1) fun u s2 ⟨y, H2, I2, r2, q2⟩ =>
    thn (ho pins s2 σ H2 x y v u _ I2 r1 r2 q2) fun d s3 ⟨z, H3, I3, r3, k, e, q3⟩ => ?_)) hm
  subst e
  cases r3
  refine wpAny_truthy_bool ?_
  cases k with
  | false => exact ite_ff ⟨.bl false, H3, I3, rfl, q3⟩
  | true => exact ite_tt (chain_last (thn (hc pins s3 σ H3 _ I3 q3) fun w' s4 ⟨z', H4, I4, r4, q4⟩ => ho' pins s4 σ H4 y z' u w' Q I4 r2 r4 q4))
theorem pt_chain {op op' : CmpOp} {r r' : R2} (ho : OpR X (compareOp op) r) (ho' : OpR X (compareOp op') r') (ha : PE X a ta) (hb : PE X b tb) (hc : PE X c tc)
    (hm : lastMarks [op, op'] [b, c] = false := by with_unfolding_all rfl) : PT X (.Compare a [op, op'] [b, c] pos) (tTest (tChain r r' ta tb tc)) := by
  intro pins s σ H Q I h
  refine isTrue_chain (thn (ha pins s σ H _ I h) fun v s1 ⟨x, H1, I1, r1, q1⟩ => test_link (thn (hb pins s1 σ H1 _ I1 q1) fun u s2 ⟨y, H2, I2, r2, q2⟩ =>
    thn (ho pins s2 σ H2 x y v u _ I2 r1 r2 q2) fun d s3 ⟨z, H3, I3, r3, k, e, q3⟩ => ?_)) hm
  subst e
  cases r3
  refine wpAny_truthy_bool ?_
  cases k with
  | false =>
    obtain ⟨k', e', q'⟩ := q3
    cases e'
    exact ite_ff ⟨H3, I3, q'⟩
  | true =>
    refine ite_tt (test_last (thn (hc pins s3 σ H3 _ I3 q3) fun w' s4 ⟨z', H4, I4, r4, q4⟩ => thn (ho' pins s4 σ H4 y z' u w' _ I4 r2 r4 q4) fun d' s5 ⟨z2, H5, I5, r5, k2, e2, q5⟩ => ?_))
    subst e2
    cases r5
    exact wpAny_truthy_bool ⟨H5, I5, q5⟩
theorem line63 : (sizeLine : Nat) < 2 ^ 63 := by rw [sizeLine_eq]; decide
theorem vals1 {x : V} {us : List Value} (r : Vals [x] us) : ∃ u, us = [u] ∧ RelV x u := by
  cases r with
  | cons r1 r2 => cases r2; exact ⟨_, rfl, r1⟩
end
end L2
namespace L2
open PySem PySem.Spec PyProof.Rows
structure ObjM (h : Heap) (x dx C : Addr) (mA : Str → Option Value) : Prop where
  obj : h.get? x = some (PySem.W.instObj C dx)
  ns : h.Ns1 dx mA
  ne : dx ≠ x
theorem lookIn_ns {h : Heap} {dx : Addr} {mA : Str → Option Value} (n : h.Ns1 dx mA) : ∃ od, h.get? dx = some od ∧ ∀ name, PySem.W.lookIn name od = some (mA name) := by
  obtain ⟨o, es, ep, ho, hd, hk, _, hm⟩ := n
  refine ⟨o, ho, fun name => ?_⟩
  have e := hm name
  unfold nsFind findBy at e
  rw [← Array.find?_toList] at e
  unfold PySem.W.lookIn
  rw [hd]
  dsimp only
  split
  · rename_i y q
    rw [q] at e
    exact congrArg some e
  · rename_i q
    rw [q] at e
    have a : es.toList.any (·.refKey) = false := by
      rw [List.any_eq_false]
      intro y hy
      obtain ⟨z, t, hkey⟩ := hk y (Array.mem_toList_iff.mp hy)
      simp [DictEntry.refKey, hkey]
    have a' : ¬ es.toList.any (·.refKey) = true := by rw [a]; exact Bool.false_ne_true
    rw [if_neg a']
    exact congrArg some e
theorem ObjM.look {h : Heap} {x dx C : Addr} {mA : Str → Option Value} (I : ObjM h x dx C mA) : ∃ od, PySem.W.InstAt h x (PySem.W.instObj C dx) C (some od) ∧ ∀ name, PySem.W.lookIn name od = some (mA name) :=
  let ⟨od, ho, hl⟩ := lookIn_ns I.ns
  ⟨od, ⟨I.obj, rfl, rfl, ho⟩, hl⟩
section
variable {prog : Program} {w : World} {A : Around} {E : Value → Shared → Prop} {s : Shared} {K : PySem.W.Frag} {x dx C f : Addr} {mA : Str → Option Value} {name : Str} {v : Value}
theorem get_map {expr : Bool} {Q : Value → Shared → Prop} (X : K.In s.heap) (I : ObjM s.heap x dx C mA) (hg : PySem.W.plainGet K C name = true) (hh : PySem.W.hasDictIn K C = true)
    (ha : PySem.W.findIn K (.ref C) name = some none) (hv : mA name = some v) (hv' : PySem.W.handedIn v = true) (h : Q v { s with toks := s.toks + 1 }) :
    wpAny (model prog w) A (getAttr (.ref x) name expr) Q E s := by
  obtain ⟨od, J, hl⟩ := I.look
  exact PySem.W.get_value X J (PySem.W.plainGet_of hg).1 (PySem.W.findObj_own hh ha rfl (by rw [hl, hv])) hv' h
theorem get_meth {pl : Sem Bool} {Q : Value × List Value → Shared → Prop} (X : K.In s.heap) (I : ObjM s.heap x dx C mA) (hg : PySem.W.plainGet K C name = true)
    (hf : PySem.W.findIn K (.ref C) name = some (some (.ref f))) (ht : PySem.W.isFn K (.ref f) = true) (hv : mA name = none) (h : Q (.ref f, [.ref x]) s) :
    wpAny (model prog w) A (getMethod (.ref x) name pl) Q E s := by
  obtain ⟨od, J, hl⟩ := I.look
  exact PySem.W.method_fn X J (PySem.W.plainGet_of hg).1 (PySem.W.plainGet_of hg).2 hf (beq_iff_eq.mp ht) (by show (PySem.W.lookIn name od).map (·.isSome) = some false; rw [hl, hv]; rfl) h
theorem set_map {ns : List Str} {Q : Unit → Shared → Prop} (X : K.In s.heap) (I : ObjM s.heap x dx C mA)
    (hs : PySem.W.findIn K (.ref C) "__setattr__" = some (some (.builtin "object.__setattr__"))) (hp : PySem.W.plainOver K C = true) (ht : PySem.W.takerIn K C name = some none) (hh : PySem.W.hasDictIn K C = true)
    (hw : PySem.Within mA ns) (hsz : ns.length ≤ sizeLine)
    (h : ∀ h', ObjM h' x dx C (fun y => if y = name then some v else mA y) → Heap.SameBut dx s.heap h' → Q () { s with heap := h', toks := s.toks + 2 }) :
    wpAny (model prog w) A (setAttr (.ref x) name v) Q E s := by
  obtain ⟨od, J, hl⟩ := I.look
  refine PySem.W.set_plain X J hs (PySem.W.osa_open (s := { s with toks := s.toks + 1 }) (r := none) X J hp ht fun b => ?_)
  obtain ⟨cd, hc, hd'⟩ := PySem.W.any_some hh
  have hx : s.heap.get? x = some ⟨.ref C, some dx, .plain, #[]⟩ := I.obj
  refine wpAny_bind (wpAny_pure (wpAny_bind (wpAny_bind (wpAny_loadPart hx (wpAny_bind (PySem.W.Looks.here (s := { s with toks := s.toks + 1 }) (PySem.W.looks_clsIn X hc) ?_))))))
  rw [hd']
  refine wpAny_pure (a := some dx) (wpAny_bind (wpAny_pure (wpAny_bind ?_)))
  refine wpAny_nsSet1 (s := { s with toks := s.toks + 1 }) I.ns fun h' hn2 hs2 => ?_
  obtain ⟨oD, esD, epD, hoD, hdD, hcD⟩ := hn2.count (PySem.Within.cons name v hw)
  refine wpAny_bind (wpAny_lookBehind hoD (by rw [hdD]; exact pastItsLine_dict (Nat.le_trans hcD (by rw [List.length_cons]; omega))) ?_)
  exact wpAny_pure (h _ ⟨(hs2.2 _ (Ne.symm I.ne)).trans I.obj, hn2, I.ne⟩ hs2)
theorem make_map {R : Result → Shared → Prop} {vs : List Value} {kw : List (Str × Value)} (X : K.In s.heap) (hm : PySem.W.makesIn K C = true)
    (hi : PySem.W.findIn K (.ref C) "__init__" = some (some (.ref f))) (hf : PySem.W.typeIn K (.ref f) = some (.type "function"))
    (h : codeAny (model prog w) (A.under (.builtin "type.__call__" ⟨.ref C :: vs, kw⟩)) (.call (.ref f) ⟨.ref (s.heap.objs.size + 1) :: vs, kw⟩) (PySem.W.InitBack (s.heap.objs.size + 1) R)
      { s with heap := (s.heap.push PySem.W.emptyDict).push (PySem.W.instObj C s.heap.objs.size) }) :
    codeAny (model prog w) A (.call (.ref C) ⟨vs, kw⟩) R s := by
  obtain ⟨hh, g, d, t, os⟩ := s
  exact PySem.W.make_core (PySem.W.makes_of X hm) (PySem.W.looks_findIn X hi) (fun self => PySem.W.bind_fn X self hf) (.inl rfl) h
end
def putF (f : Str) (v : V) : List (Str × V) → List (Str × V)
  | [] => [(f, v)]
  | (g, x) :: r => if g = f then (g, v) :: r else (g, x) :: putF f v r
theorem lookup_putF (f g : Str) (v : V) : ∀ fs : List (Str × V), (putF f v fs).lookup g = if g = f then some v else fs.lookup g
  | [] => by
    show List.lookup g [(f, v)] = _
    by_cases h : g = f
    · have hb : (g == f) = true := beq_iff_eq.mpr h
      simp only [List.lookup, hb, if_pos h]
    · have hb : (g == f) = false := beq_eq_false_iff_ne.mpr h
      simp only [List.lookup, hb, if_neg h]
  | (k, x) :: r => by
    have ih := lookup_putF f g v r
    rw [show putF f v ((k, x) :: r) = (if k = f then (k, v) :: r else (k, x) :: putF f v r) from rfl]
    by_cases hk : k = f
    · rw [if_pos hk]
      by_cases h : g = k
      · have hb : (g == k) = true := beq_iff_eq.mpr h
        simp only [List.lookup, hb, if_pos (h.trans hk)]
      · have hb : (g == k) = false := beq_eq_false_iff_ne.mpr h
        simp only [List.lookup, hb, if_neg (fun e : g = f => h (e.trans hk.symm))]
    · rw [if_neg hk]
      by_cases h : g = k
      · have hb : (g == k) = true := beq_iff_eq.mpr h
        simp only [List.lookup, hb, if_neg (fun e : g = f => hk (h.symm.trans e))]
      · have hb : (g == k) = false := beq_eq_false_iff_ne.mpr h
        simp only [List.lookup, hb]
        exact ih
theorem keys_putF (f : Str) (v : V) : ∀ fs : List (Str × V), f ∈ (putF f v fs).map (·.1) ∧ ∀ g, g ∈ fs.map (·.1) → g ∈ (putF f v fs).map (·.1)
  | [] => ⟨by simp [putF], fun g h => by simp at h⟩
  | (k, x) :: r => by
    obtain ⟨i1, i2⟩ := keys_putF f v r
    rw [show putF f v ((k, x) :: r) = (if k = f then (k, v) :: r else (k, x) :: putF f v r) from rfl]
    by_cases hk : k = f
    · rw [if_pos hk]
      subst hk
      exact ⟨by simp, fun g h => by simpa using h⟩
    · rw [if_neg hk]
      refine ⟨?_, fun g h => ?_⟩
      · rw [List.map_cons]
        exact List.mem_cons_of_mem _ i1
      · rw [List.map_cons] at h ⊢
        rcases List.mem_cons.mp h with e | e
        · exact List.mem_cons.mpr (.inl e)
        · exact List.mem_cons_of_mem _ (i2 g e)
theorem length_putF (f : Str) (v : V) : ∀ fs : List (Str × V), (putF f v fs).length ≤ fs.length + 1
  | [] => by simp [putF]
  | (k, x) :: r => by
    have ih := length_putF f v r
    rw [show putF f v ((k, x) :: r) = (if k = f then (k, v) :: r else (k, x) :: putF f v r) from rfl]
    by_cases hk : k = f
    · rw [if_pos hk, List.length_cons, List.length_cons]; omega
    · rw [if_neg hk, List.length_cons, List.length_cons]; omega
theorem RelO.some_of {v : V} {o : Option Value} (r : RelO (some v) o) : ∃ u, o = some u ∧ RelV v u := by
  cases o with
  | none => exact (show False from r).elim
  | some u => exact ⟨u, rfl, r⟩
theorem RelO.none_of {o : Option Value} (r : RelO none o) : o = none := by
  cases o with
  | none => rfl
  | some u => exact (show False from r).elim
theorem handed_of {v : V} {u : Value} (r : RelV v u) : PySem.W.handedIn u = true := by
  cases v with
  | non => cases (show u = Value.none from r); rfl
  | bl b => cases (show u = Value.bool b from r); rfl
  | int i => obtain ⟨t, e⟩ := (show ∃ t, u = Value.int i t from r); cases e; rfl
  | str x => obtain ⟨t, e⟩ := (show ∃ t, u = Value.str x t from r); cases e; rfl
  | byt b => obtain ⟨t, e⟩ := (show ∃ t, u = Value.bytes b t from r); cases e; rfl
  | flt b => obtain ⟨t, e⟩ := (show ∃ t, u = Value.float b t from r); cases e; rfl
  | ref a => cases (show u = Value.ref a from r); rfl
  | ty n => cases (show u = Value.type n from r); rfl
section
variable {P : Program} {w : World} {H H' : Hp} {h h' : Heap} {a C dx : Addr} {fs fs' : List (Str × V)}
theorem ins_get (hok : HOk P w H h) (e : H a = some (.ins C dx fs)) : ∃ mA, ObjM h a dx C mA ∧ (∀ f, RelO (fs.lookup f) (mA f)) ∧ PySem.Within mA (fs.map (·.1)) ∧ fs.length ≤ 1000 ∧ H dx = some (.own a) := by
  obtain ⟨d, z, ne, ob, mA, n, r, q⟩ := (show ObjOk P w H h a (.ins C dx fs) from hok a _ e)
  exact ⟨mA, ⟨ob, n, ne⟩, r, q, z, d⟩
end
structure Cls (K : PySem.W.Frag) (C : Addr) : Prop where
  pg : PySem.W.plainGet K C Str.empty = true
  hd : PySem.W.hasDictIn K C = true
  po : PySem.W.plainOver K C = true
  sa : PySem.W.findIn K (.ref C) "__setattr__" = some (some (.builtin "object.__setattr__"))
theorem Cls.get {K : PySem.W.Frag} {C : Addr} (c : Cls K C) (f : Str) : PySem.W.plainGet K C f = true := c.pg
def NoAttr (K : PySem.W.Frag) (C : Addr) (f : Str) : Prop := PySem.W.findIn K (.ref C) f = some none
theorem NoAttr.taker {K : PySem.W.Frag} {C : Addr} {f : Str} (n : NoAttr K C f) : PySem.W.takerIn K C f = some none := by
  unfold PySem.W.takerIn
  rw [show PySem.W.findIn K (.ref C) f = some none from n]
  rfl
structure Meth (K : PySem.W.Frag) (C : Addr) (m : Str) (f : Addr) : Prop where
  at_ : PySem.W.findIn K (.ref C) m = some (some (.ref f))
  fn : PySem.W.isFn K (.ref f) = true
  kp : PySem.W.keepIn K (.ref f) = true
section
variable {X : Cx} {pins : List (Addr × Obj)} {σ : St} {H : Hp} {s : Shared} {a C dx : Addr} {fs : List (Str × V)} {f : Str} {v : V} {A : Around} {E : Value → Shared → Prop}
theorem getattr_ok {b : Bool} {Q : Value → Shared → Prop} (I : Inv X pins σ H s) (e : H a = some (.ins C dx fs)) (c : Cls X.K C) (n : NoAttr X.K C f) (l : fs.lookup f = some v)
    (h : ∀ u s', Inv X pins σ H s' → RelV v u → Q u s') : wpAny (model X.prog X.w) A (getAttr (.ref a) f b) Q E s := by
  obtain ⟨mA, O, r, _, _, _⟩ := ins_get I.hok e
  obtain ⟨u, hu, ru⟩ := RelO.some_of (v := v) (o := mA f) (by rw [← l]; exact r f)
  exact get_map I.kIn O (c.get f) c.hd n hu (handed_of ru) (h u _ (I.tok _) ru)
theorem getmeth_ok {m : Str} {g : Addr} {pl : Sem Bool} {Q : Value × List Value → Shared → Prop} (I : Inv X pins σ H s) (e : H a = some (.ins C dx fs)) (c : Cls X.K C) (k : Meth X.K C m g) (l : fs.lookup m = none)
    (h : Q (.ref g, [.ref a]) s) : wpAny (model X.prog X.w) A (getMethod (.ref a) m pl) Q E s := by
  obtain ⟨mA, O, r, _, _, _⟩ := ins_get I.hok e
  have hn : mA m = none := RelO.none_of (by rw [← l]; exact r m)
  exact get_meth I.kIn O (c.get m) k.at_ k.fn hn h
theorem setattr_ok {y : V} {u : Value} {Q : Unit → Shared → Prop} (I : Inv X pins σ H s) (e : H a = some (.ins C dx fs)) (c : Cls X.K C) (n : NoAttr X.K C f) (hl : fs.length < 1000) (ry : RelV y u)
    (h : ∀ s', Inv X pins σ (upd H a (.ins C dx (putF f y fs))) s' → Q () s') : wpAny (model X.prog X.w) A (setAttr (.ref a) f u) Q E s := by
  obtain ⟨mA, O, r, wi, _, ho⟩ := ins_get I.hok e
  have hz : (fs.map (·.1)).length ≤ sizeLine := by rw [List.length_map, sizeLine_eq]; omega
  refine set_map I.kIn O c.sa c.po n.taker c.hd wi hz fun h' O' sb => h _ ?_
  have hd : ∃ o, h'.get? dx = some o := let ⟨o, _, _, e', _⟩ := O'.ns; ⟨o, e'⟩
  refine I.write (x := a) (e := dx) (by rw [e]; exact True.intro) (.inr ho) (fun b q hb z => (sb.2 b hb).trans z) hd ?_
  refine ⟨by rw [upd_ne O.ne]; exact ho, ?_, O.ne, O'.obj, _, O'.ns, fun g => ?_, fun g hg => ?_⟩
  · have := length_putF f y fs; omega
  · show RelO ((putF f y fs).lookup g) (if g = f then some u else mA g)
    rw [lookup_putF]
    by_cases q : g = f
    · rw [if_pos q, if_pos q]; exact ry
    · rw [if_neg q, if_neg q]; exact r g
  · by_cases q : g = f
    · rw [q]; exact (keys_putF f y fs).1
    · refine (keys_putF f y fs).2 g (wi g fun z => hg ?_)
      show (if g = f then some u else mA g) = none
      rw [if_neg q]; exact z
theorem Inv.made (I : Inv X pins σ H s) : Inv X pins σ (upd (upd H s.heap.objs.size (.own (s.heap.objs.size + 1))) (s.heap.objs.size + 1) (.ins C s.heap.objs.size []))
    { s with heap := (s.heap.push PySem.W.emptyDict).push (PySem.W.instObj C s.heap.objs.size) } := by
  have e1 : (s.heap.push PySem.W.emptyDict).get? s.heap.objs.size = some PySem.W.emptyDict := Heap.get?_push_size s.heap rfl
  have e2 : ((s.heap.push PySem.W.emptyDict).push (PySem.W.instObj C s.heap.objs.size)).get? (s.heap.objs.size + 1) = some (PySem.W.instObj C s.heap.objs.size) := by
    have := Heap.get?_push_size (s.heap.push PySem.W.emptyDict) (o := PySem.W.instObj C s.heap.objs.size) rfl
    rwa [Heap.size_push] at this
  have e3 : (s.heap.push PySem.W.emptyDict).Ns s.heap.objs.size (fun _ => none) := ⟨PySem.W.emptyDict, #[], _, e1, rfl, (fun e he => absurd he (by simp)), fun _ => rfl⟩
  have I1 := I.laid (a := s.heap.objs.size) (o := .own (s.heap.objs.size + 1)) (h' := s.heap.push PySem.W.emptyDict) (t' := s.toks) (fun b u q => Heap.get?_push_of_some _ q) (Nat.le_refl _) ⟨_, e1⟩
  refine I1.laid (a := s.heap.objs.size + 1) (o := .ins C s.heap.objs.size []) (t' := s.toks) (fun b u q => Heap.get?_push_of_some _ q) (Nat.le_of_eq (Heap.size_push _ _)) ?_
  have ne : s.heap.objs.size ≠ s.heap.objs.size + 1 := Nat.ne_of_lt (Nat.lt_succ_self _)
  refine ⟨by rw [upd_ne ne, upd_same], Nat.zero_le _, ne, e2, fun _ => none, (Heap.Ns1.of_empty e3).at fun o q => Heap.get?_push_of_some _ q, fun _ => True.intro, fun y hy => absurd rfl hy⟩
theorem attr_of {prog : Program} {w : World} {env : Env} {e : Expr} {f : Str} {pos : Pos} {s : Shared} {Q : Value → Shared → Prop} (hb : attributeBase e f env (eval e env) = eval e env)
    (h : wpAny (model prog w) A (eval e env) (fun o s₁ => wpAny (model prog w) A (getAttr o f true) Q E s₁) E s) : wpAny (model prog w) A (eval (.Attribute e f pos) env) Q E s :=
  Attribute_any_ h (by rw [arm_eval_Attribute, hb])
end
def tFld (K : PySem.W.Frag) (ta : TE) (f : Str) : TE := fun σ H Q => ta σ H fun x H1 => ∃ a C dx fs v, x = .ref a ∧ H1 a = some (.ins C dx fs) ∧ Cls K C ∧ NoAttr K C f ∧ fs.lookup f = some v ∧ Q v H1
def sFld (K : PySem.W.Frag) (ta tv : TE) (f : Str) : TS := fun D σ H => tv σ H fun y H1 => ta σ H1 fun x H2 => ∃ a C dx fs, x = .ref a ∧ H2 a = some (.ins C dx fs) ∧ Cls K C ∧ NoAttr K C f ∧ fs.length < 1000 ∧
  D.nx σ (upd H2 a (.ins C dx (putF f y fs)))
section
variable {X : Cx} {o e value : Expr} {f : Str} {pos pos' tpos : Pos} {ta tv : TE}
theorem pe_fld (he : PE X e ta) (hb : attributeBase e f X.env (eval e X.env) = eval e X.env) : PE X (.Attribute e f pos) (tFld X.K ta f) := by
  intro pins s σ H Q I h
  refine attr_of hb (thn (he pins s σ H _ I h) fun u s1 ⟨x, H1, I1, rx, a, C, dx, fs, v, ex, ea, c, n, l, q⟩ => ?_)
  subst ex
  obtain rfl : u = Value.ref a := rx
  exact getattr_ok I1 ea c n l fun u' s2 I2 ru => ⟨v, H1, I2, ru, q⟩
theorem ps_fld (ha : PE X o ta) (hv : PE X value tv) (hs : swapsWith value (some (.Attribute o f pos')) pos.line X.env = pure false) : PS X (.Assign [.Attribute o f pos'] value pos) (sFld X.K ta tv f) := by
  intro pins s σ H D I h
  refine plainObj_wpAny_Assign_Attribute (thn (hv pins s σ H _ I h) fun u s1 ⟨y, H1, I1, ry, q⟩ => thn (ha pins s1 σ H1 _ I1 q) fun ov s2 ⟨x, H2, I2, rx, a, C, dx, fs, ex, ea, c, n, l, q2⟩ => ?_) hs
  subst ex
  obtain rfl : ov = Value.ref a := rx
  exact setattr_ok I2 ea c n l ry fun s3 I3 => ⟨σ, _, I3, q2⟩
theorem methcall_of {pl : Sem Bool} {m : Str} {apos : Pos} {args : List Expr} {pins : List (Addr × Obj)} {s : Shared} {σ : St} {H : Hp} {Q : Value → Shared → Prop} {te : TE} (he : PE X e te) (I : Inv X pins σ H s)
    (h : te σ H fun x H1 => ∃ a C dx fs g, x = .ref a ∧ H1 a = some (.ins C dx fs) ∧ Cls X.K C ∧ Meth X.K C m g ∧ fs.lookup m = none ∧
      ∀ s1, Inv X pins σ H1 s1 → wpAny (model X.prog X.w) X.A (callWith pos (.ref g) [.ref a] (backTo pos (starEach args X.env)) (backToKw pos (keywordEach [] X.env))) Q X.xe s1)
    (ht : eval (.Call (.Attribute e m apos) args [] pos) X.env = (do
      let ov ← eval e X.env
      standAt apos.atName
      let (f, first) ← holding [ov] (getMethod ov m pl)
      callWith pos f first (backTo pos (starEach args X.env)) (backToKw pos (keywordEach [] X.env)))) :
    wpAny (model X.prog X.w) X.A (eval (.Call (.Attribute e m apos) args [] pos) X.env) Q X.xe s := by
  refine PySem.W.methodCall_KW (pl := pl) (thn (he pins s σ H _ I h) fun u s1 ⟨x, H1, I1, rx, a, C, dx, fs, g, ex, ea, c, k, l, q⟩ => ?_) ht
  subst ex
  obtain rfl : u = Value.ref a := rx
  exact getmeth_ok I1 ea c k l (q s1 I1)
end
section
variable {X : Cx} {pins : List (Addr × Obj)} {σ : St} {H : Hp} {s : Shared} {A : Around} {E : Value → Shared → Prop} {Q : Value → Shared → Prop} {c : Value} {b : Bool}
inductive TyOf (K : PySem.W.Frag) (H : Hp) : V → Value → Prop where
  | non : TyOf K H .non (.type "NoneType")
  | bl (x : Bool) : TyOf K H (.bl x) (.type "bool")
  | int (i : Int) : TyOf K H (.int i) (.type "int")
  | str (x : Str) : TyOf K H (.str x) (.type "str")
  | flt (x : UInt64) : TyOf K H (.flt x) (.type "float")
  | lst {a : Addr} {xs : List V} (e : H a = some (.lst xs)) : TyOf K H (.ref a) (.type "list")
  | frz {a : Addr} {o : Obj} {xs : List V} (e : H a = some (.frz o (.lst xs))) : TyOf K H (.ref a) (.type "list")
  | tup {a : Addr} {xs : List V} (e : H a = some (.tup xs)) : TyOf K H (.ref a) (.type "tuple")
  | dK {a : Addr} {kvs : List (Key × V)} (e : H a = some (.dK kvs)) : TyOf K H (.ref a) (.type "dict")
  | dT {a : Addr} {kvs : List (List Key × V)} (e : H a = some (.dT kvs)) : TyOf K H (.ref a) (.type "dict")
  | ins {a C dx : Addr} {fs : List (Str × V)} (e : H a = some (.ins C dx fs)) (cl : Cls K C) (ha : PySem.W.findIn K (.ref C) "__class__" = some (some (.builtin "object.__class__")))
      (hn : PySem.W.specialIn K (.builtin "object.__class__") "__get__" = some (some (.builtin "getset_descriptor.__get__"))) (htk : PySem.W.takesIn K (.builtin "object.__class__") = some true)
      (hm : PySem.W.mroIn K C (.type "object") = some true) : TyOf K H (.ref a) (.ref C)
theorem isinst_ok {x : V} {u t : Value} (I : Inv X pins σ H s) (rx : RelV x u) (ty : TyOf X.K H x t) (e : PySem.W.kitOne X.K t c = some b) (h : ∀ tk, Q (.bool b) { s with toks := tk }) :
    wpAny (model X.prog X.w) A (call (.builtin "isinstance") [u, c]) Q E s := by
  cases ty with
  | non => cases (show u = Value.none from rx); exact PySem.W.kia_one PySem.W.kitx_none I.kIn True.intro e (fun z => nomatch z) h
  | bl y => cases (show u = Value.bool y from rx); exact PySem.W.kia_one PySem.W.kitx_bool I.kIn True.intro e (fun z => nomatch z) h
  | int i => obtain ⟨t, q⟩ := (show ∃ t, u = Value.int i t from rx); cases q; exact PySem.W.kia_one PySem.W.kitx_int I.kIn True.intro e (fun z => nomatch z) h
  | str y => obtain ⟨t, q⟩ := (show ∃ t, u = Value.str y t from rx); cases q; exact PySem.W.kia_one PySem.W.kitx_str I.kIn True.intro e (fun z => nomatch z) h
  | flt y => obtain ⟨t, q⟩ := (show ∃ t, u = Value.float y t from rx); cases q; exact PySem.W.kia_one PySem.W.kitx_float I.kIn True.intro e (fun z => nomatch z) h
  | @lst a xs ea =>
    cases (show u = Value.ref a from rx)
    obtain ⟨_, _, n, _, h1⟩ := (show ObjOk X.prog X.w H s.heap a (.lst xs) from I.hok a _ ea)
    exact PySem.W.kia_one PySem.W.kitx_list I.kIn ⟨_, h1, rfl⟩ e (fun z => nomatch z) h
  | @frz a ob xs ea =>
    cases (show u = Value.ref a from rx)
    obtain ⟨_, _, _, n, _, h1⟩ := (show ObjOk X.prog X.w H s.heap a (.frz ob (.lst xs)) from I.hok a _ ea)
    exact PySem.W.kia_one PySem.W.kitx_list I.kIn ⟨_, h1, rfl⟩ e (fun z => nomatch z) h
  | @tup a xs ea =>
    cases (show u = Value.ref a from rx)
    obtain ⟨_, _, _, p⟩ := (show ObjOk X.prog X.w H s.heap a (.tup xs) from I.hok a _ ea)
    obtain ⟨o, h1, h2, _⟩ := p
    exact PySem.W.kia_one PySem.W.kitx_tuple I.kIn ⟨o, h1, h2⟩ e (fun z => nomatch z) h
  | @dK a kvs ea =>
    cases (show u = Value.ref a from rx)
    obtain ⟨_, _, vs, _, p⟩ := (show ObjOk X.prog X.w H s.heap a (.dK kvs) from I.hok a _ ea)
    obtain ⟨o, es, ep, h1, h2, _⟩ := p
    exact PySem.W.kia_one PySem.W.kitx_dict I.kIn ⟨o, h1, h2.1⟩ e (fun z => nomatch z) h
  | @dT a kvs ea =>
    cases (show u = Value.ref a from rx)
    obtain ⟨_, _, xs, _, o, es, ep, h1, h2, _⟩ := (show ObjOk X.prog X.w H s.heap a (.dT kvs) from I.hok a _ ea)
    exact PySem.W.kia_one PySem.W.kitx_dict I.kIn ⟨o, h1, h2.1⟩ e (fun z => nomatch z) h
  | @ins a C dx fs ea cl ha hn htk hm =>
    cases (show u = Value.ref a from rx)
    obtain ⟨mA, O, _⟩ := ins_get I.hok ea
    obtain ⟨od, J, _⟩ := O.look
    exact PySem.W.kia_one (PySem.W.kitx_own (cl.get _) cl.hd ha hn htk hm) I.kIn J e (fun z => nomatch z) h
end
end L2
namespace L2
open PySem PySem.Spec PyProof.Rows
structure Room (k : Nat) (A : Around) : Prop where
  hd : A.handled = none
  dp : A.depth + 3 * k + 5 < recursionLimit
  un : A.units + 16 * k + 200 < cLine
theorem Room.mono {j k : Nat} {A : Around} (r : Room k A) (h : j ≤ k) : Room j A := ⟨r.hd, by have := r.dp; omega, by have := r.un; omega⟩
theorem Room.deeper {k : Nat} {A : Around} (r : Room (k + 1) A) (env : Env) : Room k (A.deeper env) :=
  ⟨r.hd, by have := r.dp; show A.depth + 1 + 3 * k + 5 < _; omega, by have := r.un; show A.units + 3 + 16 * k + 200 < _; omega⟩
theorem make_depth {A : Around} {C : Addr} {us : List Value} {kw : List (Str × Value)} : (A.under (.builtin "type.__call__" ⟨.ref C :: us, kw⟩)).depth = A.depth + 1 := by
  first | rfl | simp [Around.under, Code.weight, Code.isCreation, Code.isGuard, Code.isCaller, Code.frames, Code.isFrame, guardIds]
theorem make_units {A : Around} {C : Addr} {us : List Value} {kw : List (Str × Value)} : (A.under (.builtin "type.__call__" ⟨.ref C :: us, kw⟩)).units = A.units + 1 := by
  first | rfl | simp [Around.under, Code.cUnits, Code.frames, Code.isFrame]
theorem Room.make {k : Nat} {A : Around} (r : Room (k + 1) A) (C : Addr) (us : List Value) (kw : List (Str × Value)) : Room k (A.under (.builtin "type.__call__" ⟨.ref C :: us, kw⟩)) :=
  ⟨r.hd, by have := r.dp; rw [make_depth]; omega, by have := r.un; rw [make_units]; omega⟩
theorem Room.depth {k : Nat} {A : Around} (r : Room k A) : A.depth < recursionLimit := by have := r.dp; omega
theorem Room.units {k : Nat} {A : Around} (r : Room k A) : A.units + 64 < cLine := by have := r.un; omega
theorem Room.units0 {k : Nat} {A : Around} (r : Room k A) : A.units < cLine := by have := r.un; omega
def tNil : TA := fun _ H Q => Q [] H
def tCons (ta : TE) (tr : TA) : TA := fun σ H Q => ta σ H fun x H1 => tr σ H1 fun xs H2 => Q (x :: xs) H2
section
variable {X : Cx} {e : Expr} {es : List Expr} {te : TE} {t : TA} {pos : Pos}
theorem pa_nil : PA X [] tNil := fun _ _ _ _ H Q I h => Calls.spliced_nil ⟨[], H, I, .nil, h⟩
theorem pa_cons (ha : PE X e te) (hr : PA X es t) (hs : starEach (e :: es) X.env = (false, eval e X.env) :: starEach es X.env := by rfl) : PA X (e :: es) (tCons te t) := by
  intro pos pins s σ H Q I h
  rw [hs]
  show wpAny _ _ (spliced ((false, eval e X.env) :: backTo pos (starEach es X.env))) _ _ s
  refine Calls.spliced_cons (thn (ha pins s σ H _ I h) fun u s1 ⟨x, H1, I1, r1, q1⟩ => ?_)
  exact thn (hr pos pins s1 σ H1 _ I1 q1) fun us s2 ⟨xs, H2, I2, r2, q2⟩ => ⟨x :: xs, H2, I2, .cons r1 r2, q2⟩
def tTup (t : TA) : TE := fun σ H Q => t σ H fun xs H1 => xs.length ≤ sizeLine ∧ ∀ p, H1 p = none → Q (.ref p) (upd H1 p (.tup xs))
def tLst (t : TA) : TE := fun σ H Q => t σ H fun xs H1 => xs.length ≤ sizeLine ∧ ∀ p, H1 p = none → Q (.ref p) (upd H1 p (.lst xs))
theorem pe_tup {x1} (h : PA X es t) : PE X (.Tuple es x1 pos) (tTup t) := by
  intro pins s σ H Q I hq
  refine wpAny_Tuple_spliced (thn (h pos pins s σ H _ I hq) fun us s1 ⟨xs, H1, I1, r, z, q⟩ => ⟨by rw [← r.length]; exact z, ?_⟩)
  have hf : H1 s1.heap.objs.size = none := I1.hok.fresh (Nat.le_refl _)
  refine ⟨.ref s1.heap.objs.size, upd H1 s1.heap.objs.size (.tup xs), I1.laid (t' := s1.toks) (fun b u e => Heap.get?_push_of_some _ e) (Nat.le_refl _) ?_, rfl, q _ hf⟩
  exact ⟨z, us, r, ⟨_, Heap.get?_push_size _ rfl, rfl, _, rfl⟩⟩
theorem pe_lst (h : PA X es t) : PE X (.List es pos) (tLst t) := by
  intro pins s σ H Q I hq
  refine wpAny_List_spliced (thn (h pos pins s σ H _ I hq) fun us s1 ⟨xs, H1, I1, r, z, q⟩ => ⟨by rw [← r.length]; exact z, ?_⟩)
  have hf : H1 s1.heap.objs.size = none := I1.hok.fresh (Nat.le_refl _)
  refine ⟨.ref s1.heap.objs.size, upd H1 s1.heap.objs.size (.lst xs), I1.laid (t' := s1.toks) (fun b u e => Heap.get?_push_of_some _ e) (Nat.le_refl _) ?_, rfl, q _ hf⟩
  exact ⟨z, us, 0, r, Heap.get?_push_size _ rfl⟩
end
abbrev Sp := List V → Hp → VK → XK → Prop
abbrev CXT := List Env → Hp → Shared → XK → Value → Shared → Prop
structure Env0 (P : Program) (w : World) (K : PySem.W.Frag) (mg : Str → Option Value) (base : Heap) (A : Around) (outer : List Env) (s : Shared) (H : Hp) : Prop where
  frames : A.frames = some outer
  mod : Mod K mg base
  bs : ∀ b o, base.get? b = some o → s.heap.get? b = some o ∧ H b = none
  bsz : base.objs.size ≤ s.heap.objs.size
  funs : s.heap.FunFrames base outer
  frf : ∀ b ∈ frs outer, H b = none
  hok : HOk P w H s.heap
  bare : AllBare s.gens
def CE (outer : List Env) (P : Program) (w : World) (H : Hp) (s : Shared) (Q : VK) (u : Value) (s' : Shared) : Prop :=
  ∃ v H', s'.os = s.os ∧ AllBare s'.gens ∧ Un (frs outer) [] H H' s.heap s'.heap ∧ HOk P w H' s'.heap ∧ RelV v u ∧ Q v H'
def CR (CX : CXT) (outer : List Env) (P : Program) (w : World) (H : Hp) (s : Shared) (Q : VK) (E : XK) (r : Result) (s' : Shared) : Prop :=
  match r with
  | .ok (.ret u) => CE outer P w H s Q u s'
  | .ok _ => False
  | .error e => CX outer H s E e s'
structure FnOk (P : Program) (w : World) (K : PySem.W.Frag) (mg : Str → Option Value) (base : Heap) (CX : CXT) (k : Nat) (f : Addr) (fd : FuncData) (ps : List Str) (sp : Sp) : Prop where
  len : ∀ vs H Q E, sp vs H Q E → vs.length = ps.length
  run : ∀ (A : Around) (outer : List Env) (s : Shared) (H : Hp) (args : Args) (us : List Value) (vs : List V) (Q : VK) (E : XK), Room k A → Env0 P w K mg base A outer s H → BindsTo s fd args (ps.zip us) → Vals vs us → sp vs H Q E →
    codeAny (model P w) A (.call (.ref f) args) (CR CX outer P w H s Q E) s
theorem Env0.make {P : Program} {w : World} {K : PySem.W.Frag} {mg : Str → Option Value} {base : Heap} {A : Around} {outer : List Env} {s : Shared} {H : Hp} (e : Env0 P w K mg base A outer s H) (C : Addr) (us : List Value) (kw : List (Str × Value)) :
    Env0 P w K mg base (A.under (.builtin "type.__call__" ⟨.ref C :: us, kw⟩)) outer s H := ⟨by first | exact e.frames | (simpa [Around.under, Code.envs, Code.isFrame, pushEnvs] using e.frames), e.mod, e.bs, e.bsz, e.funs, e.frf, e.hok, e.bare⟩
section
variable {X : Cx} {pins : List (Addr × Obj)} {σ : St} {H : Hp} {s s' : Shared}
theorem Inv.env0 (I : Inv X pins σ H s) : Env0 X.prog X.w X.K X.mg X.base X.A X.stack s H :=
  ⟨I.ok.frames, I.ok.mod, I.bs, Nat.le_trans I.ok.bsz I.sz, I.stack, I.stkFree, I.hok, I.bare⟩
theorem Inv.after {Q : VK} {u : Value} (I : Inv X pins σ H s) (h : CE X.stack X.prog X.w H s Q u s') : EP X pins σ Q u s' := by
  obtain ⟨v, H', os, bare, un, hok, r, q⟩ := h
  obtain ⟨hh, g, d, t, os'⟩ := s'
  obtain rfl : os' = s.os := os
  exact ⟨v, H', I.call (h' := hh) (g' := g) (d' := d) (t' := t) (ch := []) un hok bare (fun b z => absurd z (by simp)), r, q⟩
end
def tCall (sp : Sp) (dvs : List V) (E : XK) (t : TA) : TE := fun σ H Q => t σ H fun vs H1 => sp (vs ++ dvs) H1 Q E
def tMeth (C : Addr) (m : Str) (sp : Sp) (dvs : List V) (E : XK) (ta : TE) (t : TA) : TE := fun σ H Q => ta σ H fun x H1 => ∃ a dx fs, x = .ref a ∧ H1 a = some (.ins C dx fs) ∧ fs.lookup m = none ∧
  t σ H1 fun vs H2 => sp (x :: (vs ++ dvs)) H2 Q E
def tMake (C : Addr) (sp : Sp) (dvs : List V) (E : XK) (t : TA) : TE := fun σ H Q => t σ H fun vs H1 => ∀ x dx, H1 x = none → H1 dx = none → dx ≠ x →
  sp (.ref x :: (vs ++ dvs)) (upd (upd H1 dx (.own x)) x (.ins C dx [])) (fun v H2 => v = .non ∧ Q (.ref x) H2) E
def Binds (K : PySem.W.Frag) (fd : FuncData) (ps : List Str) (ds : List Value) : Prop :=
  ∀ (s : Shared) (us : List Value), K.In s.heap → (us ++ ds).length = ps.length → BindsTo s fd ⟨us, []⟩ (ps.zip (us ++ ds))
theorem Binds.all {K : PySem.W.Frag} {fd : FuncData} {ps : List Str} (h : ∀ us : List Value, us.length = ps.length → bindArgs fd ⟨us, []⟩ = pure (ps.zip us)) : Binds K fd ps [] := fun s us _ hl => by
  rw [List.append_nil] at hl ⊢
  exact .of_eq (h us hl)
def Passes (CX : CXT) (X : Cx) (E : XK) : Prop := ∀ (pins : List (Addr × Obj)) (σ : St) (H : Hp) (s : Shared) (e : Value) (s' : Shared), Inv X pins σ H s → CX X.stack H s E e s' → X.xe e s'
section
variable {X : Cx} {CX : CXT} {k : Nat} {f C : Addr} {fd : FuncData} {ps : List Str} {sp : Sp} {dvs : List V} {ds : List Value} {E : XK} {x m : Str} {p pos apos : Pos} {e o : Expr} {es : List Expr} {ta : TE} {t : TA}
theorem run_fn {pins : List (Addr × Obj)} {σ : St} {H : Hp} {s : Shared} {Q : VK} {us : List Value} {vs : List V} (F : FnOk X.prog X.w X.K X.mg X.base CX k f fd ps sp) (hr : Room k X.A) (hb : Binds X.K fd ps ds) (hd : Vals dvs ds) (hx : Passes CX X E)
    (I : Inv X pins σ H s) (r : Vals vs us) (h : sp (vs ++ dvs) H Q E) : wpAny (model X.prog X.w) X.A (call (.ref f) us) (EP X pins σ Q) X.xe s := by
  have r2 : Vals (vs ++ dvs) (us ++ ds) := r.append hd
  have hl : (us ++ ds).length = ps.length := by rw [← r2.length]; exact F.len _ _ _ _ h
  refine wpAny_call (codeAny_mono (F.run X.A X.stack s H ⟨us, []⟩ (us ++ ds) (vs ++ dvs) Q E hr I.env0 (hb s us I.kIn hl) r2 h) fun r s' hq => ?_)
  cases r with
  | error e => exact hx pins σ H s e s' I hq
  | ok fl =>
    cases fl with
    | ret u => exact I.after hq
    | next => exact False.elim hq
    | brk => exact False.elim hq
    | cont => exact False.elim hq
theorem pe_call (F : FnOk X.prog X.w X.K X.mg X.base CX k f fd ps sp) (hr : Room k X.A) (hg : Gl X x) (hm : X.mg x = some (.ref f)) (hk : PySem.W.keepIn X.K (.ref f) = true) (hb : Binds X.K fd ps ds) (hd : Vals dvs ds) (hx : Passes CX X E)
    (ha : PA X (e :: es) t) (hdb : (x == ("__debug__" : Str)) = false := by decide) (he : starEach (e :: es) X.env = (false, eval e X.env) :: starEach es X.env := by rfl) (hpl : (backTo pos (starEach es X.env)).any (·.1) = false := by rfl) :
    PE X (.Call (.Name x p) (e :: es) [] pos) (tCall sp dvs E t) := by
  intro pins s σ H Q I h
  refine wpAny_Call_Name_kw (ld_glob I hg hm ?_ hdb)
  refine PySem.W.callWith_K (h₀ := X.base) I.ok.mod.kin hk (thn (ha pos pins s σ H _ I h) fun us s1 ⟨vs, H1, I1, r, q⟩ => ⟨I1.kIn, ?_⟩) he hpl
  exact run_fn F hr hb hd hx I1 r q
theorem pe_meth0 {pl : Sem Bool} (he : PE X o ta) (c : Cls X.K C) (hm : Meth X.K C m f) (F : FnOk X.prog X.w X.K X.mg X.base CX k f fd ps sp) (hr : Room k X.A) (hb : Binds X.K fd ps ds) (hd : Vals dvs ds) (hx : Passes CX X E)
    (ht : eval (.Call (.Attribute o m apos) [] [] pos) X.env = (do
      let ov ← eval o X.env
      standAt apos.atName
      let (f, first) ← holding [ov] (getMethod ov m pl)
      callWith pos f first (backTo pos (starEach [] X.env)) (backToKw pos (keywordEach [] X.env))) := by rfl) :
    PE X (.Call (.Attribute o m apos) [] [] pos) (tMeth C m sp dvs E ta tNil) := by
  intro pins s σ H Q I h
  refine PySem.W.methodCall_KW (pl := pl) (thn (he pins s σ H _ I h) fun u s1 ⟨x, H1, I1, rx, a, dx, fs, ex, ea, l, q⟩ => ?_) ht
  subst ex
  obtain rfl : u = Value.ref a := rx
  refine getmeth_ok I1 ea c hm l ?_
  exact PySem.W.callWith_K0 (first := [.ref a]) I1.kIn hm.kp (run_fn (us := [.ref a]) (vs := [.ref a]) F hr hb hd hx I1 (.cons rfl .nil) q)
structure Mk (K : PySem.W.Frag) (C f : Addr) : Prop where
  makes : PySem.W.makesIn K C = true
  init : PySem.W.findIn K (.ref C) "__init__" = some (some (.ref f))
  fn : PySem.W.isFn K (.ref f) = true
  kp : PySem.W.keepIn K (.ref C) = true
theorem run_make {pins : List (Addr × Obj)} {σ : St} {H : Hp} {s : Shared} {Q : VK} {us : List Value} {vs : List V} (M : Mk X.K C f) (F : FnOk X.prog X.w X.K X.mg X.base CX k f fd ps sp) (hr : Room (k + 1) X.A) (hb : Binds X.K fd ps ds) (hd : Vals dvs ds)
    (hx : Passes CX X E) (I : Inv X pins σ H s) (r : Vals vs us)
    (h : ∀ x dx, H x = none → H dx = none → dx ≠ x → sp (.ref x :: (vs ++ dvs)) (upd (upd H dx (.own x)) x (.ins C dx [])) (fun v H2 => v = .non ∧ Q (.ref x) H2) E) :
    wpAny (model X.prog X.w) X.A (call (.ref C) us) (EP X pins σ Q) X.xe s := by
  have hq := h (s.heap.objs.size + 1) s.heap.objs.size (I.hok.fresh (Nat.le_succ _)) (I.hok.fresh (Nat.le_refl _)) (Nat.ne_of_lt (Nat.lt_succ_self _))
  have I2 := Inv.made (C := C) I
  have r2 : Vals (V.ref (s.heap.objs.size + 1) :: (vs ++ dvs)) (Value.ref (s.heap.objs.size + 1) :: (us ++ ds)) := .cons rfl (r.append hd)
  have hl : (Value.ref (s.heap.objs.size + 1) :: us ++ ds).length = ps.length := by
    have e := r2.length
    rw [F.len _ _ _ _ hq] at e
    exact e.symm
  refine wpAny_call (make_map (f := f) I.kIn M.makes M.init (beq_iff_eq.mp M.fn) (codeAny_mono (F.run _ X.stack _ _ ⟨Value.ref (s.heap.objs.size + 1) :: us, []⟩ (Value.ref (s.heap.objs.size + 1) :: (us ++ ds)) _ _ E (hr.make C us [])
    (I2.env0.make C us []) (hb _ (Value.ref (s.heap.objs.size + 1) :: us) I2.kIn hl) r2 hq) fun r s' hq' => ?_))
  cases r with
  | error e => exact hx pins σ _ _ e s' I2 hq'
  | ok fl =>
    cases fl with
    | ret u =>
      obtain ⟨v, H', I3, rv, ev, q3⟩ := I2.after hq'
      subst ev
      exact ⟨rv, ⟨V.ref (s.heap.objs.size + 1), H', I3, rfl, q3⟩⟩
    | next => exact False.elim hq'
    | brk => exact False.elim hq'
    | cont => exact False.elim hq'
theorem pe_make (M : Mk X.K C f) (F : FnOk X.prog X.w X.K X.mg X.base CX k f fd ps sp) (hr : Room (k + 1) X.A) (hg : Gl X x) (hm : X.mg x = some (.ref C)) (hb : Binds X.K fd ps ds) (hd : Vals dvs ds) (hx : Passes CX X E)
    (ha : PA X (e :: es) t) (hdb : (x == ("__debug__" : Str)) = false := by decide) (he : starEach (e :: es) X.env = (false, eval e X.env) :: starEach es X.env := by rfl) (hpl : (backTo pos (starEach es X.env)).any (·.1) = false := by rfl) :
    PE X (.Call (.Name x p) (e :: es) [] pos) (tMake C sp dvs E t) := by
  intro pins s σ H Q I h
  refine wpAny_Call_Name_kw (ld_glob I hg hm ?_ hdb)
  refine PySem.W.callWith_K (h₀ := X.base) I.ok.mod.kin M.kp (thn (ha pos pins s σ H _ I h) fun us s1 ⟨vs, H1, I1, r, q⟩ => ⟨I1.kIn, ?_⟩) he hpl
  exact run_make M F hr hb hd hx I1 r q
end
section
variable {X : Cx} {CX : CXT} {k : Nat} {f C : Addr} {fd : FuncData} {ps ks : List Str} {sp : Sp} {E : XK} {x m : Str} {p pos apos kpos : Pos} {e o : Expr} {es : List Expr} {kws : List Keyword} {te ta : TE} {t tk : TA} {nm : Option Str}
variable {g : List Value → List Value → List Value} {gV : List V → List V → List V}
end
structure FnScope (N P : List Str) (sc : Scope) : Prop where
  kind : sc.kind = .function
  co : sc.isCoroutine = false
  gen : sc.isGenerator = false
  nd : N.Nodup
  pre : N.take P.length = P
  par : ∀ x ∈ P, sc.names.lookup x = some .local ∨ sc.names.lookup x = some .cell
  nofree : ∀ y ∈ sc.names, y.2 ≠ .free
theorem bindL_out {kindOf : Str → Option NameKind} {x : Str} : ∀ {binds : List (Str × Value)} {m : Str → Option Value}, (∀ v, (x, v) ∉ binds) → bindL kindOf binds m x = m x
  | [], _, _ => rfl
  | (n, v) :: r, m, h => by
    unfold bindL
    rw [bindL_out fun w hw => h w (List.mem_cons_of_mem _ hw)]
    split
    · have : x ≠ n := by rintro rfl; exact h v List.mem_cons_self
      simp [this]
    · rfl
theorem bindC_out {kindOf : Str → Option NameKind} {x : Str} : ∀ {binds : List (Str × Value)} {m : Str → Option Value}, (∀ v, (x, v) ∉ binds) → bindC kindOf binds m x = m x
  | [], _, _ => rfl
  | (n, v) :: r, m, h => by
    unfold bindC
    rw [bindC_out fun w hw => h w (List.mem_cons_of_mem _ hw)]
    split
    · rfl
    · have : x ≠ n := by rintro rfl; exact h v List.mem_cons_self
      simp [this]
theorem bindL_get {kindOf : Str → Option NameKind} {x : Str} {v : Value} : ∀ {P : List Str} {vs : List Value} {i : Nat} {m : Str → Option Value}, P.Nodup → P[i]? = some x → vs[i]? = some v → kindOf x = some .local →
    bindL kindOf (P.zip vs) m x = some v
  | [], _, _, _, _, h, _, _ => by simp at h
  | _ :: _, [], _, _, _, _, h, _ => by simp at h
  | p :: P, w :: vs, 0, m, nd, h1, h2, hk => by
    simp at h1 h2; subst h1; subst h2
    show bindL kindOf ((p, w) :: P.zip vs) m p = _
    unfold bindL
    rw [bindL_out fun v hv => (List.nodup_cons.mp nd).1 (List.of_mem_zip hv).1, if_pos hk]
    simp
  | p :: P, w :: vs, i + 1, m, nd, h1, h2, hk => by
    show bindL kindOf ((p, w) :: P.zip vs) m x = _
    unfold bindL
    exact bindL_get (i := i) (List.nodup_cons.mp nd).2 (by simpa using h1) (by simpa using h2) hk
theorem bindC_get {kindOf : Str → Option NameKind} {x : Str} {v : Value} : ∀ {P : List Str} {vs : List Value} {i : Nat} {m : Str → Option Value}, P.Nodup → P[i]? = some x → vs[i]? = some v → kindOf x ≠ some .local →
    bindC kindOf (P.zip vs) m x = some v
  | [], _, _, _, _, h, _, _ => by simp at h
  | _ :: _, [], _, _, _, _, h, _ => by simp at h
  | p :: P, w :: vs, 0, m, nd, h1, h2, hk => by
    simp at h1 h2; subst h1; subst h2
    show bindC kindOf ((p, w) :: P.zip vs) m p = _
    unfold bindC
    rw [bindC_out fun v hv => (List.nodup_cons.mp nd).1 (List.of_mem_zip hv).1, if_neg hk]
    simp
  | p :: P, w :: vs, i + 1, m, nd, h1, h2, hk => by
    show bindC kindOf ((p, w) :: P.zip vs) m x = _
    unfold bindC
    exact bindC_get (i := i) (List.nodup_cons.mp nd).2 (by simpa using h1) (by simpa using h2) hk
def start (N : List Str) (vs : List V) : St := vs.map some ++ List.replicate (N.length - vs.length) none
def cxOf (CX : CXT) (P : Program) (w : World) (K : PySem.W.Frag) (mg : Str → Option Value) (base : Heap) (N : List Str) (qual : Str) (scope : Scope) (f : Addr) (cd : Value) (A : Around) (outer : List Env) (s : Shared) (H : Hp) (E : XK) : Cx where
  prog := P
  w := w
  K := K
  mg := mg
  base := base
  A := A.deeper (envOfC qual scope s.heap.objs.size f cd)
  N := N
  s₀ := s
  H₀ := H
  env := envOfC qual scope s.heap.objs.size f cd
  outer := outer
  stack := envOfC qual scope s.heap.objs.size f cd :: outer
  ex := []
  calm := true
  fn := fun _ => true
  pn := []
  xe := fun e s' => wpAny (model P w) (A.deeper (envOfC qual scope s.heap.objs.size f cd)) (leaving (envOfC qual scope s.heap.objs.size f cd) e) (fun _ s'' => CX outer H s E e s'') (fun e' s'' => CX outer H s E e' s'') s'
theorem cell_has {sc : Scope} {n : Nat} {x : Str} (h : sc.names.lookup x = some .cell) : ∃ c, (cellsFrom n sc.names []).lookup x = some c := by
  have q := PySem.W.cellsFrom_some sc.names n [] (.inl h)
  exact Option.isSome_iff_exists.mp q
theorem inv_start {CX : CXT} {P : Program} {w : World} {K : PySem.W.Frag} {mg : Str → Option Value} {base : Heap} {N ps : List Str} {qual : Str} {scope : Scope} {f : Addr} {cd : Value} {A : Around} {outer : List Env} {s s1 : Shared} {H : Hp} {E : XK} {us : List Value} {vs : List V}
    (S : FnScope N ps scope) (hd : A.handled = none) (e0 : Env0 P w K mg base A outer s H) (hl : vs.length = ps.length) (r : Vals vs us)
    (x : InCallC s s.heap.objs.size (bindL (envOfC qual scope s.heap.objs.size f cd).kindOf (ps.zip us) fun _ => none) (cellsFrom (s.heap.objs.size + 1) scope.names []) (bindC (envOfC qual scope s.heap.objs.size f cd).kindOf (ps.zip us) fun _ => none) s1) :
    Inv (cxOf CX P w K mg base N qual scope f cd A outer s H E) [] (start N vs) H s1 := by
  have hpl : ps.length ≤ N.length := by have := congrArg List.length S.pre; rw [List.length_take] at this; omega
  obtain ⟨h1, tk, rfl, hk⟩ := x.done
  have noA : ∀ b : Addr, b ∉ (cxOf CX P w K mg base N qual scope f cd A outer s H E).ex := fun b z => absurd (show b ∈ ([] : List Addr) from z) (by simp)
  refine ⟨⟨e0.mod, S.kind, rfl, rfl, Nat.le_refl _, fun y z c h1 h2 => ?_, fun y hy => ?_, fun y c _ h => ?_, fun _ => hd, Around.frames_deeper e0.frames, .inr ⟨rfl, rfl⟩, fun b z => absurd z (noA b), e0.bs, e0.bsz, fun b _ _ => noA b, fun b z => absurd z (noA b), e0.funs, e0.frf⟩,
    rfl, e0.bare, Un.kept hk, ⟨_, x.toInCall.ns, fun i y v h1 h2 h3 => ?_⟩, fun y c h => ⟨_, x.cell y c h⟩, e0.hok.fresh (Nat.le_refl _), fun y c h => ?_, fun p hp => absurd (show p ∈ ([] : List (Addr × Obj)) from hp) (by simp), e0.hok.kept hk, ?_⟩
  · exact name_of_addr x.apart (PySem.mem_of_lookup h1) (PySem.mem_of_lookup h2)
  · have hy : scope.names.lookup y = some .cell ∨ scope.names.lookup y = some .free := hy
    rcases hy with hy | hy
    · exact cell_has hy
    · exact absurd rfl (S.nofree _ (PySem.mem_of_lookup hy))
  · exact Nat.le_of_lt (x.above y c (PySem.mem_of_lookup h))
  · have hi : i < vs.length := by
      unfold start at h2
      by_cases hi : i < vs.length
      · exact hi
      · rw [List.getElem?_append_right (by simpa using hi)] at h2
        rw [List.getElem?_replicate] at h2
        split at h2 <;> cases h2
    have ha : vs[i]? = some v := by
      unfold start at h2
      rw [List.getElem?_append_left (by simpa using hi), List.getElem?_map] at h2
      cases e : vs[i]? with
      | none => rw [e] at h2; cases h2
      | some a => rw [e] at h2; cases h2; rfl
    obtain ⟨u, hu, rv⟩ := r.get ha
    have hp : ps[i]? = some y := by
      rw [← S.pre, List.getElem?_take_of_lt (by omega)]; exact h1
    have ndP : ps.Nodup := by rw [← S.pre]; exact S.nd.sublist (List.take_sublist _ _)
    refine ⟨u, rv, ?_⟩
    rcases S.par y (List.mem_of_getElem? hp) with k | k
    · exact .inl ⟨k, bindL_get ndP hp hu k⟩
    · obtain ⟨c, e⟩ := cell_has (n := s.heap.objs.size + 1) k
      refine .inr ⟨.inl k, c, e, ?_⟩
      have q := x.cell y c e
      rw [bindC_get ndP hp hu (by show scope.names.lookup y ≠ _; rw [k]; decide)] at q
      exact q
  · exact e0.hok.fresh (Nat.le_of_lt (x.above y c (PySem.mem_of_lookup h)))
  · unfold start
    show _ = N.length
    rw [List.length_append, List.length_map, List.length_replicate]
    omega
theorem fn_of {CX : CXT} {P : Program} {w : World} {K : PySem.W.Frag} {mg : Str → Option Value} {base : Heap} {k : Nat} {f : Addr} {name qual : Str} {params : Arguments} {body : List Stmt} {scope : Scope} {dV kV doc pm cdv ct oc : Value} {an od : Option Addr}
    {osl : Array (Option Value)} {N ps : List Str} {sp : Sp} (lk : K.lookup f = some ⟨oc, od, .func (PySem.W.fnOf name qual params body scope dV kV doc pm an cdv ct), osl⟩) (hcd : PySem.W.codeIn K cdv qual = true) (S : FnScope N ps scope)
    (len : ∀ vs H Q E, sp vs H Q E → vs.length = ps.length)
    (hbody : ∀ (A : Around) (outer : List Env) (s : Shared) (H : Hp) (vs : List V) (Q : VK) (E : XK), Room k (A.deeper (envOfC qual scope s.heap.objs.size f cdv)) → sp vs H Q E →
      ∃ t, PSs (cxOf CX P w K mg base N qual scope f cdv A outer s H E) body t ∧ t { nx := fun _ H' => Q .non H', rt := Q } (start N vs) H) :
    FnOk P w K mg base CX (k + 1) f (PySem.W.fnOf name qual params body scope dV kV doc pm an cdv ct) ps sp := by
  refine ⟨len, fun A outer s H args us vs Q E hr e0 hb r hsp => ?_⟩
  have hl := len _ _ _ _ hsp
  have KX : K.In s.heap := e0.mod.kin.keeps fun b o e => (e0.bs b o e).1
  have lim : s.heap.NoLimit := e0.mod.nolimit.keeps fun b o e => (e0.bs b o e).1
  have hkind : ∀ y ∈ ps.zip us, scope.names.lookup y.1 = some .local ∨ (scope.names.lookup y.1 = some .cell ∧ ((cellsFrom (s.heap.objs.size + 1) scope.names []).lookup y.1).isSome = true) := fun ⟨n, v⟩ hy => by
    rcases S.par n (List.of_mem_zip hy).1 with q | q
    · exact .inl q
    · exact .inr ⟨q, PySem.W.cellsFrom_some _ _ _ (.inl q)⟩
  refine codeAny_call_function hr.depth (KX _ _ lk) rfl S.co S.gen rfl (PySem.W.codeRec_of KX hcd) (hb _ _ _ _ ?_)
  refine wpAny_newFunctionEnv_cells S.kind hkind fun env he s1 x => ?_
  subst he
  refine ⟨lim.keeps x.toInCall.keep, codeAny_func ?_⟩
  obtain ⟨t, ht, hq⟩ := hbody A outer s H vs Q E (hr.deeper _) hsp
  have I : Inv (cxOf CX P w K mg base N qual scope f cdv A outer s H E) [] (start N vs) H s1 := inv_start S hr.hd e0 hl r x
  refine wpAny_mono (ht [] s1 (start N vs) H _ I hq) (fun fl s' hs => ?_) fun e s' hs => hs
  have fin : ∀ {σ' : St} {H' : Hp} {v : V} {u : Value}, Inv (cxOf CX P w K mg base N qual scope f cdv A outer s H E) [] σ' H' s' → RelV v u → Q v H' → CE outer P w H s Q u s' :=
    fun {σ' H' v u} J rv q => ⟨v, H', J.os, J.bare, J.base, J.hok, rv, q⟩
  cases fl with
  | ret u =>
    obtain ⟨v, σ', H', J, rv, q⟩ := hs
    exact fin J rv q
  | next =>
    obtain ⟨σ', H', J, q⟩ := hs
    exact fin (v := V.non) (u := Value.none) J rfl q
  | brk =>
    obtain ⟨_, _, _, q⟩ := hs
    exact False.elim q
  | cont =>
    obtain ⟨_, _, _, q⟩ := hs
    exact False.elim q
end L2
namespace L2
open PySem PySem.Spec PyProof.Rows
section
variable {X : Cx} {x : Str} {p pos : Pos} {e : Expr} {es : List Expr} {t : TA} {id T : String} {r : List V → Hp → VK → Prop}
def tCB (r : List V → Hp → VK → Prop) (t : TA) : TE := fun σ H Q => t σ H fun vs H1 => r vs H1 Q
theorem pe_callB (hc : CallR X (.builtin id) r) (hg : Gl X x) (hm : X.mg x = none) (hv : bootBuiltins x = some (.builtin id)) (ha : PA X (e :: es) t) (hn : x ≠ "__name__" := by decide) (hdb : (x == ("__debug__" : Str)) = false := by decide)
    (he : starEach (e :: es) X.env = (false, eval e X.env) :: starEach es X.env := by rfl) (hpl : (backTo pos (starEach es X.env)).any (·.1) = false := by rfl) : PE X (.Call (.Name x p) (e :: es) [] pos) (tCB r t) := by
  intro pins s σ H Q I h
  refine wpAny_Call_Name_kw (ld_blt I hg hm hv ?_ hn hdb)
  exact PyProof.Rows.callWith_builtin1 (thn (ha pos pins s σ H _ I h) fun us s1 ⟨vs, H1, I1, r1, q1⟩ => hc pins s1 σ H1 vs us Q I1 r1 q1) he hpl
theorem pe_callTy (hc : CallR X (.type T) r) (hg : Gl X x) (hm : X.mg x = none) (hv : bootBuiltins x = some (.type T)) (ha : PA X (e :: es) t) (hn : x ≠ "__name__" := by decide) (hdb : (x == ("__debug__" : Str)) = false := by decide)
    (he : starEach (e :: es) X.env = (false, eval e X.env) :: starEach es X.env := by rfl) (hpl : (backTo pos (starEach es X.env)).any (·.1) = false := by rfl) : PE X (.Call (.Name x p) (e :: es) [] pos) (tCB r t) := by
  intro pins s σ H Q I h
  refine wpAny_Call_Name_kw (ld_blt I hg hm hv ?_ hn hdb)
  exact PyProof.Rows.callWith_type1 (thn (ha pos pins s σ H _ I h) fun us s1 ⟨vs, H1, I1, r1, q1⟩ => hc pins s1 σ H1 vs us Q I1 r1 q1) he hpl
end
end L2
namespace HT
open PySem PyProof.Rows
section
open PySem.SeqAt
open PySem.AutoSeq1 (wpAny_loadPart')
open PySem.MeetsSeq PySem.MeetsSeq2 PySem.MeetsSeq3
end
section
variable {prog : Program} {w : World} {A : Around} {E : Value → Shared → Prop} {s : Shared}
end
end HT
namespace L2
open PySem PySem.Spec PyProof.Rows
section
variable {X : Cx} {e : Expr} {te : TE} {lo hi : Option Expr} {tl th : TO} {pos p2 : Pos}
end
end L2
namespace L2
open PySem PySem.Spec PyProof.Rows
def ixN (n : Nat) (i : Int) : Option Nat := if 0 ≤ i then (if i < n then some i.toNat else none) else if -(n : Int) ≤ i then some (i + n).toNat else none
def atI {α : Type} (xs : List α) (i : Int) : Option α := (ixN xs.length i).bind fun j => xs[j]?
theorem ixN_seq {n : Nat} {i : Int} {j : Nat} (h : ixN n i = some j) : seqIndex? i n = some j ∧ j < n ∧ -(n : Int) ≤ i ∧ i < n := by
  unfold ixN at h
  by_cases h0 : 0 ≤ i
  · rw [if_pos h0] at h
    by_cases h1 : i < n
    · rw [if_pos h1] at h
      have e : i.toNat = j := Option.some.inj h
      exact ⟨by rw [seqIndex_of h0 h1, e], by omega, by omega, h1⟩
    · rw [if_neg h1] at h; cases h
  · rw [if_neg h0] at h
    by_cases h1 : -(n : Int) ≤ i
    · rw [if_pos h1] at h
      have e : (i + n).toNat = j := Option.some.inj h
      exact ⟨by rw [seqIndex_neg (by omega) h1, e], by omega, h1, by omega⟩
    · rw [if_neg h1] at h; cases h
theorem atI_get {α : Type} {xs : List α} {i : Int} {v : α} (h : atI xs i = some v) : ∃ j, seqIndex? i xs.length = some j ∧ xs[j]? = some v ∧ j < xs.length ∧ -(xs.length : Int) ≤ i ∧ i < xs.length := by
  unfold atI at h
  cases e : ixN xs.length i with
  | none => rw [e] at h; cases h
  | some j =>
    rw [e] at h
    obtain ⟨h1, h2, h3, h4⟩ := ixN_seq e
    exact ⟨j, h1, h, h2, h3, h4⟩
theorem atI_nat {α : Type} {xs : List α} {j : Nat} {v : α} (h : xs[j]? = some v) : atI xs (j : Int) = some v := by
  have hj : j < xs.length := (List.getElem?_eq_some_iff.mp h).1
  have e : ixN xs.length (j : Int) = some j := by
    unfold ixN
    rw [if_pos (by omega), if_pos (by omega)]; simp
  unfold atI; rw [e]; exact h
def PlainIx (b : Expr) : Prop := ∀ o i, subscripted b false o i = operate [o, i] (getItem o i)
def IxR (X : Cx) (r : R2) : Prop :=
  ∀ (value slice : Expr) (pins : List (Addr × Obj)) (s : Shared) (σ : St) (H : Hp) (x y : V) (v u : Value) (Q : VK), Inv X pins σ H s → RelV x v → RelV y u → r x y H Q →
    subscripted slice false v u = operate [v, u] (getItem v u) → wpAny (model X.prog X.w) X.A (subscriptTail value slice v u) (EP X pins σ Q) X.xe s
def MtR (X : Cx) (id : String) (r : V → List V → Hp → VK → Prop) : Prop :=
  ∀ (pins : List (Addr × Obj)) (s : Shared) (σ : St) (H : Hp) (x : V) (xs : List V) (v : Value) (us : List Value) (Q : VK), Inv X pins σ H s → RelV x v → Vals xs us → r x xs H Q →
    wpAny (model X.prog X.w) X.A (call (.builtin id) (v :: us)) (EP X pins σ Q) X.xe s
section
variable {X : Cx} {a b : Expr} {ta tb : TE} {pos : Pos}
theorem pe_ix {r : R2} (hr : IxR X r) (ha : PE X a ta) (hb : PE X b tb) (hs : PlainIx b) : PE X (.Subscript a b pos) (tOp r ta tb) := by
  intro pins s σ H Q I h
  exact Subscript_ (binT ha hb I h fun v u s2 x y H2 I2 rx ry q => hr a b pins s2 σ H2 x y v u Q I2 rx ry q (hs _ _))
def rIxL (K : PySem.W.Frag) : R2 := fun x y H Q => ∃ p xs i v, x = .ref p ∧ y = .int i ∧ SqL K H p xs ∧ atI xs i = some v ∧ Q v H
theorem ix_list : IxR X (rIxL X.K) := by
  intro value slice pins s σ H x y v u Q I rx ry h hs
  obtain ⟨p, xs, i, z, rfl, rfl, hq, he, q⟩ := h
  cases rx
  obtain ⟨t, rfl⟩ := ry
  obtain ⟨its, r, pl, hz⟩ := I.list hq
  obtain ⟨j, h1, h2, h3, h4, h5⟩ := atI_get he
  obtain ⟨w, ew, rw'⟩ := r.get h2
  have hl := r.length
  have hn := line63
  have fin : EP X pins σ Q w s := ⟨z, H, I, rw', q⟩
  by_cases h0 : 0 ≤ i
  · have hj : i.toNat = j := by
      rw [seqIndex_of h0 h5] at h1
      exact Option.some.inj h1
    exact item_listR pl.isList h0 (by omega) (by rw [hj]; simpa using ew) fin hs
  · have hj : (i + (its.toArray.size : Int)).toNat = j := by
      rw [seqIndex_neg (by omega) h4] at h1
      rw [List.size_toArray, ← hl]
      exact Option.some.inj h1
    exact subscriptTail_builtinR (x := w) pl.isList.typeIs slot_list_getitem.lookup
      (wpAny_getItem_list_neg (Q := fun r s' => r = w ∧ EP X pins σ Q r s') pl.isList (by omega) (by rw [List.size_toArray] <;> omega) (by omega) (by rw [hj]; simpa using ew) ⟨rfl, fin⟩) hs
theorem mapSeq_set (its : List Value) (n j : Nat) (u : Value) : Obj.mapSeq (·.setIfInBounds j u) { cls := .type "list", data := .seq its.toArray n } = { cls := .type "list", data := .seq (its.set j u).toArray n } := by
  simp [Obj.mapSeq]
theorem Inv.lst {pins : List (Addr × Obj)} {σ : St} {H : Hp} {s : Shared} {p : Addr} {xs : List V} (I : Inv X pins σ H s) (h : H p = some (.lst xs)) :
    ∃ (its : List Value) (n : Nat), Vals xs its ∧ s.heap.get? p = some { cls := .type "list", data := .seq its.toArray n } ∧ xs.length ≤ sizeLine := by
  obtain ⟨z, its, n, r, e⟩ := I.hok p _ h
  exact ⟨its, n, r, e, z⟩
theorem Inv.lstUpd {pins : List (Addr × Obj)} {σ : St} {H : Hp} {s : Shared} {p : Addr} {xs ys : List V} {its its' : List Value} {n n' : Nat} {f : Obj → Obj} (I : Inv X pins σ H s) (h : H p = some (.lst xs))
    (ho : s.heap.get? p = some { cls := .type "list", data := .seq its.toArray n }) (hf : f { cls := .type "list", data := .seq its.toArray n } = { cls := .type "list", data := .seq its'.toArray n' }) (r : Vals ys its') (hz : ys.length ≤ sizeLine) (t : Nat) :
    Inv X pins σ (upd H p (.lst ys)) { s with heap := s.heap.update p f, toks := t } := by
  have e : (s.heap.update p f).get? p = some { cls := .type "list", data := .seq its'.toArray n' } := by
    rw [Heap.get?_update_self f ho (by rw [hf] <;> rfl), hf]
  refine I.write (x := p) (e := p) (by rw [h]; trivial) (.inl rfl) (fun b u hb q => (Heap.get?_update_other _ _ (Ne.symm hb)).trans q) ⟨_, e⟩ ?_
  exact ⟨hz, its', n', r, e⟩
def rSetL : V → V → V → Hp → (Hp → Prop) → Prop := fun o i v H Q => ∃ p xs k j, o = .ref p ∧ i = .int k ∧ H p = some (.lst xs) ∧ ixN xs.length k = some j ∧ Q (upd H p (.lst (xs.set j v)))
theorem set_list : PSet X rSetL := by
  intro pins s σ H o i v ov iv u Q I ro ri rv h
  obtain ⟨p, xs, k, j, rfl, rfl, hp, hj, q⟩ := h
  cases ro
  obtain ⟨t, rfl⟩ := ri
  obtain ⟨its, n, r, ho, hz⟩ := I.lst hp
  obtain ⟨h1, h2, h3, h4⟩ := ixN_seq hj
  have hl := r.length
  have hn := line63
  have I' : Inv X pins σ (upd H p (.lst (xs.set j v))) { s with heap := s.heap.update p (Obj.mapSeq (·.setIfInBounds j u)) } :=
    I.lstUpd hp ho (mapSeq_set its n j u) (r.set rv j) (by rw [List.length_set]; exact hz) s.toks
  by_cases h0 : 0 ≤ k
  · have hk : k.toNat = j := by
      rw [seqIndex_of h0 h4] at h1
      exact Option.some.inj h1
    exact PySem.W.ki_setAt ho h0 (by omega) (by rw [List.size_toArray, ← hl]; exact h4) (by rw [hk]; exact ⟨_, I', q⟩)
  · have hk : (k + (its.toArray.size : Int)).toNat = j := by
      rw [seqIndex_neg (by omega) h3] at h1
      rw [List.size_toArray, ← hl]
      exact Option.some.inj h1
    exact PySem.W.ki_setBack ho (by omega) (by rw [List.size_toArray, ← hl]; exact h3) (by omega) (by rw [hk]; exact ⟨_, I', q⟩)
def flatV : V → Bool
  | .non => true
  | .bl _ => true
  | .int _ => true
  | .str _ => true
  | _ => false
def eqV : V → V → Bool
  | .non, .non => true
  | .bl a, .bl b => a == b
  | .bl a, .int b => (if a then 1 else 0) == b
  | .int a, .bl b => a == (if b then 1 else 0)
  | .int a, .int b => a == b
  | .str a, .str b => a == b
  | _, _ => false
theorem eqAt_V {A : Around} {s : Shared} {y x : V} {u v : Value} (ry : RelV y u) (rx : RelV x v) (fy : flatV y = true) (fx : flatV x = true) : SeqAt.EqAt A s u v (eqV y x) := by
  cases y with
  | non =>
    cases ry
    cases x with
    | non => cases rx; exact SeqAt.EqAt.same _
    | bl b => cases rx; exact SeqAt.EqAt.none_bool b
    | int b => obtain ⟨t, rfl⟩ := rx; exact SeqAt.EqAt.none_int b t
    | str b => obtain ⟨t, rfl⟩ := rx; exact SeqAt.EqAt.none_str b t
    | _ => exact absurd (show false = true from fx) Bool.false_ne_true
  | bl a =>
    cases ry
    cases x with
    | non => cases rx; exact SeqAt.EqAt.bool_none a
    | bl b => cases rx; exact SeqAt.EqAt.bool_bool a b
    | int b => obtain ⟨t, rfl⟩ := rx; exact SeqAt.EqAt.bool_int a b t
    | str b => obtain ⟨t, rfl⟩ := rx; exact SeqAt.EqAt.bool_str a b t
    | _ => exact absurd (show false = true from fx) Bool.false_ne_true
  | int a =>
    obtain ⟨t', rfl⟩ := ry
    cases x with
    | non => cases rx; exact SeqAt.EqAt.int_none a t'
    | bl b => cases rx; exact SeqAt.EqAt.int_bool a t' b
    | int b => obtain ⟨t, rfl⟩ := rx; exact SeqAt.EqAt.int_int a t' b t
    | str b => obtain ⟨t, rfl⟩ := rx; exact SeqAt.EqAt.int_str a t' b t
    | _ => exact absurd (show false = true from fx) Bool.false_ne_true
  | str a =>
    obtain ⟨t', rfl⟩ := ry
    cases x with
    | non => cases rx; exact SeqAt.EqAt.str_none a t'
    | bl b => cases rx; exact SeqAt.EqAt.str_bool a t' b
    | int b => obtain ⟨t, rfl⟩ := rx; exact SeqAt.EqAt.str_int a t' b t
    | str b => obtain ⟨t, rfl⟩ := rx; exact SeqAt.EqAt.str_str a t' b t
    | _ => exact absurd (show false = true from fx) Bool.false_ne_true
  | _ => exact absurd (show false = true from fy) Bool.false_ne_true
def eqU (x : V) (u : Value) : Bool := match u with
  | .none => eqV .non x
  | .bool b => eqV (.bl b) x
  | .int i _ => eqV (.int i) x
  | .str z _ => eqV (.str z) x
  | _ => false
theorem eqU_of {x y : V} {u : Value} (r : RelV y u) (f : flatV y = true) : eqU x u = eqV y x := by
  cases y with
  | non => cases r; rfl
  | bl b => cases r; rfl
  | int i => obtain ⟨t, rfl⟩ := r; rfl
  | str z => obtain ⟨t, rfl⟩ := r; rfl
  | _ => exact absurd (show false = true from f) Bool.false_ne_true
theorem any_eqU {x : V} : ∀ {xs : List V} {us : List Value}, Vals xs us → xs.all flatV = true → us.any (eqU x) = xs.any fun y => eqV y x
  | _, _, .nil, _ => rfl
  | y :: xs, u :: us, .cons r t, f => by
    rw [List.all_cons, Bool.and_eq_true] at f
    rw [List.any_cons, List.any_cons, eqU_of r f.1, any_eqU t f.2]
theorem mem_eqAt {A : Around} {s : Shared} {x : V} {v : Value} (rx : RelV x v) (fx : flatV x = true) : ∀ {xs : List V} {us : List Value}, Vals xs us → xs.all flatV = true → ∀ u ∈ us, SeqAt.EqAt A s u v (eqU x u)
  | _, _, .nil, _ => fun u hu => by cases hu
  | y :: xs, u :: us, .cons r t, f => fun u' hu => by
    rw [List.all_cons, Bool.and_eq_true] at f
    rcases List.mem_cons.mp hu with rfl | hu
    · rw [eqU_of r f.1]; exact eqAt_V r rx f.1 fx
    · exact mem_eqAt rx fx t f.2 u' hu
def inV (x : V) (xs : List V) : Bool := xs.any fun y => eqV y x
def rIn (K : PySem.W.Frag) (neg : Bool) : R2 := fun x y H Q => ∃ p xs, y = .ref p ∧ (SqL K H p xs ∨ SqT K H p xs) ∧ flatV x = true ∧ xs.all flatV = true ∧ Q (.bl (if neg then !inV x xs else inV x xs)) H
theorem op_notIn_seq : OpR X (compareOp .NotIn) (rIn X.K true) := by
  intro pins s σ H x y v u Q I rx ry h
  obtain ⟨p, xs, rfl, hq, fx, fs, q⟩ := h
  cases ry
  rcases hq with hq | hq
  · obtain ⟨its, r, pl, hz⟩ := I.list hq
    refine SeqAt.notIn_listAt (eqU x) pl.isList (fun w hw => mem_eqAt rx fx r fs w (by simpa using hw)) ⟨.bl _, H, I, rfl, ?_⟩
    rw [show its.toArray.any (eqU x) = its.any (eqU x) by simp, any_eqU r fs]
    exact q
  · obtain ⟨its, r, pl, hz⟩ := I.tuple hq
    refine SeqAt.notIn_tupleAt (eqU x) pl (fun w hw => mem_eqAt rx fx r fs w (by simpa using hw)) ⟨.bl _, H, I, rfl, ?_⟩
    rw [show its.toArray.any (eqU x) = its.any (eqU x) by simp, any_eqU r fs]
    exact q
theorem call_len_seq : CallR X (.builtin "len") (fun xs H Q => ∃ p ys, xs = [.ref p] ∧ (SqL X.K H p ys ∨ SqT X.K H p ys) ∧ Q (.int ys.length) H) := by
  intro pins s σ H xs us Q I r h
  obtain ⟨p, ys, rfl, hq, q⟩ := h
  obtain ⟨u, rfl, rx⟩ := vals1 r
  cases rx
  have hn := line63
  rcases hq with hq | hq
  · obtain ⟨its, r', pl, hz⟩ := I.list hq
    have hlen := r'.length
    exact Calls.call_len_list pl.isList (by simp only [List.size_toArray] <;> omega) ⟨.int ys.length, H, I.tok _, ⟨s.toks + 1, by rw [List.size_toArray, hlen]⟩, q⟩
  · obtain ⟨its, r', pl, hz⟩ := I.tuple hq
    have hlen := r'.length
    exact len_tuple pl (by simp only [List.size_toArray] <;> omega) ⟨.int ys.length, H, I.tok _, ⟨s.toks + 1, by rw [List.size_toArray, hlen]⟩, q⟩
theorem call_list_of : CallR X (.type "list") (fun xs H Q => ∃ p ys, xs = [.ref p] ∧ (SqL X.K H p ys ∨ SqT X.K H p ys) ∧ ∀ l, H l = none → Q (.ref l) (upd H l (.lst ys))) := by
  intro pins s σ H xs us Q I r h
  obtain ⟨p, ys, rfl, hq, q⟩ := h
  obtain ⟨u, rfl, rx⟩ := vals1 r
  cases rx
  have fin : ∀ (its : List Value), Vals ys its → ys.length ≤ sizeLine → ∀ (h' : Heap) (c' : Nat), (∀ b o', s.heap.get? b = some o' → h'.get? b = some o') →
      h'.get? s.heap.objs.size = some { cls := .type "list", dict := none, data := .seq its.toArray c', slots := #[] } → EP X pins σ Q (.ref s.heap.objs.size) { s with heap := h' } := fun its r' hz h' c' kp e =>
    ⟨.ref s.heap.objs.size, _, I.laid (t' := s.toks) kp (Nat.le_refl _) (show ObjOk X.prog X.w _ h' _ (.lst ys) from ⟨hz, its, c', r', e⟩), rfl, q _ (I.hok.fresh (Nat.le_refl _))⟩
  rcases hq with hq | hq
  · obtain ⟨its, r', pl, hz⟩ := I.list hq
    have hlen := r'.length
    obtain ⟨o, ho, hc, n, hd⟩ := pl.isList
    exact call_list_seq p (.inl rfl) ho hc hd (fun h' c' kp e => fin its r' hz h' c' kp e) (by simp only [List.size_toArray] <;> omega)
  · obtain ⟨its, r', pl, hz⟩ := I.tuple hq
    have hlen := r'.length
    obtain ⟨o, ho, hc, n, hd⟩ := pl
    exact call_list_seq p (.inr rfl) ho hc hd (fun h' c' kp e => fin its r' hz h' c' kp e) (by simp only [List.size_toArray] <;> omega)
theorem call_tuple_of : CallR X (.type "tuple") (fun xs H Q => ∃ p ys, xs = [.ref p] ∧ ((SqL X.K H p ys ∧ ∀ l, H l = none → Q (.ref l) (upd H l (.tup ys))) ∨ (SqT X.K H p ys ∧ Q (.ref p) H))) := by
  intro pins s σ H xs us Q I r h
  obtain ⟨p, ys, rfl, h⟩ := h
  obtain ⟨u, rfl, rx⟩ := vals1 r
  cases rx
  rcases h with ⟨hq, q⟩ | ⟨hq, q⟩
  · obtain ⟨its, r', pl, hz⟩ := I.list hq
    have hlen := r'.length
    refine call_tuple_list pl.isList (fun h' kp => ?_) (by simp only [List.size_toArray] <;> omega)
    have I1 : Inv X pins σ H { s with heap := h' } := I.kept (t' := s.toks) kp
    have I2 : Inv X pins σ (upd H h'.objs.size (.tup ys)) { s with heap := h'.push { cls := .type "tuple", data := .seq its.toArray } } :=
      I1.laid (t' := s.toks) (fun b o e => Heap.get?_push_of_some _ e) (Nat.le_refl _) (show ObjOk X.prog X.w _ _ _ (.tup ys) from ⟨hz, its, r', IsTup.new _ _⟩)
    exact ⟨.ref h'.objs.size, _, I2, rfl, q _ (I1.hok.fresh (Nat.le_refl _))⟩
  · obtain ⟨its, r', pl, hz⟩ := I.tuple hq
    exact call_tuple_same pl ⟨.ref p, H, I, rfl, q⟩
def tyV (K : PySem.W.Frag) (T : String) (x : V) (H : Hp) : Prop := match x with
  | .str _ => T = "str"
  | .int _ => T = "int"
  | .ref p => (T = "list" ∧ ∃ xs, SqL K H p xs) ∨ (T = "tuple" ∧ ∃ o, K.lookup p = some o ∧ o.cls = .type "tuple" ∧ o.dict = none) ∨
      (T = "dict" ∧ ((∃ kvs, H p = some (.dK kvs)) ∨ ∃ kvs, H p = some (.dT kvs))) ∨ (T = "set" ∧ ∃ S n, H p = some (.set S n))
  | _ => False
theorem tyV_is {pins : List (Addr × Obj)} {σ : St} {H : Hp} {s : Shared} {T : String} {x : V} {v : Value} (I : Inv X pins σ H s) (r : RelV x v) (ty : tyV X.K T x H) :
    s.TypeIs v T ∧ ∀ a, v = .ref a → ∃ ob, s.heap.get? a = some ob ∧ ob.dict = none := by
  cases x with
  | str z =>
    obtain ⟨t, rfl⟩ := r
    cases (show T = "str" from ty)
    exact ⟨typeIs_str s z t, fun _ e => nomatch e⟩
  | int i =>
    obtain ⟨t, rfl⟩ := r
    cases (show T = "int" from ty)
    exact ⟨typeIs_int s i t, fun _ e => nomatch e⟩
  | ref p =>
    cases r
    rcases ty with ⟨rfl, xs, hq⟩ | ⟨rfl, o, hk, hc, hd⟩ | ⟨rfl, hk⟩ | ⟨rfl, S, n, hk⟩
    · obtain ⟨its, _, pl, _⟩ := I.list hq
      refine ⟨pl.isList.typeIs, fun a e => ?_⟩
      cases e
      obtain ⟨o, n, e, c, hd, _⟩ := pl
      exact ⟨o, e, hd⟩
    · refine ⟨⟨o, I.kIn p o hk, hc⟩, fun a e => ?_⟩
      cases e
      exact ⟨o, I.kIn _ o hk, hd⟩
    · have z : ∃ o, s.heap.get? p = some o ∧ o.ExactDict := by
        rcases hk with ⟨kvs, hk⟩ | ⟨kvs, hk⟩
        · obtain ⟨_, _, _, _, o, _, _, e, ex, _⟩ := I.hok p _ hk
          exact ⟨o, e, ex⟩
        · obtain ⟨_, _, _, _, o, _, _, e, ex, _⟩ := I.hok p _ hk
          exact ⟨o, e, ex⟩
      obtain ⟨o, e, ex⟩ := z
      refine ⟨⟨o, e, ex.1⟩, fun a e2 => ?_⟩
      cases e2
      exact ⟨o, e, ex.2.1⟩
    · obtain ⟨o, _, _, _, e, ex, _⟩ := I.hok p _ hk
      refine ⟨⟨o, e, ex.1⟩, fun a e2 => ?_⟩
      cases e2
      exact ⟨o, e, ex.2.1⟩
  | _ => exact False.elim ty
def tBM (K : PySem.W.Frag) (T : String) (r : V → List V → Hp → VK → Prop) (to : TE) (t : TA) : TE := fun σ H Q => to σ H fun x H1 => tyV K T x H1 ∧ t σ H1 fun xs H2 => r x xs H2 Q
variable {o e : Expr} {es : List Expr} {to : TE} {t : TA} {name : Str} {apos cpos : Pos} {T id : String} {r : V → List V → Hp → VK → Prop}
theorem pe_bm (pa : PlainAttrs T) (slot : Slot T name id) (hty : typeOf (.builtin id) = pure (.type "method_descriptor")) (hm : MtR X id r) (ho : PE X o to) (ha : PA X (e :: es) t)
    (hbase : attributeBase o name X.env (eval o X.env) = eval o X.env := by rfl)
    (hfew : ((backTo cpos (starEach (e :: es) X.env)).all (fun x => !x.1) && (backToKw cpos (keywordEach [] X.env)).all (fun x => x.1.isSome)
      && decide ((e :: es).length + ([] : List Keyword).length + (if ([] : List Keyword).isEmpty then 0 else 1) < 30)) = true := by rfl)
    (hline : (apos.endLine == cpos.line) = true := by rfl) (hs : starEach (e :: es) X.env = (false, eval e X.env) :: starEach es X.env := by rfl) (hplain : (backTo cpos (starEach es X.env)).any (·.1) = false := by rfl) :
    PE X (.Call (.Attribute o name apos) (e :: es) [] cpos) (tBM X.K T r to t) := by
  intro pins s σ H Q I h
  refine wpAny_Call_method_late hbase hfew hline rfl (thn (ho pins s σ H _ I h) fun v s1 ⟨x, H1, I1, r1, ty, q1⟩ => ?_)
  obtain ⟨h1, h2⟩ := tyV_is I1 r1 ty
  refine ⟨T, id, pa, slot, hty, h1, h2, ?_⟩
  have hA := ha cpos pins s1 σ H1 _ I1 q1
  rw [hs] at hA ⊢
  refine Calls.callWith_builtin (by show (false || (backTo cpos (starEach es X.env)).any (·.1)) = false; rw [hplain] <;> rfl) (Calls.evalArgs_plain ?_)
  exact thn hA fun us s2 ⟨vs, H2, I2, r2, q2⟩ => hm pins s2 σ H2 x vs v us Q I2 r1 r2 q2
end
end L2
namespace L2
open PySem PySem.Spec PyProof.Rows
def MtM (X : Cx) (id : String) (r : V → List V → Hp → VK → Prop) : Prop :=
  ∀ (pins : List (Addr × Obj)) (s : Shared) (σ : St) (H : Hp) (x : V) (xs : List V) (v : Value) (us : List Value) (Q : VK), Inv X pins σ H s → RelV x v → Vals xs us → r x xs H Q →
    wpAny (model X.prog X.w) X.A (call (.builtin id) (v :: us)) (EP X pins σ Q) X.xe s
theorem Vals.one : ∀ {x : V} {us : List Value}, Vals [x] us → ∃ u, us = [u] ∧ RelV x u
  | _, _, .cons r .nil => ⟨_, rfl, r⟩
theorem Vals.two : ∀ {x y : V} {us : List Value}, Vals [x, y] us → ∃ u v, us = [u, v] ∧ RelV x u ∧ RelV y v
  | _, _, _, .cons r (.cons q .nil) => ⟨_, _, rfl, r, q⟩
theorem Vals.rep {xs : List V} {us : List Value} (h : Vals xs us) : ∀ k : Nat, Vals (List.replicate k xs).flatten (List.replicate k us).flatten
  | 0 => .nil
  | k + 1 => by
    rw [List.replicate_succ, List.replicate_succ, List.flatten_cons, List.flatten_cons]
    exact Vals.append h (Vals.rep h k)
theorem foldl_rep (its : List Value) : ∀ (k : Nat) (acc : List Value),
    List.foldl (fun x1 x2 => x1 ++ x2) acc.toArray (List.replicate k its.toArray) = (acc ++ (List.replicate k its).flatten).toArray
  | 0, acc => by simp
  | k + 1, acc => by
    have e : acc.toArray ++ its.toArray = (acc ++ its).toArray := by simp
    have e2 : (acc ++ its) ++ (List.replicate k its).flatten = acc ++ (List.replicate (k + 1) its).flatten := by
      rw [List.replicate_succ, List.flatten_cons, List.append_assoc]
    rw [← e2, ← foldl_rep its k (acc ++ its), ← e, List.replicate_succ, List.foldl_cons]
section
variable {X : Cx} {pins : List (Addr × Obj)} {σ : St} {H : Hp} {s : Shared} {l b : Addr} {xs ys zs : List V}
theorem Inv.lset {its its' : List Value} {n : Nat} {f : Array Value → Array Value} {t' : Nat} (I : Inv X pins σ H s) (hH : H l = some (.lst xs))
    (e : s.heap.get? l = some { cls := .type "list", data := .seq its.toArray n }) (hf : f its.toArray = its'.toArray) (hv : Vals ys its') (hz : ys.length ≤ sizeLine) :
    Inv X pins σ (upd H l (.lst ys)) { s with heap := s.heap.update l (Obj.mapSeq f), toks := t' } := by
  have q := PySem.IsL.update e f
  rw [hf] at q
  refine I.write (x := l) (e := l) (by rw [hH]; exact trivial) (.inl rfl) (fun b' u hb hu => (Heap.get?_update_other s.heap (Obj.mapSeq f) (Ne.symm hb)).trans hu) ⟨_, q⟩ ?_
  exact ⟨hz, its', _, hv, q⟩
theorem Inv.lnew {its : List Value} {t' : Nat} (I : Inv X pins σ H s) (hv : Vals ys its) (hz : ys.length ≤ sizeLine) :
    Inv X pins σ (upd H s.heap.objs.size (.lst ys)) { s with heap := s.heap.push { cls := .type "list", data := .seq its.toArray }, toks := t' } :=
  I.laid (fun _ _ q => Heap.get?_push_of_some _ q) (Nat.le_refl _) ⟨hz, its, 0, hv, Heap.get?_push_size _ rfl⟩
theorem Inv.fresh (I : Inv X pins σ H s) : H s.heap.objs.size = none := I.hok.fresh (Nat.le_refl _)
theorem Inv.lstM (I : Inv X pins σ H s) (hH : H l = some (.lst xs)) : xs.length ≤ sizeLine ∧ ∃ (its : List Value) (n : Nat), Vals xs its ∧ xs.length = its.length ∧ s.heap.get? l = some { cls := .type "list", data := .seq its.toArray n } := by
  obtain ⟨z, its, n, r, e⟩ := I.hok l _ hH
  exact ⟨z, its, n, r, r.length, e⟩
theorem notLongL {n : Nat} (h : n ≤ sizeLine) : Builtin.List.listTooLong n = false := by
  unfold Builtin.List.listTooLong
  exact decide_eq_false (by omega)
end
section
variable {X : Cx}
def rAppend : V → List V → Hp → VK → Prop := fun x vs H Q => ∃ l xs y, x = .ref l ∧ vs = [y] ∧ H l = some (.lst xs) ∧ xs.length < sizeLine ∧ Q .non (upd H l (.lst (xs ++ [y])))
theorem mt_append : MtM X "list.append" rAppend := by
  intro pins s σ H x vs v us Q I rx rv h
  obtain ⟨l, xs, y, rfl, rfl, hH, hz, q⟩ := h
  cases rx
  obtain ⟨u, rfl, ru⟩ := rv.one
  obtain ⟨z, its, n, r, hl, e⟩ := I.lstM hH
  refine call_meets F.slot_list_append ⟨_, e, rfl⟩ F.entry_list_append (F.args_list_append_2 _ _) (PySem.list_append l its.toArray n u (by rw [List.size_toArray]; omega)) ⟨e, ?_⟩
  refine ⟨.non, _, I.lset (its' := its ++ [u]) hH e (by simp) (r.append (.cons ru .nil)) ?_, rfl, q⟩
  rw [List.length_append, List.length_singleton]
  omega
def rCat : R2 := fun x y H Q => ∃ l b xs zs, x = .ref l ∧ y = .ref b ∧ H l = some (.lst xs) ∧ H b = some (.lst zs) ∧ xs.length + zs.length ≤ sizeLine ∧ ∀ p, H p = none → Q (.ref p) (upd H p (.lst (xs ++ zs)))
theorem op_cat : OpR X (binaryOp .Add) rCat := by
  intro pins s σ H x y v u Q I rx ry h
  obtain ⟨l, b, xs, zs, rfl, rfl, hH, hB, hz, q⟩ := h
  cases rx
  cases ry
  obtain ⟨z, its, n, r, hl, e⟩ := I.lstM hH
  obtain ⟨z2, its2, n2, r2, hl2, e2⟩ := I.lstM hB
  refine PySem.P.add_list e e2 ?_ (by rw [List.size_toArray, List.size_toArray]; omega)
  have ea : its.toArray ++ its2.toArray = (its ++ its2).toArray := by simp
  rw [ea]
  exact ⟨.ref _, _, I.lnew (t' := s.toks) (r.append r2) (by rw [List.length_append]; omega), rfl, q _ I.fresh⟩
def rRep : R2 := fun x y H Q => ∃ l k xs, x = .ref l ∧ y = .int k ∧ H l = some (.lst xs) ∧ -(2 ^ 63) ≤ k ∧ k < 2 ^ 63 ∧ xs.length * k.toNat ≤ sizeLine ∧
  ∀ p, H p = none → Q (.ref p) (upd H p (.lst (List.replicate k.toNat xs).flatten))
theorem len_rep {α : Type} (xs : List α) (k : Nat) : (List.replicate k xs).flatten.length = k * xs.length := by
  induction k with
  | zero => simp
  | succ k ih => rw [List.replicate_succ, List.flatten_cons, List.length_append, ih, Nat.succ_mul, Nat.add_comm]
theorem op_rep : OpR X (binaryOp .Mult) rRep := by
  intro pins s σ H x y v u Q I rx ry h
  obtain ⟨l, k, xs, rfl, rfl, hH, h1, h2, hz, q⟩ := h
  cases rx
  obtain ⟨t, rfl⟩ := ry
  obtain ⟨z, its, n, r, hl, e⟩ := I.lstM hH
  have hlen : its.toArray.size * k.toNat ≤ sizeLine := by rw [List.size_toArray, ← hl]; exact hz
  have hcap : ¬ its.toArray.size * k.toNat > (2 ^ 63 - 1) / 8 := by
    have : (sizeLine : Nat) ≤ (2 ^ 63 - 1) / 8 := by decide
    omega
  have hfit : ¬ (!Builtin.List.listFitsIndex k) = true := by
    rw [fitsIndex_both h1 h2]
    exact Bool.false_ne_true
  have hlong : ¬ Builtin.List.listTooLong (its.toArray.size * k.toNat) = true := by
    rw [notLongL hlen]
    exact Bool.false_ne_true
  have hnew : List.foldl (fun x1 x2 => x1 ++ x2) #[] (List.replicate (if its.toArray.isEmpty = true then 0 else k.toNat) its.toArray) = (List.replicate k.toNat its).flatten.toArray := by
    have f0 : ∀ m : Nat, List.foldl (fun x1 x2 => x1 ++ x2) #[] (List.replicate m its.toArray) = (List.replicate m its).flatten.toArray := fun m => by
      have := foldl_rep its m []
      rw [List.nil_append] at this
      exact this
    rw [f0]
    cases its with
    | nil => simp
    | cons a r' => rw [if_neg (by simp)]
  refine wpAny_binaryOp_repeat_ref (T := "list") (U := "int") (by decide) ⟨_, e, rfl⟩ (fun s' => typeIs_int s' k t) noFill_list_mul F.fills_int_mul F.slot_int_rmul repeat_list F.slot_int_index.lookup
    (call_meets F.slot_int_rmul (typeIs_int s k t) F.entry_int_rmul (F.args_int_rmul_2 _ _) (int___rmul___int_list k t l its.toArray n)
      ⟨e, rfl, ⟨_, e, rfl⟩, call_meets F.slot_list_mul ⟨_, e, rfl⟩ F.entry_list_mul (F.args_list_mul_2 _ _) (AutoListH.list___mul___list_int_3 l its.toArray n k t hfit hcap hlong) ⟨e, ?_⟩⟩)
  rw [hnew]
  exact ⟨.ref _, _, I.lnew (t' := s.toks) (r.rep k.toNat) (by rw [len_rep, Nat.mul_comm]; exact hz), rfl, q _ I.fresh⟩
end
section
variable {prog : Program} {w : World} {A : Around} {E : Value → Shared → Prop} {s : Shared}
set_option maxRecDepth 100000 in
end
section
variable {X : Cx}
end
end L2
namespace Att
open PySem PySem.W PySem.Calls PyProof.Rows
theorem ints_of_wellAll {P : Params} {h : Heap} : ∀ (ns : List Int) (vs : List Value), WellAll P h vs (ns.map WData.int) → IntsAre vs ns := by
  intro ns
  induction ns with
  | nil =>
    intro vs w
    rw [List.map_nil] at w
    cases w
    exact .nil
  | cons n ns ih =>
    intro vs w
    rw [List.map_cons] at w
    cases w with
    | cons a b =>
      cases a
      exact .cons _ _ (ih _ b)
theorem script_of {l : OpenLaw} {n : Nat} (hn : l.most = some n) {P : Params} {h : Heap} {args : List WData} {vals : List Value}
    (hpre : l.row.toRowW.claim.pre args = true) (hwl : WellAll P h vals args) :
    ∃ a vs ns, vals = [Value.ref a] ∧ args = [WData.list (ns.map WData.int)] ∧ h.get? a = some { cls := .type "list", data := .seq vs.toArray } ∧ IntsAre vs ns ∧ ns.length ≤ n := by
  have hsh : WShape.hasAll [] args [.list .int] = true := (pre_splitW hpre).1
  have hc : l.pre.holds [] { args := args } = true := (pre_splitW hpre).2
  obtain ⟨d, r, rfl, h1, h2⟩ := hasAllW_cons hsh
  obtain rfl := hasAllW_nil h2
  obtain ⟨xs, rfl, h3⟩ := hasW_list h1
  obtain ⟨ns, rfl⟩ := items_int h3
  have hlen : ns.length ≤ n := by
    unfold OpenLaw.pre at hc
    have h4 : (WTm.not (.lt (.lit (.int (n : Int))) (.len (.arg 0)))).holds [] { args := [.list (ns.map .int)] } = true := by
      have h4 := (holds_andW hc).1
      rw [hn] at h4
      exact h4
    have h5 := condW_of h4 (w_not (w_lt w_lit (w_len_list (w_arg rfl))))
    rw [List.length_map] at h5
    refine Nat.le_of_not_lt fun q => ?_
    have q' : (n : Int) < ((ns.length : Nat) : Int) := by omega
    first
      | (rw [decide_eq_true q'] at h5; exact absurd h5 (by decide))
      | (simp at h5; omega)
  cases hwl with
  | cons w1 w2 =>
    cases w2
    cases w1 with
    | list ho hall => exact ⟨_, _, ns, rfl, rfl, ho, ints_of_wellAll ns _ hall, hlen⟩
theorem post_true (l : OpenLaw) (args : List WData) : l.row.toRowW.claim.post args (.bool true) args = true :=
  postW_of (r := l.row.toRowW) (X := (true == true))
    (show WShape.has [] (.bool true) .bool = true by first | rfl | decide | simp [WShape.has, WShape.arms, WShape.armsAll])
    (show (WTm.eq .res (.lit (.bool true))).value [] { args := args, res := some (.bool true), after := args } = some (.bool (true == true)) from w_eq_bool (w_res rfl) w_lit) rfl
theorem attach_call {l : OpenLaw} {n : Nat} {q : Program} {loose : List Str} {XP : (Str → Option Value) → Heap → Prop} {YP : World → Heap → Prop} {d : DefRec}
    (hn : l.most = some n) (hdf : d.params.defaults = [])
    (call : ∀ (w : World) (s₀ s₁ : Shared) (mg mb : Str → Option Value) (fa : Addr) (o : Obj) (pm cd doc : Value) (a : Addr) (vs : List Value) (ns : List Int),
      Ground q loose [] XP w s₀ mg mb s₁.heap → YP w s₁.heap →
      s₁.heap.get? fa = some o → o.data = .func (docDef d.name d.params d.body d.scope pm cd doc) → s₁.heap.CodeRec cd d.name → mg d.name = some (.ref fa) →
      s₁.heap.get? a = some { cls := .type "list", data := .seq vs.toArray } → IntsAre vs ns → ns.length ≤ n → s₁.gens = #[] →
      codeAny (model l.prog w) callerA (.call (.ref fa) ⟨[.ref a], []⟩) (fun r s' => r = .ok (.ret (.bool true)) ∧ OldK s₁.heap s'.heap ∧ s'.os = s₁.os ∧ AllBare s'.gens) s₁) :
    WalkO q loose XP YP l.row.toRowW d [] (fun f vs => PySem.call f vs) := by
  intro w s₀ s₁ mg mb G Y fa o pm cd doc dV kV ho hd hcd hD hmg hg args vals as hpre hlay hrd hwl hlo
  obtain rfl : dV = .none := Dflts.none hD hdf
  obtain rfl : kV = .none := Dflts.noKw hD
  obtain ⟨a, vs, ns, rfl, rfl, hobj, hints, hlen⟩ := script_of hn hpre hwl
  refine enter_call (codeAny_mono (call w s₀ s₁ mg mb fa o pm cd doc a vs ns G Y ho (fd_plain hd) hcd hmg hobj hints hlen hg) fun r s' hq => ?_)
  obtain ⟨rfl, h2, h3, h4⟩ := hq
  exact ⟨.inl ⟨.bool true, .bool true, [], rfl, fun _ => rfl, .bool true, post_true l _, fun _ => ⟨List.Pairwise.nil, fun _ hm => (nomatch hm)⟩⟩, h2, h3, h4⟩
section
variable {prog : Program} {w : World} {A : Around} {E : Value → Shared → Prop} {s : Shared} {K : Frag}
end
end Att
namespace L2
open PySem PySem.Spec PyProof.Rows
theorem vals_ints : ∀ {vs : List Value} {ns : List Int}, IntsAre vs ns → Vals (ns.map V.int) vs
  | _, _, .nil => .nil
  | _, _, .cons n t h => .cons ⟨t, rfl⟩ (vals_ints h)
def Only (H : Hp) : Prop := ∀ b, H b = none ∨ ∃ o xs, H b = some (.frz o (.lst xs))
theorem law_call {P : Program} {w : World} {K : PySem.W.Frag} {mg mb : Str → Option Value} {CX : CXT} {k : Nat} {fa a : Addr} {fd : FuncData} {x : Str} {sp : Sp} {s₁ : Shared} {vs : List Value} {ns : List Int}
    (KX : K.In s₁.heap) (hns : s₁.heap.Ns mainGlobals mg) (hb : s₁.heap.Ns builtinsNs mb) (hbb : ∀ x : Str, x ≠ "__name__" → mb x = bootBuiltins x) (hlim : s₁.heap.NoLimit) (hg : s₁.gens = #[])
    (ha : s₁.heap.get? a = some { cls := .type "list", data := .seq vs.toArray }) (hi : IntsAre vs ns) (hl : ns.length ≤ sizeLine) (hr : Room k callerA)
    (F : ∀ base : Heap, K.In base → base.Ns mainGlobals mg → FnOk P w K mg base CX k fa fd [x] sp) (hbind : ∀ (s : Shared) (u : Value), BindsTo s fd ⟨[u], []⟩ [(x, u)])
    (hsp : ∀ H : Hp, Only H → SqL K H a (ns.map V.int) → sp [.ref a] H (fun v _ => v = .bl true) fun _ _ _ => False)
    (hCX : ∀ H e s', CX [] H s₁ (fun _ _ _ => False) e s' → False) :
    codeAny (model P w) callerA (.call (.ref fa) ⟨[.ref a], []⟩) (fun r s' => r = .ok (.ret (.bool true)) ∧ OldK s₁.heap s'.heap ∧ s'.os = s₁.os ∧ AllBare s'.gens) s₁ := by
  have rv := vals_ints hi
  have lenV := hi.length
  have core : ∀ H : Hp, Only H → SqL K H a (ns.map V.int) → HOk P w H s₁.heap → (∀ b, H b ≠ none → b = a) → (H a ≠ none → K.lookup a = none) →
      codeAny (model P w) callerA (.call (.ref fa) ⟨[.ref a], []⟩) (fun r s' => r = .ok (.ret (.bool true)) ∧ OldK s₁.heap s'.heap ∧ s'.os = s₁.os ∧ AllBare s'.gens) s₁ := by
    intro H hO hS hok hA hK
    have base_of : ∀ {b : Addr} {o : Obj}, s₁.heap.get? b = some o → H b = none → (hidT s₁.heap H).get? b = some o := fun e n => hidT_get e n
    have noA : ∀ {b : Addr} {o : Obj} {es : Array DictEntry} {ep : Nat}, s₁.heap.get? b = some o → o.data = .dict es ep → H b = none := fun {b o es ep} e d => by
      cases q : H b with
      | none => rfl
      | some u =>
        have e' : b = a := hA b (by rw [q]; simp)
        subst e'
        rw [ha] at e; cases e
        have d' : Data.seq vs.toArray _ = Data.dict es ep := d
        cases d'
    have nsK : ∀ {b : Addr} {m : Str → Option Value}, s₁.heap.Ns b m → (hidT s₁.heap H).Ns b m := fun {b m} ⟨o, es, ep, e, d, r⟩ => ⟨o, es, ep, base_of e (noA e d), d, r⟩
    have hKb : K.In (hidT s₁.heap H) := fun b o e => base_of (KX b o e) (by
      cases q : H b with
      | none => rfl
      | some u =>
        have e' : b = a := hA b (by rw [q]; simp)
        subst e'
        rw [hK (by rw [q]; simp)] at e; cases e)
    have hM : Mod K mg (hidT s₁.heap H) := ⟨hKb, nsK hns, ⟨mb, nsK hb, hbb⟩, let ⟨mc, h1, h2⟩ := hlim; ⟨mc, nsK h1, h2⟩⟩
    have e0 : Env0 P w K mg (hidT s₁.heap H) callerA [] s₁ H := ⟨rfl, hM, fun b o e => of_hidT e, Nat.le_of_eq (hidT_size _ _), trivial, fun b hb => absurd (show b ∈ ([] : List Addr) from hb) (by simp), hok, .of_eq hg⟩
    refine codeAny_mono ((F _ hKb (nsK hns)).run callerA [] s₁ H ⟨[.ref a], []⟩ [.ref a] [.ref a] _ _ hr e0 (hbind s₁ (.ref a)) (.cons rfl .nil) (hsp H hO hS)) fun r s' h => ?_
    cases r with
    | error e => exact (hCX H e s' h).elim
    | ok fl =>
      cases fl with
      | next => exact False.elim h
      | brk => exact False.elim h
      | cont => exact False.elim h
      | ret u =>
        obtain ⟨v, H', os, bare, un, hok', r', q⟩ := h
        have q' : v = .bl true := q
        subst q'
        obtain rfl : u = Value.bool true := r'
        refine ⟨rfl, OldK.of_keep fun b o e => ?_, os, bare⟩
        cases q : H b with
        | none => exact un.keep b o e q (by intro z; exact absurd (show b ∈ ([] : List Addr) from z) (by simp)) (by simp)
        | some u =>
          rcases hO b with z | ⟨ob, xs, z⟩
          · rw [q] at z; cases z
          · have z2 := un.frzs b ob _ z
            obtain ⟨e1, _⟩ := hok b _ z
            obtain ⟨e2, _⟩ := hok' b _ z2
            rw [e] at e1; cases e1
            exact e2
  cases hk : K.lookup a with
  | some o =>
    have e := KX a o hk
    rw [ha] at e
    cases e
    refine core (fun _ => none) (fun _ => .inl rfl) (.inr ⟨_, vs.toArray, _, hk, rfl, rfl, rfl, by rw [List.size_toArray, lenV]; exact hl, by simpa using rv⟩) (fun b u z => by have z' : (none : Option HO) = some u := z; cases z') (fun b z => absurd rfl z) fun z => absurd rfl z
  | none =>
    refine core (fun b => if b = a then some (.frz { cls := .type "list", data := .seq vs.toArray } (.lst (ns.map V.int))) else none) (fun b => ?_) (.inl (.inr ⟨{ cls := .type "list", data := .seq vs.toArray }, if_pos rfl⟩)) (fun b u z => ?_) (fun b z => ?_) fun _ => hk
    · by_cases hb : b = a
      · exact .inr ⟨_, _, if_pos hb⟩
      · exact .inl (if_neg hb)
    · by_cases hb : b = a
      · have z' := (if_pos hb).symm.trans z
        cases z'
        subst hb
        exact ⟨ha, by rw [List.length_map]; exact hl, vs, _, rv, ha⟩
      · have z' := (if_neg hb).symm.trans z
        cases z'
    · by_cases hb : b = a
      · exact hb
      · exact absurd (if_neg hb) z
end L2
namespace L2
open PySem PySem.Spec PyProof.Rows
theorem walk_of {l : PySem.W.OpenLaw} {n k : Nat} {q : Program} {loose : List Str} {XP : (Str → Option Value) → Heap → Prop} {YP : World → Heap → Prop} {d : DefRec} {K : Params → PySem.W.Frag} {CX : World → CXT} {sp : World → Sp} {x : Str}
    (hn : l.most = some n) (hn2 : n ≤ sizeLine) (hdf : d.params.defaults = []) (hr : Room k callerA)
    (hY : ∀ (w : World) (h : Heap), YP w h → (K w.params).In h)
    (F : ∀ (w : World) (mg : Str → Option Value) (fa : Addr) (h : Heap), (K w.params).In h → h.Ns mainGlobals mg → mg d.name = some (.ref fa) →
      ∃ fd : FuncData, (∀ (s : Shared) (u : Value), BindsTo s fd ⟨[u], []⟩ [(x, u)]) ∧
        ∀ base : Heap, (K w.params).In base → base.Ns mainGlobals mg → FnOk l.prog w (K w.params) mg base (CX w) k fa fd [x] (sp w))
    (hsp : ∀ (w : World) (H : Hp) (a : Addr) (ns : List Int), ns.length ≤ n → Only H → SqL (K w.params) H a (ns.map V.int) → sp w [.ref a] H (fun v _ => v = .bl true) fun _ _ _ => False)
    (hCX : ∀ (w : World) (H : Hp) (s : Shared) (e : Value) (s' : Shared), CX w [] H s (fun _ _ _ => False) e s' → False) :
    PySem.W.WalkO q loose XP YP l.row.toRowW d [] (fun f vs => PySem.call f vs) := by
  refine Att.attach_call hn hdf fun w s₀ s₁ mg mb fa o pm cd doc a vs ns G Y ho hd hcd hmg hobj hints hlen hg => ?_
  have KX := hY w _ Y
  obtain ⟨fd, hb, hF⟩ := F w mg fa _ KX G.T.g hmg
  exact law_call KX G.T.g G.T.b G.T.builtins G.T.nolimit hg hobj hints (Nat.le_trans hlen hn2) hr hF hb (fun H hO hS => hsp w H a ns hlen hO hS) fun H e s' => hCX w H s₁ e s'
end L2
namespace L2
open PySem PySem.Spec PyProof.Rows
def inClass (s : Stmt) (j : Nat) : Stmt := match s with
  | .ClassDef _ _ _ body _ _ _ _ _ _ _ => body.getD j (.Pass ⟨0, 0, 0, 0⟩)
  | _ => .Pass ⟨0, 0, 0, 0⟩
def defArgs (s : Stmt) : Arguments := match s with
  | .FunctionDef _ a _ _ _ _ _ _ _ _ => a
  | _ => { posonlyargs := [], args := [], vararg := none, kwonlyargs := [], kw_defaults := [], kwarg := none, defaults := [] }
def defBody (s : Stmt) : List Stmt := match s with
  | .FunctionDef _ _ b _ _ _ _ _ _ _ => b
  | _ => []
def defScope (s : Stmt) : Scope := match s with
  | .FunctionDef _ _ _ _ _ _ sc _ _ _ => sc
  | _ => { kind := .function, names := [], isGenerator := false, isCoroutine := false }
abbrev CX0 : CXT := fun _ _ _ _ _ _ => False
abbrev E0 : XK := fun _ _ _ => False
theorem pass0 {X : Cx} : Passes CX0 X E0 := fun _ _ _ _ _ _ _ h => h.elim
structure Fun (K : PySem.W.Frag) (x qual : Str) (st : Stmt) (f : Addr) (fd : FuncData) : Prop where
  ex : ∃ (oc : Value) (od : Option Addr) (kV doc pm : Value) (an : Option Addr) (cdv ct : Value) (osl : Array (Option Value)),
    fd = PySem.W.fnOf x qual (defArgs st) (defBody st) (defScope st) .none kV doc pm an cdv ct ∧ K.lookup f = some ⟨oc, od, .func fd, osl⟩ ∧ PySem.W.codeIn K cdv qual = true
  kp : PySem.W.keepIn K (.ref f) = true
section
variable {P : Program} {w : World} {K : PySem.W.Frag} {mg : Str → Option Value} {base : Heap}
theorem Fun.ok {x qual : Str} {st : Stmt} {f : Addr} {fd : FuncData} {N ps : List Str} {k : Nat} {sp : Sp} (F : Fun K x qual st f fd) (S : FnScope N ps (defScope st)) (len : ∀ vs H Q E, sp vs H Q E → vs.length = ps.length)
    (hbody : ∀ (cdv : Value) (A : Around) (outer : List Env) (s : Shared) (H : Hp) (vs : List V) (Q : VK) (E : XK), Room k (A.deeper (envOfC qual (defScope st) s.heap.objs.size f cdv)) → sp vs H Q E →
      ∃ t, PSs (cxOf CX0 P w K mg base N qual (defScope st) f cdv A outer s H E).nox (defBody st) t ∧ t { nx := fun _ H' => Q .non H', rt := Q } (start N vs) H) : FnOk P w K mg base CX0 (k + 1) f fd ps sp := by
  obtain ⟨oc, od, kV, doc, pm, an, cdv, ct, osl, rfl, lk, hcd⟩ := F.ex
  refine fn_of lk hcd S len fun A outer s H vs Q E hr hsp => ?_
  obtain ⟨t, h, q⟩ := hbody cdv A outer s H vs Q E hr hsp
  exact ⟨t, h.nox, q⟩
theorem Fun.binds {x qual : Str} {st : Stmt} {f : Addr} {fd : FuncData} {ps : List Str} (F : Fun K x qual st f fd)
    (h : ∀ (kV doc pm : Value) (an : Option Addr) (cdv ct : Value) (us : List Value), us.length = ps.length → bindArgs (PySem.W.fnOf x qual (defArgs st) (defBody st) (defScope st) .none kV doc pm an cdv ct) ⟨us, []⟩ = pure (ps.zip us)) : Binds K fd ps [] := by
  obtain ⟨oc, od, kV, doc, pm, an, cdv, ct, osl, rfl, lk, hcd⟩ := F.ex
  exact .all (h kV doc pm an cdv ct)
theorem fun_mk {x qual : Str} {st : Stmt} {f : Addr} {oc : Value} {od an : Option Addr} {osl : Array (Option Value)} {kV doc pm cdv ct : Value} (l : K.lookup f = some ⟨oc, od, .func (PySem.W.fnOf x qual (defArgs st) (defBody st) (defScope st) .none kV doc pm an cdv ct), osl⟩)
    (c : PySem.W.codeIn K cdv qual = true) (k : PySem.W.keepIn K (.ref f) = true) : Fun K x qual st f (PySem.W.fnOf x qual (defArgs st) (defBody st) (defScope st) .none kV doc pm an cdv ct) := ⟨⟨oc, od, kV, doc, pm, an, cdv, ct, osl, rfl, l, c⟩, k⟩
end
theorem small1000 {n : Nat} (h : n ≤ 1000) : n < sizeLine := Nat.lt_of_le_of_lt h (by decide)
section
variable {X : Cx}
theorem pv (i : Nat) {x : Str} {pos : Pos} (hN : X.N[i]? = some x := by rfl) (hv : Vis X.env.scope x := by first | exact Or.inl rfl | exact Or.inr (Or.inl rfl) | exact Or.inr (Or.inr rfl)) (hd : (x == ("__debug__" : Str)) = false := by decide)
    (hcd : (x == ("__classdict__" : Str)) = false := by decide) : PE X (.Name x pos) (tVar i) := pe_var hN hv hd hcd
end
theorem iteF {A B : Prop} (h : B) : if false = true then A else B := by
  rw [if_neg Bool.false_ne_true]
  exact h
theorem iteT {A B : Prop} (h : A) : if true = true then A else B := by
  rw [if_pos rfl]
  exact h
theorem ite2 {c A B : Prop} [Decidable c] (h1 : c → A) (h2 : ¬ c → B) : if c then A else B := by
  by_cases h : c
  · rw [if_pos h]
    exact h1 h
  · rw [if_neg h]
    exact h2 h
theorem iteNS {c A B : Prop} [Decidable c] (hc : c) (h : B) : if (!decide c) = true then A else B := by
  rw [decide_eq_true hc]
  exact iteF h
def Same (H H' : Hp) : Prop := ∀ b o, H b = some o → H' b = some o
theorem Same.refl (H : Hp) : Same H H := fun _ _ h => h
theorem Same.trans {H H1 H2 : Hp} (a : Same H H1) (b : Same H1 H2) : Same H H2 := fun c o h => b c o (a c o h)
theorem Same.free {H H' : Hp} (e : Same H H') {l : Addr} (h : H' l = Option.none) : H l = Option.none := by
  cases q : H l with
  | none => rfl
  | some o =>
    rw [e l o q] at h
    cases h
end L2
set_option maxHeartbeats 4000000
namespace L2
open PySem PySem.Spec PyProof.Rows
theorem forIn_yield_fold {α β : Type} {f : α → β → Sem (ForInStep β)} {g : α → β → β} : ∀ {l : List α} (c : β), (∀ x ∈ l, ∀ c, f x c = pure (.yield (g x c))) →
    forIn l c f = pure (l.foldl (fun c x => g x c) c)
  | [], c, _ => rfl
  | x :: l, c, h => by
    rw [List.forIn_cons, h x List.mem_cons_self, pure_bind]
    exact forIn_yield_fold (g x c) fun y hy => h y (List.mem_cons_of_mem _ hy)
def clIn (env : Env) (x : Str × NameKind) (cs : List (Str × Addr)) : List (Str × Addr) :=
  if x.2 = .free then (x.1, (env.cells.lookup x.1).getD 0) :: cs else cs
def clOf (scope : Scope) (env : Env) : List (Str × Addr) := scope.names.foldl (fun c x => clIn env x c) []
theorem closureFor_free {scope : Scope} {env : Env} (h : ∀ x ∈ scope.names, x.2 = .free → ∃ c, env.cells.lookup x.1 = some c) : closureFor scope env = pure (clOf scope env) := by
  simp only [closureFor]
  rw [forIn_yield_fold (g := clIn env) [] (fun x hx c => by
    obtain ⟨n, k⟩ := x
    by_cases hk : k = .free
    · obtain ⟨a, e⟩ := h _ hx hk
      have e' : env.cells.lookup n = some a := e
      have hb : (k == NameKind.free) = true := by simpa using hk
      simp only [if_true, cellOf, e', clIn, hk, Option.getD_some]
      rfl
    · have hb : (k == NameKind.free) = false := by simpa using hk
      simp only [hb, Bool.false_eq_true, if_false, clIn, hk])]
  rfl
theorem clFold_lookup (env : Env) {x : Str} {c : Addr} : ∀ (names : List (Str × NameKind)) (cs : List (Str × Addr)), (names.foldl (fun c x => clIn env x c) cs).lookup x = some c →
    (∃ k, (x, k) ∈ names ∧ k = .free ∧ c = (env.cells.lookup x).getD 0) ∨ cs.lookup x = some c
  | [], cs, h => .inr h
  | (n, k) :: r, cs, h => by
    rcases clFold_lookup env r _ h with ⟨k', hm, hk, e⟩ | h
    · exact .inl ⟨k', List.mem_cons_of_mem _ hm, hk, e⟩
    · unfold clIn at h
      dsimp only at h
      by_cases hk : k = .free
      · rw [if_pos hk] at h
        rw [List.lookup_cons] at h
        by_cases hx : (x == n) = true
        · rw [hx] at h
          have hx' : x = n := by simpa using hx
          subst hx'
          exact .inl ⟨k, List.mem_cons_self, hk, (Option.some.inj h).symm⟩
        · have hx2 : (x == n) = false := by simpa using hx
          rw [hx2] at h
          exact .inr h
      · rw [if_neg hk] at h
        exact .inr h
theorem clFold_some (env : Env) {x : Str} : ∀ (names : List (Str × NameKind)) (cs : List (Str × Addr)), ((∃ k, (x, k) ∈ names ∧ k = .free) ∨ ∃ c, cs.lookup x = some c) → ∃ c, (names.foldl (fun c x => clIn env x c) cs).lookup x = some c
  | [], cs, h => by
    rcases h with ⟨k, hm, _⟩ | h
    · cases hm
    · exact h
  | (n, k) :: r, cs, h => by
    refine clFold_some env r _ ?_
    rcases h with ⟨k', hm, hk⟩ | ⟨c, h⟩
    · rcases List.mem_cons.mp hm with e | hm
      · cases e
        refine .inr ⟨(env.cells.lookup x).getD 0, ?_⟩
        unfold clIn
        dsimp only
        rw [if_pos hk, List.lookup_cons]
        simp
      · exact .inl ⟨k', hm, hk⟩
    · refine .inr ?_
      unfold clIn
      dsimp only
      by_cases hk : k = .free
      · rw [if_pos hk, List.lookup_cons]
        by_cases hx : (x == n) = true
        · exact ⟨_, by rw [hx]⟩
        · have hx2 : (x == n) = false := by simpa using hx
          exact ⟨c, by rw [hx2]; exact h⟩
      · rw [if_neg hk]
        exact ⟨c, h⟩
theorem lookup_relabel {env : Env} : ∀ {names : List (Str × NameKind)} {x : Str} {k : NameKind},
    (names.map fun (n, k) => if (k == NameKind.free && env.scope.kind == .function && env.kindOf n == some .cell) then (n, NameKind.cell) else (n, k)).lookup x = some k →
    names.lookup x = some k ∨ (k = .cell ∧ names.lookup x = some .free)
  | [], _, _, h => by simp at h
  | (n, k) :: r, x, k', h => by
    have ih := @lookup_relabel env r x k'
    have h' : List.lookup x ((if (k == NameKind.free && env.scope.kind == .function && env.kindOf n == some .cell) = true then (n, NameKind.cell) else (n, k)) :: (r.map fun (n, k) => if (k == NameKind.free && env.scope.kind == .function && env.kindOf n == some .cell) then (n, NameKind.cell) else (n, k))) = some k' := h
    by_cases hc : (k == NameKind.free && env.scope.kind == .function && env.kindOf n == some .cell) = true
    · rw [if_pos hc] at h'
      simp only [List.lookup_cons] at h' ⊢
      cases hx : x == n with
      | true =>
        rw [hx] at h'
        simp only [Bool.and_eq_true, beq_iff_eq] at hc
        exact .inr ⟨(Option.some.inj h').symm, by rw [hc.1.1]⟩
      | false => rw [hx] at h'; exact ih h'
    · rw [if_neg hc] at h'
      simp only [List.lookup_cons] at h' ⊢
      cases hx : x == n with
      | true => rw [hx] at h'; exact .inl h'
      | false => rw [hx] at h'; exact ih h'
structure CompScope (sc scope : Scope) (N : List Str) (x : Str) (js : List Nat) (fr : List Str) : Prop where
  kind : scope.kind = .function
  noc : ∀ y ∈ scope.names, y.2 ≠ .cell
  loc : ∀ y ∈ scope.names, y.2 = .local → scope.names.lookup y.1 = some .local
  var : scope.names.lookup x = some .local
  fre : ∀ y ∈ scope.names, y.2 = .free → sc.names.lookup y.1 = some .cell ∨ sc.names.lookup y.1 = some .free
  imp : js.map (fun j => N[j]?) = fr.map some
  frf : ∀ y ∈ fr, scope.names.lookup y = some .free
  nd : (x :: fr).Nodup
abbrev cxComp (X : Cx) (scope : Scope) (N : List Str) (pins : List (Addr × Obj)) (fp : List Addr) (s : Shared) (H : Hp) : Cx where
  prog := X.prog
  w := X.w
  K := X.K
  mg := X.mg
  base := X.base
  A := X.A
  N := N
  s₀ := s
  H₀ := H
  env := compEnvC scope (clOf scope X.env) s.heap.objs.size X.env
  outer := X.stack
  stack := X.stack
  ex := fp
  fn := fun _ => false
  calm := X.calm
  pn := X.pn ++ pins
  xe := fun _ _ => False
def impS (σ : St) (js : List Nat) : St := js.map fun j => (σ[j]?).getD none
def PTs (X : Cx) (ifs : List Expr) (t : TT) : Prop :=
  ∀ (pins : List (Addr × Obj)) (s : Shared) (σ : St) (H : Hp) (Q : Bool → Hp → Prop), Inv X pins σ H s → t σ H Q →
    wpAny (model X.prog X.w) X.A (forIn ifs true fun c r => if r = true then do let ok ← isTrue c X.env (eval c X.env); pure (ForInStep.yield ok) else pure (ForInStep.yield r)) (TP X pins σ Q) X.xe s
def tTrue : TT := fun _ H Q => Q true H
theorem tTrue_mk {σ : St} {H : Hp} {Q : Bool → Hp → Prop} (h : Q true H) : tTrue σ H Q := h
theorem pts_nil {X : Cx} : PTs X [] tTrue := fun _ _ _ H _ I h => wpAny_tests_nil ⟨H, I, h⟩
theorem pts_one {X : Cx} {c : Expr} {t : TT} (h : PT X c t) : PTs X [c] t := fun pins s σ H Q I q => wpAny_tests_one (h pins s σ H Q I q)
def CompT (J : It) (js : List Nat) (tc : TT) (te : TE) (σ : St) (acc : Addr) (H1 : Hp) (Q : VK) : Prop := ∃ (B : Nat) (W : Nat → List V → Hp → Prop), W 0 [] (upd H1 acc (.lst [])) ∧ ∀ i ys H, W i ys H →
  (J.stop i H ∧ Q (.ref acc) H) ∨ (i < B ∧ J.go i H ∧ ∀ x H', J.yld i H x H' → tc (some x :: impS σ js) H' fun b H2 =>
    if b = true then te (some x :: impS σ js) H2 fun y H3 => H3 acc = some (.lst ys) ∧ ys.length < sizeLine ∧ W (i + 1) (ys ++ [y]) (upd H3 acc (.lst (ys ++ [y])))
    else W (i + 1) ys H2)
def tComp (wi : TI) (js : List Nat) (tc : TT) (te : TE) : TE := fun σ H Q => wi σ H fun J H1 => ∀ acc, H1 acc = none → CompT J js tc te σ acc H1 Q
theorem comp_loop {prog : Program} {w : World} {A : Around} {R : Result → Shared → Prop} {s : Shared} {elt target iter : Expr} {ifs : List Expr} {scope : Scope} {pos : Pos} {it acc : Value} {env : Env} (I : Nat → Shared → Prop)
    (turn : ∀ n s, I n s → wpAny (model prog w) A (pyNext it) (fun r s₁ => match r with
      | none => R (.ok .next) s₁
      | some v => wpAny (model prog w) A (letOwnedTupleGo target it v) (fun _ s₁ => wpAny (model prog w) A (assign target env v) (fun _ s₂ =>
          wpAny (model prog w) A (forIn ifs true fun c r => if r = true then do let ok ← isTrue c env (eval c env); pure (ForInStep.yield ok) else pure (ForInStep.yield r)) (fun ok s₃ =>
            if ok = true then wpAny (model prog w) A (eval elt env) (fun x s₄ =>
              wpAny (model prog w) A (call (.builtin "list.append") [acc, x]) (fun _ s₅ => ∃ m, m < n ∧ I m s₅) (fun _ _ => False) s₄) (fun _ _ => False) s₃
            else ∃ m, m < n ∧ I m s₃) (fun _ _ => False) s₂) (fun _ _ => False) s₁) (fun _ _ => False) s₁) (fun _ _ => False) s)
    (n : Nat) (h : I n s) :
    codeAny (model prog w) A (.compLoop (.ListComp elt [⟨target, iter, ifs, 0⟩] scope pos) 0 it acc env) R s := by
  refine codeAny_loop rfl I (fun n s hI => ?_) n h
  show wpAny _ A ((compTurn (.ListComp elt [⟨target, iter, ifs, 0⟩] scope pos) 0 it acc env).onRaise (fun x => do noteFrame x env; theTreesLotGoes x)) _ _ s
  refine wpAny_noted ?_
  rw [compTurn_list]
  refine wpAny_bind (wpAny_standAt (wpAny_bind (wpAny_mono (turn n s hI) (fun r s₁ h₁ => ?_) fun _ _ h' => h'.elim)))
  cases r with
  | none => exact wpAny_pure h₁
  | some v =>
    refine wpAny_bind (wpAny_mono h₁ (fun _ s₂ h₂ => ?_) fun _ _ h' => h'.elim)
    refine wpAny_bind (wpAny_mono h₂ (fun _ s₂ h₂ => wpAny_bind (wpAny_mono h₂ (fun ok s₃ h₃ => ?_) fun _ _ h' => h'.elim)) fun _ _ h' => h'.elim)
    cases ok with
    | false => exact wpAny_pure ⟨rfl, h₃⟩
    | true =>
      exact wpAny_bind (wpAny_bind (wpAny_mono h₃ (fun x s₄ h₄ => wpAny_bind (wpAny_mono h₄ (fun _ s₅ h₅ => wpAny_pure (wpAny_pure ⟨rfl, h₅⟩)) fun _ _ h' => h'.elim)) fun _ _ h' => h'.elim))
section
variable {X : Cx} {elt iter : Expr} {x : Str} {px pos : Pos} {ifs : List Expr} {scope : Scope} {js : List Nat} {fr : List Str} {wi : TI} {tc : TT} {te : TE}
theorem cl_sub {env : Env} (S : ∀ y ∈ scope.names, y.2 = .free → ∃ c, env.cells.lookup y.1 = some c) {y : Str} {c : Addr} (h : (clOf scope env).lookup y = some c) : env.cells.lookup y = some c := by
  rcases clFold_lookup env scope.names [] h with ⟨k, hm, hk, e⟩ | h
  · obtain ⟨c', e'⟩ := S _ hm hk
    have e2 : env.cells.lookup y = some c' := e'
    rw [e2] at e ⊢
    rw [e]
    rfl
  · cases h
theorem cells_of (S : CompScope X.env.scope scope X.N x js fr) (ok : X.Ok) : ∀ y ∈ scope.names, y.2 = .free → ∃ c, X.env.cells.lookup y.1 = some c := fun y hy hk => ok.has y.1 (S.fre y hy hk)
theorem mem_of_lookup' {names : List (Str × NameKind)} {y : Str} {k : NameKind} (h : names.lookup y = some k) : (y, k) ∈ names := PySem.mem_of_lookup h
theorem comp_ok {pins : List (Addr × Obj)} {σ : St} {H : Hp} {s : Shared} {fp : List Addr} (S : CompScope X.env.scope scope X.N x js fr) (I : Inv X pins σ H s) (f : ∀ b ∈ fp, FpOk X pins H b) (hlt : ∀ b ∈ fp, b < s.heap.objs.size) :
    (cxComp X scope (x :: fr) pins fp s H).Ok where
  mod := I.ok.mod
  kind := S.kind
  glob := I.ok.glob
  blt := I.ok.blt
  above := Nat.le_refl _
  inj := fun y z c h1 h2 => I.ok.inj y z c (cl_sub (cells_of S I.ok) h1) (cl_sub (cells_of S I.ok) h2)
  has := fun y hy => by
    have hy' : (relabel scope X.env).names.lookup y = some .cell ∨ (relabel scope X.env).names.lookup y = some .free := hy
    have fr' : scope.names.lookup y = some .free := by
      rcases hy' with h | h
      · rcases lookup_relabel h with h | ⟨_, h⟩
        · exact absurd rfl (S.noc _ (mem_of_lookup' h))
        · exact h
      · rcases lookup_relabel h with h | ⟨h, _⟩
        · exact h
        · cases h
    exact clFold_some X.env scope.names [] (.inl ⟨.free, mem_of_lookup' fr', rfl⟩)
  cab := fun y c h => by cases h
  hd := I.ok.hd
  frames := I.ok.frames
  stk := .inl rfl
  exf := fun b hb => ⟨Nat.ne_of_lt (hlt b hb), fun y c h => (f b hb).2.2.2.2.1 y c (cl_sub (cells_of S I.ok) h)⟩
  bs := I.bs
  bsz := Nat.le_trans I.ok.bsz I.sz
  noex := fun b o e hb => by
    rcases (f b hb).2.2.2.1 with z | z
    · exact I.ok.noex b o e z
    · exact absurd (Nat.lt_of_lt_of_le (Heap.lt_size e) (Nat.le_trans I.ok.bsz z)) (Nat.lt_irrefl _)
  exfs := fun b hb z => by
    rcases List.mem_cons.mp (I.stkSub b z) with e | e
    · exact (f b hb).2.1 e
    · exact (f b hb).2.2.1 e
  funs := I.stack
  frf := I.stkFree
theorem comp_start {pins : List (Addr × Obj)} {σ : St} {H : Hp} {s : Shared} {fp : List Addr} {h1 : Heap} {m1 : Str → Option Value} {tk : Nat} (S : CompScope X.env.scope scope X.N x js fr) (I : Inv X pins σ H s) (f : ∀ b ∈ fp, FpOk X pins H b) (hlt : ∀ b ∈ fp, b < s.heap.objs.size)
    (hn : h1.Ns s.heap.objs.size m1) (old : ∀ b o, s.heap.get? b = some o → h1.get? b = some o) : Inv (cxComp X scope (x :: fr) pins fp s H) [] (none :: impS σ js) H { s with heap := h1, toks := tk } := by
  refine ⟨comp_ok S I f hlt, rfl, I.bare, Un.kept old, ⟨m1, hn, fun i y v e1 e2 e3 => ?_⟩, fun y c h => ?_, I.fresh, fun y c h => I.freeC y c (cl_sub (cells_of S I.ok) h), fun p hp => ?_, I.hok.kept old, ?_⟩
  ·
    cases i with
    | zero => cases e2
    | succ i =>
      have e1' : fr[i]? = some y := by simpa using e1
      have e2' : (impS σ js)[i]? = some (some v) := by simpa using e2
      have hj : (js.map fun j => X.N[j]?)[i]? = some (some y) := by rw [S.imp, List.getElem?_map, e1']; rfl
      rw [List.getElem?_map] at hj
      cases ej : js[i]? with
      | none => rw [ej] at hj; cases hj
      | some j =>
        rw [ej] at hj
        have hjN : X.N[j]? = some y := Option.some.inj hj
        unfold impS at e2'
        rw [List.getElem?_map, ej] at e2'
        have hv : (σ[j]?).getD none = some v := Option.some.inj e2'
        have hσ : σ[j]? = some (some v) := by
          cases q : σ[j]? with
          | none => rw [q] at hv; cases hv
          | some o => rw [q] at hv; exact congrArg some hv
        have hfr : scope.names.lookup y = some .free := S.frf y (List.mem_of_getElem? e1')
        have hk := S.fre _ (mem_of_lookup' hfr) rfl
        have hvis : Vis X.env.scope y := hk.elim (fun z => .inr (.inl z)) fun z => .inr (.inr z)
        obtain ⟨m, _, hl⟩ := I.loc
        obtain ⟨u, ru, lk⟩ := hl j y v hjN hσ hvis
        refine ⟨u, ru, .inr ⟨?_, ?_⟩⟩
        · have e3' : (relabel scope X.env).names.lookup y = some .local ∨ (relabel scope X.env).names.lookup y = some .cell ∨ (relabel scope X.env).names.lookup y = some .free := e3
          rcases e3' with z | z | z
          · rcases lookup_relabel z with q | ⟨q, _⟩
            · rw [hfr] at q; cases q
            · cases q
          · exact .inl z
          · exact .inr z
        · rcases lk with ⟨z, _⟩ | ⟨_, c, ec, ic⟩
          · rcases hk with hk | hk
            · have z' : X.env.scope.names.lookup y = some .local := z
              rw [hk] at z'; cases z'
            · have z' : X.env.scope.names.lookup y = some .local := z
              rw [hk] at z'; cases z'
          · obtain ⟨c', ec'⟩ := clFold_some X.env scope.names [] (x := y) (.inl ⟨.free, mem_of_lookup' hfr, rfl⟩)
            have ec2 := cl_sub (cells_of S I.ok) ec'
            rw [ec] at ec2
            cases ec2
            obtain ⟨o, ho, hd⟩ := ic
            exact ⟨c, ec', o, old _ _ ho, hd⟩
  · obtain ⟨v, o, ho, hd⟩ := I.cell y c (cl_sub (cells_of S I.ok) h)
    exact ⟨v, o, old _ _ ho, hd⟩
  · have hp' : p ∈ X.pn ++ pins := by simpa using hp
    obtain ⟨e, n, ne, nf, d⟩ := I.pin p hp'
    refine ⟨old _ _ e, n, Nat.ne_of_lt (Heap.lt_size e), fun z => ?_, d⟩
    rcases List.mem_cons.mp (I.stkSub p.1 z) with q | q
    · exact ne q
    · exact nf q
  · show (none :: impS σ js).length = (x :: fr).length
    have := congrArg List.length S.imp
    rw [List.length_map, List.length_map] at this
    unfold impS
    rw [List.length_cons, List.length_cons, List.length_map, this]
theorem comp_core {pins : List (Addr × Obj)} {σ : St} {H : Hp} {s : Shared} {Q : VK} {RR : Value → Addr → Result → Shared → Prop}
    (hc : X.calm = true) (S : CompScope X.env.scope scope X.N x js fr) (hi : PI X (.Name x px) iter wi)
    (ht : ∀ pins fp s H, PTs (cxComp X scope (x :: fr) pins fp s H) ifs tc) (he : ∀ pins fp s H, PE (cxComp X scope (x :: fr) pins fp s H) elt te)
    (I : Inv X pins σ H s) (h : tComp wi js tc te σ H Q)
    (hRR : ∀ (acc C : Addr) (H' : Hp) (s' : Shared) (m : Str → Option Value), s'.heap.Ns C m → Inv X pins σ H' s' → H' C = none → C ≠ X.env.locals → X.s₀.heap.objs.size ≤ C → (∀ y c, X.env.cells.lookup y = some c → c ≠ C) →
      (∀ p ∈ X.pn ++ pins, p.1 ≠ C) → Q (.ref acc) H' → RR (.ref acc) C (.ok .next) s') :
    wpAny (model X.prog X.w) X.A (eval iter X.env) (fun xv s₁ => wpAny (model X.prog X.w) X.A (pyIter xv) (fun it s₂ => wpAny (model X.prog X.w) X.A (newList []) (fun acc s₃ =>
      wpAny (model X.prog X.w) X.A (newFunctionEnv scope X.env.globals (clOf scope X.env) [] X.env.qual none .none (some X.env)) (fun cenv s₄ =>
        codeAny (model X.prog X.w) X.A (.compStart (.ListComp elt [⟨.Name x px, iter, ifs, 0⟩] scope pos) 0 it acc { cenv with scope := relabel scope X.env }) (RR acc cenv.locals) s₄) X.xe s₃) X.xe s₂) X.xe s₁) X.xe s := by
  refine thn (hi pins s σ H _ I h) fun xv s1 h1 => thn h1 fun itv s2 h2 => ?_
  obtain ⟨it, fp, tn, J, H2, e, I2, T, st2, f2, hW⟩ := h2
  subst e
  have hacc : H2 s2.heap.objs.size = none := I2.fresh
  obtain ⟨B, W, w0, turn⟩ := hW s2.heap.objs.size hacc
  have I3 : Inv X pins σ (upd H2 s2.heap.objs.size (.lst [])) { s2 with heap := s2.heap.push { cls := .type "list", data := .seq ([] : List Value).toArray } } := I2.lnew (t' := s2.toks) .nil (Nat.zero_le _)
  have flt2 : ∀ b ∈ fp, b < s2.heap.objs.size := fun b hb => by
    obtain ⟨o, e, _⟩ := T.obj _ _ st2 b hb
    exact Heap.lt_size e
  refine wpAny_newObj_type (wpAny_newFunctionEnv S.noc (by intro y hy; simp at hy) (fun h₁ hns₁ hsb₁ => ?_) S.kind)
  dsimp only at hns₁ hsb₁ ⊢
  have keep3 : ∀ b o, s2.heap.get? b = some o → (s2.heap.push { cls := .type "list", dict := none, data := .seq ([] : List Value).toArray }).get? b = some o := fun b o e => Heap.get?_push_of_some _ e
  generalize hs3 : s2.heap.push { cls := .type "list", dict := none, data := .seq ([] : List Value).toArray } = h3 at hns₁ hsb₁ I3 keep3 ⊢
  have sz3 : h3.objs.size = s2.heap.objs.size + 1 := by rw [← hs3, Heap.size_push]
  generalize hH3 : upd H2 s2.heap.objs.size (.lst []) = H3 at w0 I3
  have f3 : ∀ b ∈ fp, FpOk X pins H3 b := fun b hb => ⟨by rw [← hH3, upd_ne (Nat.ne_of_lt (flt2 b hb))]; exact (f2 b hb).1, (f2 b hb).2⟩
  have flt3 : ∀ b ∈ fp, b < h3.objs.size := fun b hb => by rw [sz3]; exact Nat.lt_succ_of_lt (flt2 b hb)
  have old : ∀ b o, h3.get? b = some o → h₁.get? b = some o := fun b o e => (hsb₁.2 b (Nat.ne_of_lt (Heap.lt_size e))).trans (Heap.get?_push_of_some _ e)
  have I4 : Inv (cxComp X scope (x :: fr) pins fp { s2 with heap := h3 } H3) [] (none :: impS σ js) H3 { s2 with heap := h₁, toks := s2.toks + ([] : List (Str × Value)).length } :=
    comp_start (s := { s2 with heap := h3 }) S I3 f3 flt3 hns₁ old
  have st4 : tn 0 h₁ := T.keep _ _ _ st2 fun b hb o e => old b o (keep3 b o e)
  have X' := cxComp X scope (x :: fr) pins fp { s2 with heap := h3 } H3
  have stat : ∀ {H' : Hp}, (∀ b ∈ fp, H' b = none) → ∀ b ∈ fp, FpOk (cxComp X scope (x :: fr) pins fp { s2 with heap := h3 } H3) [] H' b := fun {H'} hn b hb =>
    ⟨hn b hb, Nat.ne_of_lt (flt3 b hb), I4.ok.exfs b hb, .inl hb, (I4.ok.exf b hb).2, fun p hp => (f3 b hb).2.2.2.2.2 p (by simpa using hp)⟩
  have back : ∀ {σ' : St} {H' : Hp} {s' : Shared}, Inv (cxComp X scope (x :: fr) pins fp { s2 with heap := h3 } H3) [] σ' H' s' → Inv X pins σ H' s' := fun {σ' H' s'} J' =>
    I3.call' J'.os J'.base J'.hok J'.bare fun b hb => ⟨(f3 b hb).2.2.2.1, (f3 b hb).2.1, (f3 b hb).2.2.2.2.1, (f3 b hb).2.2.2.2.2⟩
  have fin : ∀ {σ' : St} {H' : Hp} {s' : Shared}, Inv (cxComp X scope (x :: fr) pins fp { s2 with heap := h3 } H3) [] σ' H' s' → Q (.ref s2.heap.objs.size) H' → RR (.ref s2.heap.objs.size) h3.objs.size (.ok .next) s' := fun {σ' H' s'} J' q => by
    obtain ⟨m, hm, _⟩ := J'.loc
    refine hRR _ _ H' s' m hm (back J') J'.free (Nat.ne_of_gt I3.lt) I3.sz (fun y c e z => ?_) (fun p hp z => ?_) q
    · obtain ⟨v, o, ho, _⟩ := I3.cell y c e
      rw [z] at ho
      exact absurd (Heap.lt_size ho) (Nat.lt_irrefl _)
    · have ho := (I3.pin p hp).1
      rw [z] at ho
      exact absurd (Heap.lt_size ho) (Nat.lt_irrefl _)
  have loop : ∀ s₃ : Shared, s₃ = { s2 with heap := h₁, toks := s2.toks + ([] : List (Str × Value)).length } →
      codeAny (model X.prog X.w) X.A (.compLoop (.ListComp elt [⟨.Name x px, iter, ifs, 0⟩] scope pos) 0 (.ref it) (.ref s2.heap.objs.size) (compEnvC scope (clOf scope X.env) h3.objs.size X.env)) (RR (.ref s2.heap.objs.size) h3.objs.size) s₃ := by
    rintro s₃ rfl
    refine comp_loop (fun n s' => ∃ i ys v0 H', Inv (cxComp X scope (x :: fr) pins fp { s2 with heap := h3 } H3) [] (v0 :: impS σ js) H' s' ∧ tn i s'.heap ∧ (∀ b ∈ fp, H' b = none) ∧ W i ys H' ∧ n = B - i) ?_ B ⟨0, [], none, H3, I4, st4, fun b hb => (f3 b hb).1, w0, rfl⟩
    rintro n s5 ⟨i, ys, v0, H5, I5, st5, fr5, w5, rfl⟩
    rcases turn i ys H5 w5 with ⟨stop, q⟩ | ⟨hB, go, step⟩
    · refine thn (T.done (cxComp X scope (x :: fr) pins fp { s2 with heap := h3 } H3) rfl rfl rfl hc i [] s5 _ H5 (fun _ _ => False) I5 (stat fr5) st5 stop) fun r s6 ⟨hr, I6⟩ => ?_
      subst hr
      exact fin I6 q
    · refine thn (T.item (cxComp X scope (x :: fr) pins fp { s2 with heap := h3 } H3) rfl rfl rfl hc i [] s5 _ H5 (fun _ _ => False) I5 (stat fr5) st5 go) fun r s6 ⟨u, hr, h6⟩ => ?_
      subst hr
      refine thn h6 fun _ s7 ⟨z, H7, I7, r7, y7, st7, fr7⟩ => ?_
      have I7' := I7.pinned (stat fr7) (T.obj _ _ st7)
      have again : ∀ {σ8 : St} {H8 : Hp} {s8 : Shared}, Inv (cxComp X scope (x :: fr) pins fp { s2 with heap := h3 } H3) ([] ++ pinsAt fp s7.heap) σ8 H8 s8 → tn (i + 1) s8.heap ∧ ∀ b ∈ fp, H8 b = none := fun {σ8 H8 s8} I8 => by
        refine ⟨T.keep _ _ _ st7 fun b hb o e => (I8.pin (b, o) (List.mem_append_right _ (List.mem_append_right _ (mem_pinsAt hb e)))).1, fun b hb => ?_⟩
        obtain ⟨o, e, d⟩ := T.obj _ _ st7 b hb
        exact (I8.pin (b, o) (List.mem_append_right _ (List.mem_append_right _ (mem_pinsAt hb e)))).2.1
      have hg : PG (cxComp X scope (x :: fr) pins fp { s2 with heap := h3 } H3) (.Name x px) (gName 0) := pg_name (i := 0) S.nd rfl (.inl (lookup_relabel_local S.var)) (.inr (lookup_relabel_local S.var))
      refine thn (hg _ s7 _ H7 z u _ I7' r7 (show gName 0 z _ H7 (fun σ' H' => σ' = some z :: impS σ js ∧ H' = H7) from ⟨rfl, rfl⟩)) fun _ s8 ⟨σ8, H8, I8, e8, eH8⟩ => ?_
      subst e8 eH8
      refine thn (ht _ _ _ _ _ s8 _ _ _ I8 (step z _ y7)) fun ok s9 ⟨H9, I9, q9⟩ => ?_
      cases ok with
      | false =>
        rw [if_neg Bool.false_ne_true] at q9 ⊢
        exact ⟨B - (i + 1), by omega, i + 1, ys, some z, H9, I9.unpinned, (again I9).1, (again I9).2, q9, rfl⟩
      | true =>
        rw [if_pos rfl] at q9 ⊢
        refine thn (he _ _ _ _ _ s9 _ _ _ I9 q9) fun v s10 ⟨y, H10, I10, r10, ha, hz, w10⟩ => ?_
        refine thn (mt_append _ s10 _ H10 (.ref s2.heap.objs.size) [y] (.ref s2.heap.objs.size) [v] (fun _ H' => H' = upd H10 s2.heap.objs.size (.lst (ys ++ [y]))) I10 rfl (.cons r10 .nil) ⟨_, ys, y, rfl, rfl, ha, hz, rfl⟩) fun _ s11 ⟨_, H11, I11, _, e11⟩ => ?_
        subst e11
        exact ⟨B - (i + 1), by omega, i + 1, ys ++ [y], some z, _, I11.unpinned, (again I11).1, (again I11).2, w10, rfl⟩
  exact codeAny_compStart_list (loop _ rfl) (T.self _ 0 _ _ _ st4 (loop _ rfl))
theorem pe_comp (hc : X.calm = true) (S : CompScope X.env.scope scope X.N x js fr) (hi : PI X (.Name x px) iter wi)
    (ht : ∀ pins fp s H, PTs (cxComp X scope (x :: fr) pins fp s H) ifs tc) (he : ∀ pins fp s H, PE (cxComp X scope (x :: fr) pins fp s H) elt te)
    (hs : ∀ v, foldedSetIterable iter X.env v = pure v := by intro _; rfl) : PE X (.ListComp elt [⟨.Name x px, iter, ifs, 0⟩] scope pos) (tComp wi js tc te) := by
  intro pins s σ H Q I h
  rw [eval_ListComp]
  refine wpAny_comprehension_free (use := none) rfl hs (closureFor_free (cells_of S I.ok)) S.kind S.loc (comp_core (RR := fun acc C => compPost (model X.prog X.w) X.A X.xe none (EP X pins σ Q) acc C) hc S hi ht he I h ?_)
  intro acc C H' s' m hn I' hC h1 h2 h3 h4 q
  exact ⟨m, hn, fun h' hs' => ⟨.ref acc, H', I'.turned (t' := s'.toks) (fun b o hb e => (hs'.2 b hb).trans e) hC (Ne.symm (Ne.symm h1)) (.inr h2) h3 h4, rfl, q⟩⟩
end
theorem comp_list {K : PySem.W.Frag} {a : Addr} {xs : List V} {js : List Nat} {tc : TT} {te : TE} {σ : St} {H1 : Hp} {Q : VK} {acc : Addr} (Pv : Nat → List V → Hp → Prop) (h0 : Pv 0 [] (upd H1 acc (.lst []))) (hl : ∀ i ys H, Pv i ys H → i ≤ xs.length ∧ SqL K H a xs)
    (hs : ∀ i x ys H, xs[i]? = some x → Pv i ys H → tc (some x :: impS σ js) H fun b H2 => if b = true then te (some x :: impS σ js) H2 fun y H3 => H3 acc = some (.lst ys) ∧ ys.length < sizeLine ∧ Pv (i + 1) (ys ++ [y]) (upd H3 acc (.lst (ys ++ [y]))) else Pv (i + 1) ys H2)
    (hd : ∀ ys H, Pv xs.length ys H → Q (.ref acc) H) :
    CompT (Itl K a) js tc te σ acc H1 Q := by
  refine ⟨xs.length, Pv, h0, fun i ys H p => ?_⟩
  obtain ⟨hi, q⟩ := hl i ys H p
  by_cases hlt : i < xs.length
  · refine .inr ⟨hlt, ⟨xs, xs[i], q, by simp [hlt]⟩, fun x H' y => ?_⟩
    obtain ⟨e, y⟩ := y
    subst e
    exact hs i x ys _ (y xs q) p
  · have e : i = xs.length := by omega
    subst e
    exact .inl ⟨⟨xs, q, Nat.le_refl _⟩, hd ys H p⟩
theorem comp_range {lo : Int} {n : Nat} {js : List Nat} {tc : TT} {te : TE} {σ : St} {H1 : Hp} {Q : VK} {acc : Addr} (Pv : Nat → List V → Hp → Prop) (h0 : Pv 0 [] (upd H1 acc (.lst []))) (hl : ∀ i ys H, Pv i ys H → i ≤ n)
    (hs : ∀ i ys H, i < n → Pv i ys H → tc (some (.int (lo + i)) :: impS σ js) H fun b H2 => if b = true then te (some (.int (lo + i)) :: impS σ js) H2 fun y H3 => H3 acc = some (.lst ys) ∧ ys.length < sizeLine ∧ Pv (i + 1) (ys ++ [y]) (upd H3 acc (.lst (ys ++ [y]))) else Pv (i + 1) ys H2)
    (hd : ∀ ys H, Pv n ys H → Q (.ref acc) H) :
    CompT (Itr lo n) js tc te σ acc H1 Q := by
  refine ⟨n, Pv, h0, fun i ys H p => ?_⟩
  have hi := hl i ys H p
  by_cases hlt : i < n
  · refine .inr ⟨hlt, hlt, fun x H' y => ?_⟩
    obtain ⟨e, y⟩ := y
    subst e y
    exact hs i ys _ hlt p
  · have e : i = n := by omega
    subst e
    exact .inl ⟨Nat.le_refl _, hd ys H p⟩
theorem bools_get {bs : List Bool} {its : List Value} (r : Vals (bs.map V.bl) its) {i : Nat} {v : Value} (h : its[i]? = some v) : ∃ b, bs[i]? = some b ∧ v = .bool b := by
  have hl := r.length
  rw [List.length_map] at hl
  have hi : i < bs.length := by rw [hl]; exact (List.getElem?_eq_some_iff.mp h).1
  obtain ⟨u, hu, ru⟩ := r.get (i := i) (x := V.bl bs[i]) (by simp [hi])
  rw [h] at hu
  cases hu
  exact ⟨bs[i], by simp [hi], ru⟩
section
variable {X : Cx}
theorem call_all (hc : X.calm = true) : CallR X (.builtin "all") (fun xs H Q => ∃ (p : Addr) (bs : List Bool), xs = [.ref p] ∧ SqL X.K H p (bs.map V.bl) ∧ Q (.bl (bs.all id)) H) := by
  intro pins s σ H xs us Q I r h
  obtain ⟨p, bs, rfl, hq, q⟩ := h
  obtain ⟨u, rfl, rx⟩ := vals1 r
  cases rx
  obtain ⟨its, rv, pl, hz⟩ := I.list hq
  have hl := pl.isList
  have hlt : p < s.heap.objs.size := by obtain ⟨_, e, _⟩ := hl; exact Heap.lt_size e
  have hlen := rv.length
  rw [List.length_map] at hlen
  refine call_all_walk (wpAny_pyIter_list hl ?_)
  refine ⟨s.heap.objs.size, [s.heap.objs.size, p], [s.heap.objs.size], its.toArray.size, _, _, fun i => (bs[i]?).getD true, rfl, Walks.list (A := X.A.in1) (I.ok.hd hc) _ p (Nat.ne_of_lt hlt) its.toArray,
    ⟨⟨_, Heap.get?_push_size _ rfl, rfl, rfl⟩, hl.push _⟩, fun i v s' Q' E' hP hQ => ?_, fun h' tk hk => ?_⟩
  · obtain ⟨b, e, rfl⟩ := bools_get rv (i := i) (v := v) (by simpa using hP)
    simp only [e, Option.getD_some] at hQ
    exact wpAny_truthy_bool hQ
  · have e : ((List.range its.toArray.size).all fun i => (bs[i]?).getD true) = bs.all id := by
      rw [List.size_toArray, ← hlen]; exact LSm.range_all bs
    rw [e]
    exact ⟨.bl _, H, I.kept (LSm.kept_iter hk), rfl, q⟩
def rIsi (K : PySem.W.Frag) : List V → Hp → VK → Prop := fun xs H Q => ∃ x T t b, xs = [x, .ty T] ∧ TyOf K H x t ∧ PySem.W.kitOne K t (.type T) = some b ∧ Q (.bl b) H
theorem call_isinst : CallR X (.builtin "isinstance") (rIsi X.K) := by
  intro pins s σ H xs us Q I r h
  obtain ⟨x, T, t, b, rfl, ty, e, q⟩ := h
  obtain ⟨u, v, rfl, rx, ry⟩ := r.two
  cases ry
  exact isinst_ok I rx ty e fun tk => ⟨.bl b, H, I.tok tk, rfl, q⟩
def eqVs : List V → List V → Bool
  | [], [] => true
  | x :: xs, y :: ys => eqV x y && eqVs xs ys
  | _, _ => false
theorem eqVs_len : ∀ {xs ys : List V}, xs.length ≠ ys.length → eqVs xs ys = false
  | [], [], h => absurd rfl h
  | [], _ :: _, _ => rfl
  | _ :: _, [], _ => rfl
  | x :: xs, y :: ys, h => by
    show (eqV x y && eqVs xs ys) = false
    rw [eqVs_len (xs := xs) (ys := ys) (fun e => h (by rw [List.length_cons, List.length_cons, e])), Bool.and_false]
theorem range_all_succ (n : Nat) (e : Nat → Bool) : (List.range (n + 1)).all e = (e 0 && (List.range n).all fun i => e (i + 1)) := by
  rw [List.range_succ_eq_map, List.all_cons, List.all_map]
  rfl
theorem eqVs_range : ∀ (xs ys : List V), xs.length = ys.length → (List.range xs.length).all (fun j => eqV ((xs[j]?).getD .non) ((ys[j]?).getD .non)) = eqVs xs ys
  | [], [], _ => rfl
  | [], _ :: _, h => by cases h
  | _ :: _, [], h => by cases h
  | x :: xs, y :: ys, h => by
    have ih := eqVs_range xs ys (by simpa using h)
    rw [List.length_cons, range_all_succ]
    simp only [List.getElem?_cons_zero, Option.getD_some, List.getElem?_cons_succ]
    rw [ih]
    rfl
theorem eqVs_ints : ∀ (ns ms : List Int), eqVs (ns.map V.int) (ms.map V.int) = decide (ns = ms)
  | [], [] => by simp [eqVs]
  | [], _ :: _ => by simp [eqVs]
  | _ :: _, [] => by simp [eqVs]
  | n :: ns, m :: ms => by
    have ih := eqVs_ints ns ms
    show ((n == m) && eqVs (ns.map V.int) (ms.map V.int)) = _
    rw [ih, Bool.eq_iff_iff]
    simp
def rEqL (K : PySem.W.Frag) (neg : Bool) : R2 := fun x y H Q => ∃ a b xs ys, x = .ref a ∧ y = .ref b ∧ SqL K H a xs ∧ SqL K H b ys ∧ xs.all flatV = true ∧ ys.all flatV = true ∧ Q (.bl (if neg then !eqVs xs ys else eqVs xs ys)) H
theorem items_eqAt {A : Around} {s : Shared} {xs ys : List V} {us ws : List Value} (rx : Vals xs us) (ry : Vals ys ws) (fx : xs.all flatV = true) (fy : ys.all flatV = true) :
    ∀ j (h1 : j < us.toArray.size) (h2 : j < ws.toArray.size), SeqAt.EqAt A s us.toArray[j] ws.toArray[j] (eqV ((xs[j]?).getD .non) ((ys[j]?).getD .non)) := fun j h1 h2 => by
  have l1 := rx.length
  have l2 := ry.length
  have h1' : j < xs.length := by simpa [l1] using h1
  have h2' : j < ys.length := by simpa [l2] using h2
  obtain ⟨u, hu, ru⟩ := rx.get (i := j) (x := xs[j]) (by simp [h1'])
  obtain ⟨w, hw, rw'⟩ := ry.get (i := j) (x := ys[j]) (by simp [h2'])
  have eu : us.toArray[j] = u := by
    have := List.getElem?_eq_some_iff.mp hu
    obtain ⟨_, e⟩ := this
    simpa using e
  have ew : ws.toArray[j] = w := by
    have := List.getElem?_eq_some_iff.mp hw
    obtain ⟨_, e⟩ := this
    simpa using e
  rw [eu, ew, List.getElem?_eq_getElem h1', List.getElem?_eq_getElem h2', Option.getD_some, Option.getD_some]
  exact eqAt_V ru rw' (List.all_eq_true.mp fx _ (List.getElem_mem h1')) (List.all_eq_true.mp fy _ (List.getElem_mem h2'))
theorem op_neL (hu : X.A.units < cLine) : OpR X (compareOp .NotEq) (rEqL X.K true) := by
  intro pins s σ H x y v u Q I rx ry h
  obtain ⟨a, b, xs, ys, rfl, rfl, ha, hb, fx, fy, q⟩ := h
  cases rx
  cases ry
  obtain ⟨us, r1, p1, z1⟩ := I.list ha
  obtain ⟨ws, r2, p2, z2⟩ := I.list hb
  have l1 := r1.length
  have l2 := r2.length
  by_cases hl : xs.length = ys.length
  · refine SeqAt.RcNeAt.lists p1.isList p2.isList (by simp; omega) hu (items_eqAt r1 r2 fx fy) _ _ _ _ ?_
    refine fin_bl I q ?_
    rw [if_pos rfl, List.size_toArray, ← l1, eqVs_range xs ys hl]
  · refine SeqAt.RcNeAt.lists_lengths p1.isList p2.isList (by simp; omega) hu _ _ _ _ (fin_bl I q ?_)
    rw [if_pos rfl, eqVs_len hl]
    rfl
end
end L2
set_option maxHeartbeats 4000000
namespace L2
open PySem PySem.Spec PyProof.Rows
theorem vals_refs {α : Type} (f : α → Addr) : ∀ {ps : List α} {us : List Value}, Vals (ps.map fun e => V.ref (f e)) us → us = ps.map fun e => Value.ref (f e)
  | [], _, r => by cases r; rfl
  | p :: ps, _, r => by
    cases r with
    | cons r1 r2 =>
      cases r1
      rw [List.map_cons, vals_refs f r2]
section
variable {X : Cx}
theorem ints_flat (ns : List Int) : (ns.map V.int).all flatV = true := by
  rw [List.all_map, List.all_eq_true]
  intro n _
  rfl
theorem nums_inj {ns ms : List Int} (h : ns.map V.int = ms.map V.int) : ns = ms := by
  have f : ∀ l : List Int, (l.map V.int).map (fun v => match v with
    | .int i => i
    | _ => 0) = l := fun l => by
    rw [List.map_map]
    exact List.map_id l
  have := congrArg (List.map fun v : V => match v with
    | .int i => i
    | _ => 0) h
  rw [f, f] at this
  exact this
theorem rc_nums {pins : List (Addr × Obj)} {s : Shared} {σ : St} {H : Hp} {A : Around} {a b : Addr} {ns ms : List Int} (I : Inv X pins σ H s) (hu : A.units < cLine) (ha : SqL X.K H a (ns.map V.int)) (hb : SqL X.K H b (ms.map V.int)) :
    SeqAt.EqAt A s (.ref a) (.ref b) (decide (ns = ms)) := by
  by_cases hab : a = b
  · subst hab
    rw [nums_inj (I.list_inj ha hb), decide_eq_true rfl]
    exact SeqAt.EqAt.same _
  · refine SeqAt.EqAt.of_refs hab ?_
    obtain ⟨us, r1, p1, z1⟩ := I.list ha
    obtain ⟨ws, r2, p2, z2⟩ := I.list hb
    have l1 := r1.length
    have l2 := r2.length
    by_cases hl : ns.length = ms.length
    · have := SeqAt.RcAt.lists (A := A) p1.isList p2.isList (by rw [List.size_toArray, List.size_toArray, ← l1, ← l2, List.length_map, List.length_map]; exact hl) hu (items_eqAt r1 r2 (ints_flat ns) (ints_flat ms))
      rw [List.size_toArray, ← l1, eqVs_range _ _ (by rw [List.length_map, List.length_map]; exact hl), eqVs_ints] at this
      exact this
    · rw [decide_eq_false (fun e => hl (by rw [e]))]
      exact SeqAt.RcAt.lists_lengths p1.isList p2.isList (by
        rw [List.size_toArray, List.size_toArray, ← l1, ← l2, List.length_map, List.length_map]
        simpa using hl) hu
theorem range_eqs : ∀ (ps qs : List (Addr × List Int)), ps.length = qs.length → (List.range ps.length).all (fun j => decide (((ps[j]?).getD (0, [])).2 = ((qs[j]?).getD (0, [])).2)) = decide (ps.map (·.2) = qs.map (·.2))
  | [], [], _ => rfl
  | [], _ :: _, h => by cases h
  | _ :: _, [], h => by cases h
  | p :: ps, q :: qs, h => by
    have ih := range_eqs ps qs (by simpa using h)
    rw [List.length_cons, range_all_succ]
    simp only [List.getElem?_cons_zero, Option.getD_some, List.getElem?_cons_succ]
    rw [ih, Bool.eq_iff_iff]
    simp
def rEqLL (K : PySem.W.Frag) (neg : Bool) : R2 := fun x y H Q => ∃ (a b : Addr) (ps qs : List (Addr × List Int)), x = .ref a ∧ y = .ref b ∧ SqL K H a (ps.map fun e => V.ref e.1) ∧ SqL K H b (qs.map fun e => V.ref e.1) ∧
  (∀ e ∈ ps, SqL K H e.1 (e.2.map V.int)) ∧ (∀ e ∈ qs, SqL K H e.1 (e.2.map V.int)) ∧ Q (.bl (if neg then !decide (ps.map (·.2) = qs.map (·.2)) else decide (ps.map (·.2) = qs.map (·.2)))) H
theorem items_eqLL {pins : List (Addr × Obj)} {s : Shared} {σ : St} {H : Hp} {A : Around} {ps qs : List (Addr × List Int)} (I : Inv X pins σ H s) (hu : A.units < cLine) (hp : ∀ e ∈ ps, SqL X.K H e.1 (e.2.map V.int)) (hq : ∀ e ∈ qs, SqL X.K H e.1 (e.2.map V.int)) :
    ∀ j (h1 : j < (ps.map fun e => Value.ref e.1).toArray.size) (h2 : j < (qs.map fun e => Value.ref e.1).toArray.size), SeqAt.EqAt A s (ps.map fun e => Value.ref e.1).toArray[j] (qs.map fun e => Value.ref e.1).toArray[j] (decide (((ps[j]?).getD (0, [])).2 = ((qs[j]?).getD (0, [])).2)) := fun j h1 h2 => by
  have h1' : j < ps.length := by simpa using h1
  have h2' : j < qs.length := by simpa using h2
  rw [List.getElem?_eq_getElem h1', List.getElem?_eq_getElem h2', Option.getD_some, Option.getD_some]
  have e1 : (ps.map fun e => Value.ref e.1).toArray[j] = .ref ps[j].1 := by simp
  have e2 : (qs.map fun e => Value.ref e.1).toArray[j] = .ref qs[j].1 := by simp
  rw [e1, e2]
  exact rc_nums I hu (hp _ (List.getElem_mem h1')) (hq _ (List.getElem_mem h2'))
theorem op_eqLL (hu : X.A.units + 1 < cLine) : OpR X (compareOp .Eq) (rEqLL X.K false) := by
  intro pins s σ H x y v u Q I rx ry h
  obtain ⟨a, b, ps, qs, rfl, rfl, ha, hb, hp, hq, q⟩ := h
  cases rx
  cases ry
  obtain ⟨us, r1, p1, z1⟩ := I.list ha
  obtain ⟨ws, r2, p2, z2⟩ := I.list hb
  have e1 := vals_refs _ r1
  have e2 := vals_refs _ r2
  subst e1 e2
  rw [if_neg Bool.false_ne_true] at q
  by_cases hl : ps.length = qs.length
  · refine SeqAt.eq_listAt p1.isList p2.isList (by simpa using hl) (by omega) (items_eqLL I (by show X.A.units + 1 < cLine; omega) hp hq) (fin_bl I q ?_)
    rw [List.size_toArray, List.length_map, range_eqs ps qs hl]
  · refine SeqAt.eq_list_lengthsAt p1.isList p2.isList (by simpa using hl) (by omega) (fin_bl I q ?_)
    exact decide_eq_false fun e => hl (by have := congrArg List.length e; simpa using this)
end
end L2
set_option maxHeartbeats 4000000
namespace L2
open PySem PySem.Spec PyProof.Rows
section
variable {P : Program} {w : World} {A : Around} {s : Shared} {l I S : Addr} {kid : String} {vs : List Value} {R : Result → Shared → Prop}
end
section
variable {X : Cx}
def one1 (B : V → Hp → Prop) : List V → Hp → Prop
  | [x], H => B x H
  | _, _ => False
def Ite (K : PySem.W.Frag) (a : Addr) : It :=
  ⟨fun i H => ∃ xs x, SqL K H a xs ∧ xs[i]? = some x, fun i H y H' => ∃ T, H T = none ∧ y = .ref T ∧ ∃ x, (∀ xs, SqL K H a xs → xs[i]? = some x) ∧ H' = upd H T (.tup [.int i, x]), fun i H => ∃ xs, SqL K H a xs ∧ xs.length ≤ i⟩
theorem turn_enum {P : Program} {w : World} {K : PySem.W.Frag} {elts : List Expr} {x1} {tp : Pos} (a e it : Addr) (hei : e ≠ it) : Turn P w K (.Tuple elts x1 tp) (Ite K a) [e, it] e (fun i h => (∃ old, IsEnum h e it i old) ∧ h.IsListIter it a i) where
  mem := by simp
  obj := fun i h st b hb => by
    obtain ⟨⟨old, he⟩, o, e2, c, d⟩ := st
    rcases List.mem_cons.mp hb with rfl | hb
    · exact ⟨_, he, fun v z => by
        have z' : Data.fields _ = Data.cell v := z
        cases z'⟩
    · have e1 : b = it := by simpa using hb
      subst e1
      exact ⟨o, e2, fun v z => by rw [d] at z; cases z⟩
  keep := fun i h h' st k => by
    obtain ⟨⟨old, he⟩, hit⟩ := st
    exact ⟨⟨old, k e (by simp) _ he⟩, hit.at fun o q => k it (by simp) o q⟩
  item := by
    intro X hP hw hK hc i pins s σ H E I hf st hg
    subst hP hw hK
    obtain ⟨xs, x, hq, hx⟩ := hg
    obtain ⟨its, rv, p, hz⟩ := I.list hq
    obtain ⟨u, hu, ru⟩ := rv.get hx
    obtain ⟨⟨old, he⟩, hit⟩ := st
    obtain ⟨f0, f1, f2, f3, f4, f5⟩ := hf it (by simp)
    obtain ⟨g0, g1, g2, g3, g4, g5⟩ := hf e (by simp)
    have helt : e < s.heap.objs.size := Heap.lt_size he
    have hilt : it < s.heap.objs.size := by
      obtain ⟨o, q, _⟩ := id hit
      exact Heap.lt_size q
    refine wpAny_pyNext_enum_item he hit p.isList (x := u) (by simpa using hu) hei fun h1 ho1 hit1 hT1 hz1 k1 => ⟨_, rfl, ?_⟩
    refine wpAny_letOwnedTupleGo_enum ho1 fun h2 he2 sb2 => ?_
    have sb2' : Heap.SameBut e h1 h2 := sb2
    have I0 : Inv X pins σ (upd H s.heap.objs.size (.tup [.int i, x])) { s with heap := s.heap.push { cls := .type "tuple", data := .seq #[.int i s.toks, u] }, toks := s.toks + 1 } :=
      I.laid (o := .tup [.int i, x]) (fun b o q => Heap.get?_push_of_some _ q) (Nat.le_refl _) ⟨(by show 2 ≤ sizeLine; decide), [.int i s.toks, u], .cons ⟨_, rfl⟩ (.cons ru .nil), _, Heap.get?_push_size _ rfl, rfl, _, rfl⟩
    have fit : (upd H s.heap.objs.size (.tup [.int i, x])) it = none := by rw [upd_ne (Nat.ne_of_lt hilt)]; exact f0
    have fie : (upd H s.heap.objs.size (.tup [.int i, x])) e = none := by rw [upd_ne (Nat.ne_of_lt helt)]; exact g0
    have he2' : h2.get? e = some _ := he2
    have gself : ((h2.update e fun _ => { cls := .type "enumerate", dict := none, data := .fields #[.none, .bool false, .ref it, rawInt i, .none, old], slots := #[] }).get? e) = some { cls := .type "enumerate", dict := none, data := .fields #[.none, .bool false, .ref it, rawInt i, .none, old], slots := #[] } := Heap.get?_update_self _ he2' rfl
    have I1 := I0.turned (h' := h2.update e fun _ => { cls := .type "enumerate", dict := none, data := .fields #[.none, .bool false, .ref it, rawInt i, .none, old], slots := #[] }) (t' := s.toks + 1) (it := it) (fun b o hb q => by
        by_cases hbe : b = e
        · subst hbe
          rcases Heap.get?_push_cases q with ⟨z, _⟩ | q
          · exact absurd z (Nat.ne_of_lt helt)
          · have he' : s.heap.get? b = some _ := he
            rw [he'] at q
            cases q
            exact gself
        · rw [Heap.get?_update_ne _ _ _ _ hbe, sb2'.2 b hbe]
          rcases Heap.get?_push_cases q with ⟨rfl, rfl⟩ | q
          · exact hT1
          · exact k1 b o hbe hb q) fit f1 f3 f4 f5
    have I2 := I1.turned (h' := h2) (t' := s.toks + 1) (it := e) (fun b o hb q => by
        have q' : (h2.update e fun _ => { cls := .type "enumerate", dict := none, data := .fields #[.none, .bool false, .ref it, rawInt i, .none, old], slots := #[] }).get? b = some o := q
        rw [Heap.get?_update_ne _ _ _ _ hb] at q'
        exact q') fie g1 g3 g4 g5
    refine ⟨.ref s.heap.objs.size, _, I2, rfl, ⟨_, I.hok.fresh (Nat.le_refl _), rfl, x, fun ys hy => by rw [I.list_inj hy hq]; exact hx, rfl⟩, ⟨⟨u, he2⟩, hit1.at fun o q => (sb2'.2 it hei.symm).trans q⟩, fun b hb => ?_⟩
    rcases List.mem_cons.mp hb with rfl | hb
    · exact fie
    · have e1 : b = it := by simpa using hb
      subst e1
      exact fit
  done := by
    intro X hP hw hK hc i pins s σ H E I hf st hg
    subst hP hw hK
    obtain ⟨xs, hq, hx⟩ := hg
    obtain ⟨its, rv, p, hz⟩ := I.list hq
    obtain ⟨⟨old, he⟩, hit⟩ := st
    obtain ⟨f0, f1, f2, f3, f4, f5⟩ := hf it (by simp)
    have hl := rv.length
    exact wpAny_pyNext_enum_end (I.ok.hd hc) he hit p.isList (by simp; omega) fun h' eb => ⟨rfl, I.turned (t' := s.toks) (fun b o hb q => eb b o hb q) f0 f1 f3 f4 f5⟩
  self := fun _ _ _ _ _ st h => by
    obtain ⟨⟨old, he⟩, _⟩ := st
    exact wpAny_pyIter_enum he h
def iEnum (K : PySem.W.Frag) (ta : TA) : TI := fun σ H R => ta σ H (one1 fun x H1 => ∃ a, x = .ref a ∧ (∃ xs, SqL K H1 a xs) ∧ R (Ite K a) H1)
theorem pi_enum {elts : List Expr} {x1} {tp : Pos} {l : Expr} {ta : TA} {p pos : Pos} (hm : X.mg "enumerate" = none) (hl : PA X [l] ta) (hg : Gl X "enumerate" := by rfl)
    (hs : starEach [l] X.env = (false, eval l X.env) :: starEach [] X.env := by rfl) (hpl : (backTo pos (starEach [] X.env)).any (·.1) = false := by rfl) : PI X (.Tuple elts x1 tp) (.Call (.Name "enumerate" p) [l] [] pos) (iEnum X.K ta) := by
  intro pins s σ H R I h
  refine wpAny_Call_Name_kw (ld_blt I hg hm PyProof.Rows.boot_enumerate ?_)
  refine PyProof.Rows.callWith_type1 (thn (hl pos pins s σ H _ I h) fun us s1 ⟨vs, H1, I1, r1, q1⟩ => ?_) hs hpl
  match vs, q1 with
  | [x], q1 =>
  obtain ⟨a, rfl, ⟨xs, hq⟩, q⟩ := q1
  obtain ⟨u, rfl, rx⟩ := vals1 r1
  cases rx
  obtain ⟨its, rv, pl, hz⟩ := I1.list hq
  refine call_enumerate_list pl.isList fun h' he hit hz' k => ?_
  refine wpAny_pyIter_enum he ?_
  have I2 : Inv X pins σ H1 { s1 with heap := h' } := I1.kept (t' := s1.toks) k
  refine ⟨s1.heap.objs.size + 1, [s1.heap.objs.size + 1, s1.heap.objs.size], _, _, H1, rfl, I2, turn_enum a (s1.heap.objs.size + 1) s1.heap.objs.size (Nat.succ_ne_self _), ⟨⟨_, he⟩, hit⟩, fun b hb => ?_, q⟩
  rcases List.mem_cons.mp hb with rfl | hb
  · exact I1.fpOk (Nat.le_succ _) (I1.hok.fresh (Nat.le_succ _))
  · have e : b = s1.heap.objs.size := by simpa using hb
    subst e
    exact I1.fpOk (Nat.le_refl _) (I1.hok.fresh (Nat.le_refl _))
theorem for_enum {K : PySem.W.Frag} {a : Addr} {xs : List V} {g : TG} {tb : TS} {D : Ends} {σ : St} {H : Hp} (Pv : Nat → St → Hp → Prop) (h0 : Pv 0 σ H) (hl : ∀ i σ H, i ≤ xs.length → Pv i σ H → SqL K H a xs)
    (hs : ∀ i x σ H T, xs[i]? = some x → Pv i σ H → H T = none → g (.ref T) σ (upd H T (.tup [.int i, x])) fun σ2 H2 => tb { D with nx := Pv (i + 1), ct := Pv (i + 1), bk := D.nx } σ2 H2) (hd : ∀ σ H, Pv xs.length σ H → D.nx σ H) :
    ∃ W : Nat → Nat → St → Hp → Prop, (∃ m, W 0 m σ H) ∧ ∀ i m σ H, W i m σ H →
      ((Ite K a).stop i H ∧ D.nx σ H) ∨ ((Ite K a).go i H ∧ ∃ N : St → Hp → Prop, (∀ σ' H', N σ' H' → ∃ m', m' < m ∧ W (i + 1) m' σ' H') ∧ ∀ x H', (Ite K a).yld i H x H' → g x σ H' fun σ2 H2 => tb { D with nx := N, ct := N, bk := D.nx } σ2 H2) := by
  refine ⟨fun i m σ H => m = xs.length - i ∧ i ≤ xs.length ∧ Pv i σ H, ⟨_, rfl, Nat.zero_le _, h0⟩, ?_⟩
  rintro i m σ H ⟨rfl, hi, p⟩
  have hq := hl i σ H hi p
  by_cases hlt : i < xs.length
  · refine .inr ⟨⟨xs, xs[i], hq, List.getElem?_eq_getElem hlt⟩, Pv (i + 1), fun σ' H' p' => ⟨_, by omega, rfl, hlt, p'⟩, fun x H' y => ?_⟩
    obtain ⟨T, hT, rfl, z, hz, rfl⟩ := y
    exact hs i z σ _ T (hz xs hq) p hT
  · have e : i = xs.length := by omega
    subst e
    exact .inl ⟨⟨xs, hq, Nat.le_refl _⟩, hd σ H p⟩
end
end L2
namespace L2
open PySem PySem.Spec PyProof.Rows Builtin.ObjectAttr Builtin.Getset_descriptor
def ExcObj (x C : Addr) (h : Heap) : Prop := ∃ o, h.get? x = some o ∧ o.cls = .ref C ∧ ∃ vs, o.data = .fields vs ∧ vs[2]? = some .none
structure ExcC (K : PySem.W.Frag) (C : Addr) : Prop where
  ex : PySem.W.excIn K C [.type "ValueError", .type "Exception", .type "BaseException", .type "object"] "ValueError.__new__" = true
  ga : PySem.W.findIn K (.ref C) "__getattribute__" = some (some (.builtin "BaseException.__getattribute__"))
  gr : PySem.W.findIn K (.ref C) "__getattr__" = some none
  ha : PySem.W.findIn K (.ref C) "__class__" = some (some (.builtin "object.__class__"))
  hn : PySem.W.specialIn K (.builtin "object.__class__") "__get__" = some (some (.builtin "getset_descriptor.__get__"))
  tk : PySem.W.takesIn K (.builtin "object.__class__") = some true
  ob : PySem.W.mroIn K C (.type "object") = some true
  bs : PySem.W.mroIn K C (.type "BaseException") = some true
section
variable {prog : Program} {w : World} {A : Around} {E : Value → Shared → Prop} {s : Shared} {K : PySem.W.Frag} {x C : Addr} {R : Result → Shared → Prop}
theorem ExcObj.type {M : Model} {h : Heap} (p : ExcObj x C h) : PySem.W.Looks M h (typeOf (.ref x)) (.ref C) := by
  obtain ⟨o, h1, h2, _⟩ := p
  exact h2 ▸ (PySem.W.Looks.ld h1).andThen .now
open PySem.W in
theorem exc_class_get {tp : Value} (X : K.In s.heap) (p : ExcObj x C s.heap) (Z : ExcC K C) (h : R (.ok (.ret (.ref C))) s) :
    codeAny (model prog w) A (.call (.builtin "getset_descriptor.__get__") ⟨[.builtin "object.__class__", .ref x, tp], []⟩) R s := by
  obtain ⟨hh, g, dr, t, os⟩ := s
  have T0 := p.type (M := model prog w)
  have T1 := looks_mroIn (M := model prog w) X Z.ob
  refine codeAny_call_builtin KF.slot_gs.plain KF.entry_gs (KF.slot_gs.check _ _ _ _ _ _ _ _ KF.type_class (KF.args_gs _ _ _) ?_)
  unfold Builtin.«getset_descriptor.__get__» descrGet
  rw [dga_obj]
  refine wpAny_bind (wpAny_pure ?_)
  unfold descrGetter descrCheckInstance descrNameAndClass isInstance
  simp only [KF.owner_class]
  repeat lk
  refine ⟨Code.quiet_builtin _ (by decide +kernel), codeAny_builtin KF.entry_class ?_⟩
  unfold Builtin.«object.__class__» shownTypeOf
  repeat lk
  exact h
open PySem.W in
theorem exc_find {M : Model} {h : Heap} (X : K.In h) (Z : ExcC K C) : Looks M h (find (.ref x) (.ref C) "__class__") (.bind (.builtin "getset_descriptor.__get__") (.builtin "object.__class__")) := by
  have T1 := looks_findIn (M := M) X Z.ha
  have T2 : Looks M h (getOf (some (.builtin "object.__class__"))) (some (.builtin "getset_descriptor.__get__")) := looks_specialIn X Z.hn
  have T3 := looks_takesIn (M := M) X Z.tk
  refine T1.andThen (T2.andThen ?_)
  exact (show Looks M h (dataDescriptor? (some (.builtin "object.__class__")) (some (.builtin "getset_descriptor.__get__"))) (some (.builtin "getset_descriptor.__get__", .builtin "object.__class__")) from T3.andThen .now).andThen (Looks.tag .now)
open PySem.W in
theorem exc_ga {tk : Tok} {Q : Fin → Shared → Prop} (X : K.In s.heap) (p : ExcObj x C s.heap) (Z : ExcC K C) (h : Q (.done (.ret (.ref C))) s) :
    wpAny (model prog w) A (Builtin.«object.__getattribute__» ⟨[.ref x, .str "__class__" tk], []⟩) Q E s := by
  obtain ⟨hh, g, dr, t, os⟩ := s
  have T0 := p.type (M := model prog w)
  have T1 := exc_find (M := model prog w) (x := x) X Z
  unfold Builtin.«object.__getattribute__»
  refine wpAny_bind (wpAny_pure ?_)
  refine wpAny_bind (wpAny_pure ?_)
  refine wpAny_bind (T0.at ?_)
  refine wpAny_bind (T1.at ?_)
  show wpAny _ _ (holding [.builtin "object.__class__"] (call (.builtin "getset_descriptor.__get__") [.builtin "object.__class__", .ref x, .ref C]) >>= ret) _ _ _
  exact wpAny_bind (wpAny_holding (wpAny_call (exc_class_get X p Z (wpAny_pure h))))
open PySem.W in
theorem exc_check {M : Model} {nameV : Value} {Q : Unit → Shared → Prop} (X : K.In s.heap) (p : ExcObj x C s.heap) (Z : ExcC K C) (h : Q () s) : wpAny M A (checkBuiltinCall "BaseException.__getattribute__" ⟨[.ref x, nameV], []⟩) Q E s := by
  obtain ⟨hh, g, dr, t, os⟩ := s
  have hk : builtinKind "BaseException.__getattribute__" = some .slot := by decide +kernel
  have hs : splitId "BaseException.__getattribute__" = some ("BaseException", "__getattribute__") := by decide +kernel
  have ha := PySem.F.args_bexc_ga (.ref x) nameV
  have LI : Looks M hh (isInstance (.ref x) (.type "BaseException")) true := p.type.andThen (looks_mroIn X Z.bs)
  simp only [checkBuiltinCall, hk, hs]
  refine wpAny_bind (LI.at ?_)
  repeat (first | assumption | wp_step)
open PySem.W in
theorem exc_class {Q : Option Value → Shared → Prop} (X : K.In s.heap) (p : ExcObj x C s.heap) (Z : ExcC K C) (h : Q (some (.ref C)) { s with toks := s.toks + 1 }) : wpAny (model prog w) A (getAttr? (.ref x) "__class__") Q E s := by
  obtain ⟨hh, g, dr, t, os⟩ := s
  have T0 := p.type (M := model prog w)
  have T1 := looks_findIn (M := model prog w) X Z.ga
  have T2 := looks_findIn (M := model prog w) X Z.gr
  have f3 := PySem.F.attr_ValueError.ga.bind (.ref x)
  have hx2 : (Value.builtin "BaseException.__getattribute__" == Value.builtin "object.__getattribute__") = false := by decide +kernel
  have hx1 : (onTheHeap (Value.ref C) && Value.builtin "BaseException.__getattribute__" == Value.builtin "object.__getattribute__") = false := by rw [hx2]; rfl
  unfold getAttr? getAttrBy? getAttrBy
  refine wpAny_bind (wpAny_mkText (wpAny_bind (wpAny_attempt (wpAny_holding (wpAny_bind (T0.at (wpAny_bind (T1.at ?_))))))))
  show wpAny _ _ (if (onTheHeap (Value.ref C) && Value.builtin "BaseException.__getattribute__" == Value.builtin "object.__getattribute__") = true then _ else _) _ _ _
  rw [if_neg (by rw [hx1]; exact Bool.false_ne_true)]
  unfold getAttrByItsOwn
  refine wpAny_bind (show wpAny _ _ (typeLookup (.ref C) "__getattr__") _ _ _ from T2.at ?_)
  refine wpAny_bind (wpAny_attempt (wpAny_holding ?_))
  show wpAny _ _ (boundAndCalled _ _ _) _ _ _
  unfold boundAndCalled
  rw [f3]
  refine wpAny_bind (wpAny_pure ?_)
  refine wpAny_call (codeAny_call_builtin PySem.F.attr_ValueError.ga.plain PySem.F.entry_bexc_ga (exc_check X p Z (exc_ga X p Z ?_)))
  exact wpAny_pure (wpAny_pure h)
open PySem.W in
theorem kitx_exc (Z : ExcC K C) : KitX K (.ref x) (.ref C) (ExcObj x C) where
  ty := fun _ _ _ p => p.type
  it := fun _ _ X _ => by
    have hb := Z.ob
    unfold mroIn clsIn at hb
    split at hb
    · rename_i c' d' cd' sl' ho
      intro A' Q' E' s' k q
      unfold isType loadHead
      exact wpAny_bind (wpAny_loadPart (k _ _ (X _ _ ho)) (wpAny_pure q))
    · cases hb
  ne := fun h tp dd its n sl X htp => by
    have hb := Z.ob
    refine Bool.eq_false_iff.mpr fun q => ?_
    obtain rfl : C = tp := Value.ref.inj (beq_iff_eq.mp q)
    unfold mroIn clsIn at hb
    split at hb
    · rename_i c' d' cd' sl' ho
      have z := (X _ _ ho).symm.trans htp
      cases z
    · cases hb
  ca := fun X p k => exc_class X p Z k
end
end L2
namespace L2
open PySem PySem.Spec PyProof.Rows
def TrX (h B : Heap) (e C : Addr) (fl : Value) : Prop := ∃ (oe : Obj) (vs : Array Value) (T : Addr) (oT : Obj) (ts : Array Value), (h.get? e = some oe ∧ oe.cls = .ref C ∧ oe.data = .fields vs ∧ vs[1]? = some (.ref T) ∧ vs[2]? = some .none) ∧
  (B.get? T = none ∧ T ≠ e ∧ h.get? T = some oT ∧ oT.data = .fields ts ∧ ts[3]? = some fl)
structure FlyX (B : Heap) (l : List Env) (e C : Addr) (fl : Value) (h : Heap) : Prop where
  stay : B.StaysIn h
  new : B.get? e = none
  frs : h.FunFrames B l
  tr : TrX h B e C fl
theorem FlyX.pop {B h : Heap} {env : Env} {l : List Env} {e C : Addr} {fl : Value} (f : FlyX B (env :: l) e C fl h) : FlyX B l e C fl h := ⟨f.stay, f.new, f.frs.2.2, f.tr⟩
section
variable {M : Model} {A : Around} {E : Value → Shared → Prop} {s : Shared} {B h : Heap} {env : Env} {outer l : List Env} {L e C n : Addr} {oe ob : Obj} {vs ts : Array Value} {Q : Unit → Shared → Prop} {fl v : Value} {i : Nat}
theorem put_self (he : h.get? e = some oe) (hd : oe.data = .fields vs) : (h.update e (Obj.mapFields (·.setIfInBounds i v))).get? e = some (Obj.mapFields (·.setIfInBounds i v) oe) :=
  Heap.get?_update_self _ he (Obj.isFreed_of_fields (Obj.data_mapFields hd _))
theorem put_other {b : Addr} (hb : b ≠ e) : (h.update e (Obj.mapFields (·.setIfInBounds i v))).get? b = h.get? b := Heap.get?_update_other _ _ (Ne.symm hb)
theorem not_rec {b : Addr} {o : Obj} (he : h.get? e = some oe) (hd : oe.data = .fields vs) (hb : h.get? b = some o) (nf : ∀ ws, o.data ≠ .fields ws) : b ≠ e := fun z => by
  subst z
  rw [he] at hb
  cases hb
  exact nf vs hd
theorem put_up (he : h.get? e = some oe) (hd : oe.data = .fields vs) : h.UpToSlots (h.update e (Obj.mapFields (·.setIfInBounds i v))) := fun b o hb nf => ⟨o.slots, (put_other (not_rec he hd hb nf)).trans hb⟩
theorem put_fr (he : h.get? e = some oe) (hd : oe.data = .fields vs) (hl : h.FunFrames B l) : (h.update e (Obj.mapFields (·.setIfInBounds i v))).FunFrames B l :=
  hl.of_keeps fun b o hb nf => ⟨o, (put_other (not_rec he hd hb nf)).trans hb, rfl⟩
theorem put_stay (hn : B.get? e = none) (st : B.StaysIn h) : B.StaysIn (h.update e (Obj.mapFields (·.setIfInBounds i v))) := fun b o hb => (put_other fun z => by rw [z, hn] at hb; cases hb).trans (st b o hb)
theorem entryX {head : Value} {had : Bool} (hfr : A.frames = some (env :: outer)) (hf : env.frame = some L) (st : B.StaysIn s.heap) (hn : B.get? e = none) (hl : s.heap.FunFrames B (env :: outer)) (he : s.heap.get? e = some oe) (hc : oe.cls = .ref C)
    (hd : oe.data = .fields vs) (h1 : 1 < vs.size) (h2 : vs[2]? = some .none) (k : ∀ h', FlyX B (env :: outer) e C (rawInt L) h' → s.heap.UpToSlots h' → Q () { s with heap := h' }) :
    wpAny M A (do let a ← frameOf env; let pl ← entryPlaceOf L had; let b ← EntryCells.newEntry head a .none (rawInt L) .none pl; setField (.ref e) 1 b) Q E s := by
  refine wpAny_bind (wpAny_frameOf_fun hfr hl hf fun h₁ q₁ => wpAny_bind (wpAny_entryPlaceOf fun pl hpl => ?_))
  unfold EntryCells.newEntry newFields
  refine wpAny_bind (wpAny_newObj_type ?_ (hpl.sizeOk5 _ _ _ _ _))
  have ne : e ∉ (env :: outer).filterMap (·.frame) := fun hm => by
    obtain ⟨_, o, ho, nf⟩ := hl.mem hm
    exact not_rec he hd ho nf rfl
  have e1 : h₁.get? e = some oe := (q₁.2.1 e ne).trans he
  have st1 : B.StaysIn h₁ := fun b o hb => (q₁.2.1 b fun hm => by rw [(hl.mem hm).1] at hb; cases hb).trans (st b o hb)
  have fr1 : h₁.FunFrames B (env :: outer) := hl.of_slotsOnly q₁
  have h3 : (([head, .ref L, .none, rawInt L, .none] ++ (if pl.isEmpty then List.replicate 6 Value.none else pl)).toArray)[3]? = some (rawInt L) := by simp
  generalize ([head, .ref L, .none, rawInt L, .none] ++ (if pl.isEmpty then List.replicate 6 Value.none else pl)).toArray = tv at h3
  have nT : h₁.objs.size ≠ e := Nat.ne_of_gt (Heap.lt_size e1)
  have kp : ∀ b o, h₁.get? b = some o → (h₁.push { cls := .type "traceback", dict := none, data := .fields tv }).get? b = some o := fun b o hb => Heap.get?_push_of_some _ hb
  have up1 : s.heap.UpToSlots (h₁.push { cls := .type "traceback", dict := none, data := .fields tv }) := fun b o hb _ => by
    obtain ⟨sl, z⟩ := q₁.2.2 b o hb
    exact ⟨sl, kp _ _ z⟩
  refine wpAny_setField (kp _ _ e1) hd h1 (k _ ⟨put_stay hn fun b o hb => kp _ _ (st1 b o hb), hn, put_fr (kp _ _ e1) hd (fr1.of_keeps fun b o hb _ => ⟨o, kp _ _ hb, rfl⟩), _, _, h₁.objs.size, _, tv, ⟨put_self (kp _ _ e1) hd, (Obj.cls_mapFields _ _).trans hc, Obj.data_mapFields hd _, ?_, ?_⟩, st1.fresh, nT, (put_other nT).trans (Heap.get?_push_size _ rfl), rfl, h3⟩ (up1.trans (put_up (kp _ _ e1) hd)))
  · simp [h1]
  · rw [Array.getElem?_setIfInBounds_ne (by decide)]
    exact h2
theorem noteX0 (hfr : A.frames = some (env :: outer)) (hf : env.frame = some L) (st : B.StaysIn s.heap) (hn : B.get? e = none) (hl : s.heap.FunFrames B (env :: outer)) (he : s.heap.get? e = some oe) (hc : oe.cls = .ref C)
    (hd : oe.data = .fields vs) (h1 : vs[1]? = some .none) (h2 : vs[2]? = some .none) (k : ∀ h', FlyX B (env :: outer) e C (rawInt L) h' → s.heap.UpToSlots h' → Q () { s with heap := h' }) : wpAny M A (noteFrame (.ref e) env) Q E s := by
  unfold noteFrame
  simp only [hf]
  refine wpAny_bind (wpAny_field he hd h1 ?_)
  rw [if_neg (by decide)]
  exact entryX hfr hf st hn hl he hc hd (Array.getElem?_eq_some_iff.mp h1).1 h2 k
theorem noteX (hfr : A.frames = some (env :: outer)) (hf : env.frame = some L) (f : FlyX B (env :: outer) e C .none s.heap) (k : ∀ h', FlyX B (env :: outer) e C (rawInt L) h' → s.heap.UpToSlots h' → Q () { s with heap := h' }) : wpAny M A (noteFrame (.ref e) env) Q E s := by
  obtain ⟨oe, vs, T, oT, ts, ⟨he, hc, hd, h1, h2⟩, hBT, nT, hT, hdT, h3⟩ := f.tr
  unfold noteFrame
  simp only [hf]
  refine wpAny_bind (wpAny_field he hd h1 ?_)
  rw [if_pos (by simp)]
  refine wpAny_bind (wpAny_field hT hdT h3 ?_)
  rw [if_neg (by simp [rawInt])]
  refine wpAny_bind (wpAny_setField hT hdT (Array.getElem?_eq_some_iff.mp h3).1 ?_)
  exact entryX hfr hf (put_stay hBT f.stay) f.new (put_fr hT hdT f.frs) ((put_other (Ne.symm nT)).trans he) hc hd (Array.getElem?_eq_some_iff.mp h1).1 h2 fun h' f' u' => k h' f' ((put_up hT hdT).trans u')
theorem landX (f : FlyX B l e C fl s.heap) (k : ∀ h', FlyX B l e C .none h' → s.heap.UpToSlots h' → Q () { s with heap := h' }) : wpAny M A (setFlight (.ref e) none) Q E s := by
  obtain ⟨oe, vs, T, oT, ts, ⟨he, hc, hd, h1, h2⟩, hBT, nT, hT, hdT, h3⟩ := f.tr
  have hz := (Array.getElem?_eq_some_iff.mp h3).1
  unfold setFlight
  refine wpAny_bind (wpAny_field he hd h1 ?_)
  rw [if_pos (by simp)]
  exact wpAny_setField hT hdT hz (k _ ⟨put_stay hBT f.stay, f.new, put_fr hT hdT f.frs, oe, vs, T, _, _, ⟨(put_other (Ne.symm nT)).trans he, hc, hd, h1, h2⟩, hBT, nT, put_self hT hdT, Obj.data_mapFields hdT _, by simp [hz]⟩ (put_up hT hdT))
theorem leaveX (hfr : A.frames = some (env :: outer)) (hf : env.frame = some L) (f : FlyX B (env :: outer) e C .none s.heap) (k : ∀ h', FlyX B outer e C .none h' → s.heap.UpToSlots h' → Q () { s with heap := h' }) : wpAny M A (leaving env (.ref e)) Q E s := by
  unfold leaving
  exact wpAny_bind (noteX hfr hf f fun h' f' u' => landX f' fun h2 f2 u2 => k h2 f2.pop (u'.trans u2))
theorem leaveX0 (hfr : A.frames = some (env :: outer)) (hf : env.frame = some L) (st : B.StaysIn s.heap) (hn : B.get? e = none) (hl : s.heap.FunFrames B (env :: outer)) (he : s.heap.get? e = some oe) (hc : oe.cls = .ref C)
    (hd : oe.data = .fields vs) (h1 : vs[1]? = some .none) (h2 : vs[2]? = some .none) (k : ∀ h', FlyX B outer e C .none h' → s.heap.UpToSlots h' → Q () { s with heap := h' }) : wpAny M A (leaving env (.ref e)) Q E s := by
  unfold leaving
  exact wpAny_bind (noteX0 hfr hf st hn hl he hc hd h1 h2 fun h' f' u' => landX f' fun h2 f2 u2 => k h2 f2.pop (u'.trans u2))
end
end L2
namespace L2
open PySem PySem.Spec PyProof.Rows
section
variable {P : Program} {w : World} {H H' : Hp} {h h1 h2 B : Heap} {a : Addr} {o : HO} {fs : List Addr}
theorem ObjOk.there (x : ObjOk P w H h a o) : ∃ u, h.get? a = some u := by
  cases o with
  | lst xs => obtain ⟨_, _, _, _, e⟩ := x; exact ⟨_, e⟩
  | tup xs => obtain ⟨_, _, _, u, e, _⟩ := x; exact ⟨u, e⟩
  | dK kvs => obtain ⟨_, _, _, _, u, _, _, e, _⟩ := x; exact ⟨u, e⟩
  | dT kvs => obtain ⟨_, _, _, _, u, _, _, e, _⟩ := x; exact ⟨u, e⟩
  | set S n => obtain ⟨u, _, _, _, e, _⟩ := x; exact ⟨u, e⟩
  | ins C dx fs => obtain ⟨_, _, _, e, _⟩ := x; exact ⟨_, e⟩
  | own y => exact x
  | xd fs => obtain ⟨_, ⟨u, _, _, e, _⟩, _⟩ := x; exact ⟨u, e⟩
  | rng lo hi => obtain ⟨_, _, _, e⟩ := x; exact ⟨_, e⟩
  | frz ob u => obtain ⟨e, _⟩ := x; exact ⟨_, e⟩
  | tbl ps => exact ⟨_, (show h.get? a = some _ from x)⟩
  | met f y => exact ⟨_, (show h.get? a = some _ from x)⟩
  | ext φ => obtain ⟨_, e, _⟩ := x; exact e
theorem HOk.track (x : HOk P w H h) (hn : H a = none) (new : ObjOk P w (upd H a o) h a o) : HOk P w (upd H a o) h := fun b u e => by
  by_cases hb : b = a
  · subst hb; rw [upd_same] at e; cases e; exact new
  · rw [upd_ne hb] at e
    exact (x b u e).stay (fun _ _ _ q => q) (fun c q => by rw [upd_ne (ne_of_none q hn)]; exact q) fun c xs q => by rw [upd_ne (ne_of_none q hn)]; exact q
theorem Un.track (u : Un fs [] H H' h h1) (ha : h.get? a = none) (hn : H' a = none) : Un fs [] H (upd H' a o) h h1 where
  keep := u.keep
  slot := u.slot
  free := fun b ob q n hx => by
    have hb : b ≠ a := fun z => by rw [z, ha] at q; cases q
    rw [upd_ne hb]
    exact u.free b ob q n hx
  there := u.there
  tups := fun b xs q => by have z := u.tups b xs q; rw [upd_ne (ne_of_none z hn)]; exact z
  frzs := fun b ob v q => by have z := u.frzs b ob v q; rw [upd_ne (ne_of_none z hn)]; exact z
  tbls := fun b ps q => by
    obtain ⟨m, z⟩ := u.tbls b ps q
    exact ⟨m, by rw [upd_ne (ne_of_none z hn)]; exact z⟩
theorem Un.fly (u : Un fs [] H H' h h1) (hB : ∀ b ob, h.get? b = some ob → b ∉ fs → ∃ o', B.get? b = some o') (k1 : B.StaysIn h1) (k2 : B.StaysIn h2) (us : h1.UpToSlots h2)
    (nf : ∀ b ∈ fs, ∀ ob, h1.get? b = some ob → ∀ vs, ob.data ≠ .fields vs) (hf : ∀ b ∈ fs, H b = none) : Un fs [] H H' h h2 where
  keep := fun b ob q n hb hx => by
    obtain ⟨o', e⟩ := hB b ob q hb
    have z := u.keep b ob q n hb hx
    rw [k1 _ _ e] at z
    cases z
    exact k2 _ _ e
  slot := fun b ob q n hb hx => by
    obtain ⟨sl, e1⟩ := u.slot b ob q n hb hx
    obtain ⟨sl', e2⟩ := us b _ e1 (nf b hb _ e1)
    exact ⟨sl', e2⟩
  free := u.free
  there := fun b ob q hx => by
    by_cases hb : b ∈ fs
    · obtain ⟨sl, e1⟩ := u.slot b ob q (hf b hb) hb hx
      obtain ⟨sl', e2⟩ := us b _ e1 (nf b hb _ e1)
      exact ⟨_, e2⟩
    · obtain ⟨o', e⟩ := hB b ob q hb
      exact ⟨o', k2 _ _ e⟩
  tups := u.tups
  frzs := u.frzs
  tbls := u.tbls
end
structure Flies (P : Program) (w : World) (fs : List Env) (H H' : Hp) (h h' : Heap) (a C : Addr) : Prop where
  ex : ∃ (B : Heap), Un (frs fs) [] H H' h h' ∧ HOk P w H' B ∧ FlyX B fs a C .none h' ∧ ∀ b ob, h.get? b = some ob → b ∉ frs fs → ∃ o', B.get? b = some o'
def CXE (P : Program) (w : World) : CXT := fun outer H s E e s' => ∃ (a C : Addr) (H' : Hp), e = .ref a ∧ s'.os = s.os ∧ AllBare s'.gens ∧ Flies P w outer H H' s.heap s'.heap a C ∧ E (.ref C) none H'
section
variable {P : Program} {w : World} {K : PySem.W.Frag} {mg : Str → Option Value} {base : Heap} {N : List Str} {qual : Str} {scope : Scope} {f : Addr} {cd : Value} {A : Around} {outer : List Env} {s0 : Shared} {H0 : Hp} {E : XK}
theorem frs_cons {env : Env} {l : List Env} {L : Addr} (hf : env.frame = some L) : frs (env :: l) = L :: frs l := by unfold frs; rw [List.filterMap_cons, hf]
theorem frs_of {env : Env} {l : List Env} (he : env ∈ l) {L : Addr} (hf : env.frame = some L) : L ∈ frs l := List.mem_filterMap.mpr ⟨env, he, hf⟩
theorem raise_leaves {pins : List (Addr × Obj)} {σ : St} {H : Hp} {s : Shared} {h' : Heap} {e C : Addr} {vs : List Value} (I : Inv (cxOf (CXE P w) P w K mg base N qual scope f cd A outer s0 H0 E) pins σ H s) (hx : Heap.MadeExcOf s.heap h' e (.ref C) vs)
    (q : E (.ref C) none H) : (cxOf (CXE P w) P w K mg base N qual scope f cd A outer s0 H0 E).xe (.ref e) { s with heap := h' } := by
  have hfr : (A.deeper (envOfC qual scope s0.heap.objs.size f cd)).frames = some (envOfC qual scope s0.heap.objs.size f cd :: outer) := I.ok.frames
  have st : s.heap.FunFrames base (envOfC qual scope s0.heap.objs.size f cd :: outer) := I.stack
  have fl := PySem.W.funFrames_hide (as := frs (envOfC qual scope s0.heap.objs.size f cd :: outer)) st fun env he L hL => frs_of he hL
  obtain ⟨t, he, _, _⟩ := hx.there
  have hBe : (PySem.W.hideAll s.heap (frs (envOfC qual scope s0.heap.objs.size f cd :: outer))).get? e = none := by
    cases z : (PySem.W.hideAll s.heap (frs (envOfC qual scope s0.heap.objs.size f cd :: outer))).get? e with
    | none => rfl
    | some o => have y := PySem.W.of_hideAll _ z; rw [hx.new] at y; cases y
  refine leaveX0 (B := PySem.W.hideAll s.heap (frs (envOfC qual scope s0.heap.objs.size f cd :: outer))) hfr rfl (fun b o z => hx.keeps _ _ (PySem.W.of_hideAll _ z)) hBe (fl.of_keeps fun b o z _ => ⟨o, hx.keeps _ _ z, rfl⟩) he rfl rfl rfl rfl fun h2 x1 x4 => ?_
  have inB : ∀ b ob, s.heap.get? b = some ob → b ∉ frs (envOfC qual scope s0.heap.objs.size f cd :: outer) → (PySem.W.hideAll s.heap (frs (envOfC qual scope s0.heap.objs.size f cd :: outer))).get? b = some ob := fun b ob z hb => PySem.W.hideAll_get _ z hb
  have hokB : HOk P w H (PySem.W.hideAll s.heap (frs (envOfC qual scope s0.heap.objs.size f cd :: outer))) := fun b u z => by
    have nfr : ∀ c v, H c = some v → c ∉ frs (envOfC qual scope s0.heap.objs.size f cd :: outer) := fun c v y m => by
      have := I.stkFree c m
      rw [y] at this; cases this
    refine (I.hok b u z).stay (fun c v hc y => inB c v y ?_) (fun _ y => y) fun _ _ y => y
    rcases hc with rfl | hc
    · exact nfr _ _ z
    · exact nfr _ _ hc
  have nL : ∀ b ob, s0.heap.get? b = some ob → b ∉ frs outer → b ∉ frs (envOfC qual scope s0.heap.objs.size f cd :: outer) := fun b ob z hb m => by
    rw [frs_cons (L := s0.heap.objs.size) rfl] at m
    rcases List.mem_cons.mp m with y | y
    · exact absurd (Heap.lt_size z) (by rw [y]; exact Nat.lt_irrefl _)
    · exact hb y
  have hB : ∀ b ob, s0.heap.get? b = some ob → b ∉ frs outer → ∃ o', (PySem.W.hideAll s.heap (frs (envOfC qual scope s0.heap.objs.size f cd :: outer))).get? b = some o' := fun b ob z hb => by
    obtain ⟨o', y⟩ := I.base.there b ob z (by show b ∉ []; simp)
    exact ⟨o', inB b o' y (nL b ob z hb)⟩
  refine ⟨e, C, H, rfl, I.os, I.bare, ⟨_, ?_, hokB, x1, hB⟩, q⟩
  refine Un.fly (u := I.base) hB (fun b o z => PySem.W.of_hideAll _ z) x1.stay ((Heap.UpToSlots.of_keeps hx.keeps).trans x4) (fun b hb ob z vs => ?_) I.ok.frf
  obtain ⟨_, o2, y, nd⟩ := I.funs.mem hb
  rw [z] at y; cases y
  exact nd vs
theorem passE : Passes (CXE P w) (cxOf (CXE P w) P w K mg base N qual scope f cd A outer s0 H0 E) E := by
  intro pins σ H s e s' I h
  obtain ⟨a, C, H', rfl, os, bare, ⟨B, un, hokB, fl, hB⟩, q⟩ := h
  have hfr : (A.deeper (envOfC qual scope s0.heap.objs.size f cd)).frames = some (envOfC qual scope s0.heap.objs.size f cd :: outer) := I.ok.frames
  have J : Inv (cxOf (CXE P w) P w K mg base N qual scope f cd A outer s0 H0 E) pins σ H' s' := I.call' (ch := []) os un (hokB.kept fl.stay) bare (fun b z => absurd z (by simp))
  refine leaveX hfr rfl fl fun h2 x1 x2 => ?_
  have hB0 : ∀ b ob, s0.heap.get? b = some ob → b ∉ frs outer → ∃ o', B.get? b = some o' := fun b ob z hb => by
    obtain ⟨o', y⟩ := I.base.there b ob z (by show b ∉ []; simp)
    refine hB b o' y fun m => ?_
    change b ∈ frs (envOfC qual scope s0.heap.objs.size f cd :: outer) at m
    rw [frs_cons (L := s0.heap.objs.size) rfl] at m
    rcases List.mem_cons.mp m with y2 | y2
    · exact absurd (Heap.lt_size z) (by rw [y2]; exact Nat.lt_irrefl _)
    · exact hb y2
  refine ⟨a, C, H', rfl, J.os, J.bare, ⟨B, ?_, hokB, x1, hB0⟩, q⟩
  refine Un.fly (u := J.base) hB0 fl.stay x1.stay x2 (fun b hb ob z vs => ?_) I.ok.frf
  obtain ⟨_, o2, y, nd⟩ := J.funs.mem hb
  rw [z] at y; cases y
  exact nd vs
theorem Fun.okE {x : Str} {st : Stmt} {fd : FuncData} {ps : List Str} {k : Nat} {sp : Sp} (F : Fun K x qual st f fd) (S : FnScope N ps (defScope st)) (len : ∀ vs H Q E, sp vs H Q E → vs.length = ps.length)
    (hbody : ∀ (cdv : Value) (A : Around) (outer : List Env) (s : Shared) (H : Hp) (vs : List V) (Q : VK) (E : XK), Room k (A.deeper (envOfC qual (defScope st) s.heap.objs.size f cdv)) → sp vs H Q E →
      ∃ t, PSs (cxOf (CXE P w) P w K mg base N qual (defScope st) f cdv A outer s H E) (defBody st) t ∧ t { nx := fun _ H' => Q .non H', rt := Q } (start N vs) H) : FnOk P w K mg base (CXE P w) (k + 1) f fd ps sp := by
  obtain ⟨oc, od, kV, doc, pm, an, cdv, ct, osl, rfl, lk, hcd⟩ := F.ex
  exact fn_of lk hcd S len fun A outer s H vs Q E hr hsp => hbody cdv A outer s H vs Q E hr hsp
end
theorem excObj_of {K : PySem.W.Frag} {h : Heap} {C : Addr} {bmB : List Value} {newId : String} (X : K.In h) (q : PySem.W.excIn K C bmB newId = true) :
    ∃ bm N nm qn bs hdct sn sub ab col dd k0 k1 k2 k3 k5 mN, h.get? C = some (excClassObj nm qn C N bs bm hdct sn sub ab col dd k0 k1 k2 k3 k5 newId) ∧ h.Ns N mN ∧ mN "__init__" = none ∧ OwnTail h bmB bm := by
  unfold PySem.W.excIn at q
  split at q
  · rename_i dd cls sl ho
    split at q
    · rename_i C' bm k0 k1 k2 k3 n k5 hm hs
      rw [Bool.and_eq_true, Bool.and_eq_true, Bool.and_eq_true, Bool.and_eq_true, Bool.and_eq_true] at q
      obtain ⟨⟨⟨⟨⟨q1, q2⟩, q3⟩, ht⟩, hok⟩, hni⟩ := q
      obtain rfl := beq_iff_eq.mp q1
      obtain rfl := beq_iff_eq.mp q2
      have hdel : cls.hasDel = false := by simpa using q3
      obtain ⟨nm, bs, mro, ns, qn, hd, sn, sub, ab, col, del⟩ := cls
      change mro = _ at hm
      change del = _ at hdel
      subst hm hdel
      have hsl : sl = #[k0, k1, k2, k3, some (.builtin n), k5] := by
        cases sl with
        | mk l => rw [show l = _ from hs]
      subst hsl
      exact ⟨bm, ns, nm, qn, bs, hd, sn, sub, ab, col, dd, k0, k1, k2, k3, k5, _, X _ _ ho, .of_isNs (PySem.W.isNs_of_in X hok), PySem.W.nsMap_none_of_in X hok (beq_iff_eq.mp hni), PySem.W.tail_of_in X ht⟩
    · cases q
  · cases q
section
variable {P : Program} {w : World} {K : PySem.W.Frag} {mg : Str → Option Value} {base : Heap} {N : List Str} {qual : Str} {scope : Scope} {f : Addr} {cd : Value} {A : Around} {outer : List Env} {s0 : Shared} {H0 : Hp} {E : XK}
def tRaise (E : XK) (C : Addr) : TS := fun _ _ H => E (.ref C) none H
theorem ps_raise {x : Str} {C : Addr} {txt : Str} {j pp np cpos pos} (Z : ExcC K C) (hm : mg x = some (.ref C)) (hg : Gl (cxOf (CXE P w) P w K mg base N qual scope f cd A outer s0 H0 E) x) (hdb : (x == ("__debug__" : Str)) = false := by decide) :
    PS (cxOf (CXE P w) P w K mg base N qual scope f cd A outer s0 H0 E) (.Raise (some (.Call (.Name x np) [.Constant (.str txt) j pp] [] cpos)) none pos) (tRaise E C) := by
  intro pins s σ H D I h
  obtain ⟨tl, NN, nm, q, bs, hdct, sn, sub, ab, col, dd, k0, k1, k2, k3, k5, mN, hC, hN, hni, T⟩ := excObj_of (h := base) I.ok.mod.kin Z.ex
  refine wpAny_Raise_call_subT (C := C) (nm := nm) (q := q) (N := NN) (bs := bs) (bm := tl) (hdct := hdct) (sn := sn) (sub := sub) (ab := ab) (col := col) (dd := dd) (k0 := k0) (k1 := k1) (k2 := k2) (k3 := k3) (k5 := k5)
    PySem.F.excBase_ValueError (mN := mN) (T.hasType PySem.F.excBase_ValueError.hasBase) (I.ok.hd rfl) rfl hni (ld_glob I hg hm ⟨rfl, ?_⟩ hdb)
  refine Calls.evalArgs_plain ?_
  have pa : PA (cxOf (CXE P w) P w K mg base N qual scope f cd A outer s0 H0 E) [.Constant (.str txt) j pp] (tCons (tC (.str txt)) tNil) := pa_cons pe_str pa_nil
  refine thn (pa cpos pins s σ H (fun vs H1 => vs = [V.str txt] ∧ H1 = H) I ⟨rfl, rfl⟩) fun us s1 ⟨vs, H1, I1, r, e1, e2⟩ => ?_
  subst e1 e2
  have hl : us.length = 1 := by rw [← r.length]; rfl
  exact ⟨rfl, by rw [hl]; decide, I1.bk _ _ hC, hN.keeps I1.bk, T.keeps I1.bk, fun h' e hx => raise_leaves I1 hx h⟩
end
end L2
namespace L2
open PySem PySem.Spec PyProof.Rows
abbrev Cx.hand (X : Cx) (e : Value) : Cx := { X with A := X.A.mark (some e), calm := false, xe := fun _ _ => False }
section
variable {X : Cx} {pins : List (Addr × Obj)} {σ : St} {H : Hp} {s : Shared}
theorem Cx.Ok.hand (ok : X.Ok) (e : Value) : (X.hand e).Ok :=
  ⟨ok.mod, ok.kind, ok.glob, ok.blt, ok.above, ok.inj, ok.has, ok.cab, fun z => Bool.noConfusion z, ok.frames, ok.stk, ok.exf, ok.bs, ok.bsz, ok.noex, ok.exfs, ok.funs, ok.frf⟩
theorem Inv.hand (I : Inv X pins σ H s) (e : Value) : Inv (X.hand e) pins σ H s := ⟨I.ok.hand e, I.os, I.bare, I.base, I.loc, I.cell, I.free, I.freeC, I.pin, I.hok, I.len⟩
theorem Inv.unhand {e : Value} (I : Inv (X.hand e) pins σ H s) (ok : X.Ok) : Inv X pins σ H s := ⟨ok, I.os, I.bare, I.base, I.loc, I.cell, I.free, I.freeC, I.pin, I.hok, I.len⟩
theorem Inv.lost {h' : Heap} {m' : Str → Option Value} {t : Nat} (I : Inv X pins σ H s) (hn : h'.Ns X.env.locals m') (hs : Heap.SameBut X.env.locals s.heap h') : Inv X pins (List.replicate X.N.length none) H { s with heap := h', toks := t } := by
  have neL : ∀ b o, X.s₀.heap.get? b = some o → b ≠ X.env.locals := fun b o e => Nat.ne_of_lt (Nat.lt_of_lt_of_le (Heap.lt_size e) I.ok.above)
  refine ⟨I.ok, I.os, I.bare, ⟨fun b o e n hb hx => ?_, fun b o e n hb hx => ?_, I.base.free, fun b o e hx => ?_, I.base.tups, I.base.frzs, I.base.tbls⟩, ⟨m', hn, fun i x v _ e2 _ => ?_⟩, fun y c e => ?_, I.free, I.freeC, fun p hp => ?_, fun b u e => ?_, by simp⟩
  · exact (hs.2 b (neL b o e)).trans (I.base.keep b o e n hb hx)
  · obtain ⟨sl, e1⟩ := I.base.slot b o e n hb hx
    exact ⟨sl, (hs.2 b (neL b o e)).trans e1⟩
  · obtain ⟨o', e1⟩ := I.base.there b o e hx
    exact ⟨o', (hs.2 b (neL b o e)).trans e1⟩
  · rw [List.getElem?_replicate] at e2
    split at e2 <;> cases e2
  · obtain ⟨v, z⟩ := I.cell y c e
    exact ⟨v, z.sameBut hs (I.cne y c e)⟩
  · obtain ⟨e, n, ne, nf, d⟩ := I.pin p hp
    exact ⟨(hs.2 p.1 ne).trans e, n, ne, nf, d⟩
  · have nt : ∀ c v, H c = some v → c ≠ X.env.locals := fun c v y z => by rw [z, I.free] at y; cases y
    refine (I.hok b u e).stay (fun c v hc y => (hs.2 c ?_).trans y) (fun _ y => y) fun _ _ y => y
    rcases hc with rfl | hc
    · exact nt _ _ e
    · exact nt _ _ hc
end
section
variable {X : Cx} {CX : CXT} {k : Nat} {f C0 : Addr} {fd : FuncData} {ps : List Str} {sp : Sp} {E : XK} {x y n : Str} {p pos epos np hpos tpos : Pos} {e : Expr} {es : List Expr} {t : TA} {b₀ : Stmt} {suite : List Stmt} {th : Addr → TS} {i : Nat}
theorem call_x {pins : List (Addr × Obj)} {σ : St} {H : Hp} {s : Shared} {Q : VK} {XE : Value → Shared → Prop} (F : FnOk X.prog X.w X.K X.mg X.base CX k f fd ps sp) (hr : Room k X.A) (hg : Gl X x) (hm : X.mg x = some (.ref f)) (hk : PySem.W.keepIn X.K (.ref f) = true)
    (hb : Binds X.K fd ps []) (ha : PA X.nox (e :: es) t) (I : Inv X pins σ H s) (h : t σ H fun vs H1 => sp vs H1 Q E) (hx : ∀ H1 s1 e s', Inv X pins σ H1 s1 → CX X.stack H1 s1 E e s' → XE e s')
    (hdb : (x == ("__debug__" : Str)) = false := by decide) (he : starEach (e :: es) X.env = (false, eval e X.env) :: starEach es X.env := by rfl) (hpl : (backTo pos (starEach es X.env)).any (·.1) = false := by rfl) :
    wpAny (model X.prog X.w) X.A (eval (.Call (.Name x p) (e :: es) [] pos) X.env) (EP X pins σ Q) XE s := by
  refine wpAny_Call_Name_kw (ld_glob I hg hm ?_ hdb)
  refine PySem.W.callWith_K (h₀ := X.base) I.ok.mod.kin hk (wpAny_mono (ha pos pins s σ H _ (I.wish _) h) (fun us s1 ⟨vs, H1, I1, r, q⟩ => ⟨I1.unwish.kIn, ?_⟩) fun _ _ z => z.elim) he hpl
  have I1' := I1.unwish
  have hl : us.length = ps.length := by rw [← r.length]; exact F.len _ _ _ _ q
  have hb' := hb s1 us I1'.kIn (by rw [List.append_nil]; exact hl)
  rw [List.append_nil] at hb'
  refine wpAny_call (codeAny_mono (F.run X.A X.stack s1 H1 ⟨us, []⟩ us vs Q E hr I1'.env0 hb' r q) fun rr s' hq => ?_)
  cases rr with
  | error e => exact hx H1 s1 e s' I1' hq
  | ok fl =>
    cases fl with
    | ret u => exact I1'.after hq
    | next => exact False.elim hq
    | brk => exact False.elim hq
    | cont => exact False.elim hq
def tTry (K : PySem.W.Frag) (C0 : Addr) (i : Nat) (sp : Sp) (t : TA) (th : Addr → TS) : TS := fun D σ H => t σ H fun vs H1 => sp vs H1 (fun _ H2 => D.nx σ H2) fun c _ H2 => ∃ C, c = .ref C ∧ PySem.W.exmOne K (.ref C) (.ref C0) = some true ∧
  ∀ a, H2 a = none → th a { nx := fun _ _ => False, rt := D.rt } (σ.set i (some (.ref a))) (upd H2 a (.ext (ExcObj a C)))
theorem ps_try (F : FnOk X.prog X.w X.K X.mg X.base (CXE X.prog X.w) k f fd ps sp) (hr : Room k X.A) (hg : Gl X x) (hm : X.mg x = some (.ref f)) (hk : PySem.W.keepIn X.K (.ref f) = true)
    (hb : Binds X.K fd ps []) (ha : PA X.nox (e :: es) t) (hgy : Gl X y) (hmy : X.mg y = some (.ref C0)) (hN : X.N.Nodup) (hi : X.N[i]? = some n) (hln : X.env.scope.names.lookup n = some .local) (hstk : X.stack = X.env :: X.outer) (hfm : X.env.frame = some X.env.locals)
    (hs : ∀ a, PSs (X.hand (.ref a)) (b₀ :: suite) (th a))
    (hdb : (x == ("__debug__" : Str)) = false := by decide) (hdy : (y == ("__debug__" : Str)) = false := by decide) (he : starEach (e :: es) X.env = (false, eval e X.env) :: starEach es X.env := by rfl) (hpl : (backTo pos (starEach es X.env)).any (·.1) = false := by rfl)
    (hsw : swapsWith (.Call (.Name x p) (e :: es) [] pos) none epos.line X.env = pure false := by rfl) :
    PS X (.Try [.Expr (.Call (.Name x p) (e :: es) [] pos) epos] [.ExceptHandler (some (.Name y np)) (some n) (b₀ :: suite) hpos] [] [] tpos) (tTry X.K C0 i sp t th) := by
  intro pins s σ H D I h
  refine wpAny_Try_except (wpAny_execs_cons (wpAny_Expr_any (thn (call_x F hr hg hm hk hb ha I h ?_ hdb he hpl) fun v s1 ⟨z, H1, I1, r1, q1⟩ => wpAny_execs_nil (wpAny_execs_nil ⟨σ, H1, I1, q1⟩)) I.quiet hsw))
  intro H1 s1 ex s' I1 hx
  obtain ⟨a, C, H', rfl, os, bare, ⟨B, un, hokB, fl, hB⟩, C', hC', hmat, hq⟩ := hx
  cases hC'
  have fr : X.A.frames = some (X.env :: X.outer) := by rw [← hstk]; exact I1.ok.frames
  have nfr : ∀ b ∈ frs X.stack, ∀ ob, s'.heap.get? b = some ob → ∀ vs, ob.data ≠ .fields vs := fun b hb ob z vs => by
    obtain ⟨_, o2, w2, nd⟩ := fl.frs.mem hb
    rw [z] at w2; cases w2
    exact nd vs
  have ffr : ∀ b ∈ frs X.stack, H1 b = none := I1.stkFree
  have hHa : H' a = none := by
    cases z : H' a with
    | none => rfl
    | some o =>
      obtain ⟨u, hu⟩ := (hokB a o z).there
      rw [fl.new] at hu; cases hu
  have hsa : s1.heap.get? a = none := by
    cases z : s1.heap.get? a with
    | none => rfl
    | some o =>
      by_cases hm : a ∈ frs X.stack
      · obtain ⟨oe, vs, T, oT, ts, ⟨e1, _, e2, _⟩, _⟩ := fl.tr
        exact absurd e2 (nfr a hm oe e1 vs)
      · obtain ⟨o', z2⟩ := hB a o z hm
        rw [fl.new] at z2; cases z2
  have st : ∀ h2, B.StaysIn h2 → s'.heap.UpToSlots h2 → Un (frs X.stack) [] H1 H' s1.heap h2 := fun h2 k2 us => un.fly hB fl.stay k2 us nfr ffr
  have mk : ∀ (h2 : Heap) (H2 : Hp), Un (frs X.stack) [] H1 H2 s1.heap h2 → HOk X.prog X.w H2 h2 → Inv X pins σ H2 { s' with heap := h2 } := fun h2 H2 u2 k2 =>
    I1.call' (s' := { s' with heap := h2 }) (ch := []) os u2 k2 bare (fun b z => absurd z (by simp))
  rw [hstk] at fl
  refine noteX fr hfm fl fun h4 held x4 => landX held fun h5 fl5 x5 => ?_
  have J5 := mk h5 H' (st h5 fl5.stay (x4.trans x5)) (hokB.kept fl5.stay)
  refine wpAny_handleBy_cons (codeAny_handlers_test (ld_glob (X := X.hand (.ref a)) (J5.hand _) hgy hmy ?_ hdy)) (by intro q; cases q)
  have eo : ∀ {h2 : Heap}, FlyX B (X.env :: X.outer) a C .none h2 → ExcObj a C h2 := fun f2 => by
    obtain ⟨oe, vs, T, oT, ts, ⟨e1, e3, e2, _, e4⟩, _⟩ := f2.tr
    exact ⟨oe, e1, e3, vs, e2, e4⟩
  refine (PySem.W.exm_one J5.kIn (eo fl5).type hmat).here ?_
  refine codeAny_handlers_suite_as (landX fl5 fun h6 fl6 x6 => ?_)
  have J6 : Inv X pins σ (upd H' a (.ext (ExcObj a C))) { s' with heap := h6 } := by
    refine mk h6 _ ((st h6 fl6.stay ((x4.trans x5).trans x6)).track hsa hHa) ((hokB.kept fl6.stay).track hHa ?_)
    obtain ⟨oe, e1, _⟩ := eo fl6
    exact ⟨eo fl6, ⟨oe, e1⟩, fun h1 h2 ⟨o, y1, y2, y3⟩ k2 => ⟨o, k2 o y1, y2, y3⟩⟩
  refine store_ok J6 hN hi (Or.inl hln) (v := .ref a) rfl (fun s7 J7 => ?_) (.inr hln)
  refine wpAny_mono (hs a pins s7 _ _ { nx := fun _ _ => False, rt := D.rt } (J7.hand _) (hq a hHa)) (fun fl8 s8 z => ?_) fun _ _ z => z.elim
  cases fl8 with
  | ret u =>
    obtain ⟨v, σ', H8, J8, r, q8⟩ := z
    obtain ⟨m, hn, _⟩ := J8.loc
    exact wpAny_nameGoes hln hn (by rw [I1.ok.kind]; rfl) fun h9 m9 hn9 hs9 => ⟨v, _, H8, (J8.unhand I1.ok).lost hn9 hs9, r, q8⟩
  | next => obtain ⟨_, _, _, q8⟩ := z; exact q8.elim
  | brk => obtain ⟨_, _, _, q8⟩ := z; exact q8.elim
  | cont => obtain ⟨_, _, _, q8⟩ := z; exact q8.elim
end
section
variable {X : Cx}
def rIsiX (K : PySem.W.Frag) : List V → Hp → VK → Prop := fun xs H Q => ∃ a C D b, xs = [.ref a, .ref D] ∧ H a = some (.ext (ExcObj a C)) ∧ ExcC K C ∧ PySem.W.kitOne K (.ref C) (.ref D) = some b ∧ Q (.bl b) H
theorem call_isiX : CallR X (.builtin "isinstance") (rIsiX X.K) := by
  intro pins s σ H xs us Q I r h
  obtain ⟨a, C, D, b, rfl, ha, Z, e, q⟩ := h
  obtain ⟨u, v, rfl, rx, ry⟩ := r.two
  cases rx; cases ry
  obtain ⟨p, _⟩ := (show ObjOk X.prog X.w H s.heap a (.ext (ExcObj a C)) from I.hok a _ ha)
  exact PySem.W.kia_one (kitx_exc Z) I.kIn p e (fun z => nomatch z) fun tk => ⟨.bl b, H, I.tok tk, rfl, q⟩
theorem pe_isiX {D : Addr} {y : Str} {e : Expr} {te : TE} {p p2 pos : Pos} (hm : X.mg "isinstance" = none) (hm2 : X.mg y = some (.ref D)) (he : PE X e te) (hg : Gl X "isinstance" := by rfl) (hg2 : Gl X y := by rfl) (hd : (y == ("__debug__" : Str)) = false := by decide)
    (hs : starEach [e, .Name y p2] X.env = (false, eval e X.env) :: starEach [.Name y p2] X.env := by rfl) (hpl : (backTo pos (starEach [.Name y p2] X.env)).any (·.1) = false := by rfl) (hs2 : starEach [.Name y p2] X.env = (false, eval (.Name y p2) X.env) :: starEach [] X.env := by rfl) :
    PE X (.Call (.Name "isinstance" p) [e, .Name y p2] [] pos) (tCB (rIsiX X.K) (tCons te (tCons (tC (.ref D)) tNil))) :=
  pe_callB call_isiX hg hm PyProof.Rows.boot_isinstance (pa_cons he (pa_cons (pe_glob hg2 hm2 (v := .ref D) rfl hd) pa_nil hs2) hs) (by decide) (by decide) hs hpl
def rIsiT (K : PySem.W.Frag) : List V → Hp → VK → Prop := fun xs H Q => ∃ a C T b, xs = [.ref a, .ty T] ∧ H a = some (.ext (ExcObj a C)) ∧ ExcC K C ∧ PySem.W.kitOne K (.ref C) (.type T) = some b ∧ Q (.bl b) H
theorem call_isiT : CallR X (.builtin "isinstance") (rIsiT X.K) := by
  intro pins s σ H xs us Q I r h
  obtain ⟨a, C, D, b, rfl, ha, Z, e, q⟩ := h
  obtain ⟨u, v, rfl, rx, ry⟩ := r.two
  cases rx; cases ry
  obtain ⟨p, _⟩ := (show ObjOk X.prog X.w H s.heap a (.ext (ExcObj a C)) from I.hok a _ ha)
  exact PySem.W.kia_one (kitx_exc Z) I.kIn p e (fun z => nomatch z) fun tk => ⟨.bl b, H, I.tok tk, rfl, q⟩
theorem pe_isiT {T : String} {y : Str} {e : Expr} {te : TE} {p p2 pos : Pos} (hm : X.mg "isinstance" = none) (hm2 : X.mg y = none) (hv : bootBuiltins y = some (.type T)) (he : PE X e te) (hg : Gl X "isinstance" := by rfl) (hg2 : Gl X y := by rfl) (hn : y ≠ "__name__" := by decide) (hd : (y == ("__debug__" : Str)) = false := by decide)
    (hs : starEach [e, .Name y p2] X.env = (false, eval e X.env) :: starEach [.Name y p2] X.env := by rfl) (hpl : (backTo pos (starEach [.Name y p2] X.env)).any (·.1) = false := by rfl) (hs2 : starEach [.Name y p2] X.env = (false, eval (.Name y p2) X.env) :: starEach [] X.env := by rfl) :
    PE X (.Call (.Name "isinstance" p) [e, .Name y p2] [] pos) (tCB (rIsiT X.K) (tCons te (tCons (tC (.ty T)) tNil))) :=
  pe_callB call_isiT hg hm PyProof.Rows.boot_isinstance (pa_cons he (pa_cons (pe_bltn hg2 hm2 hv (v := .ty T) rfl hn hd) pa_nil hs2) hs) (by decide) (by decide) hs hpl
end
end L2
namespace L2
open PySem PySem.Spec PyProof.Rows
theorem boolOf_at {bs : List Bool} {its : List Value} (k : Bool) (r : Vals (bs.map V.bl) its) : ∀ y, y ∈ its → ∀ (A : Around) (s : Shared), PySem.SeqAt.EqAt A s y (.bool k) (isBoolOf k y) := fun y hy A s => by
  obtain ⟨i, hi, e⟩ := List.getElem_of_mem hy
  obtain ⟨b, _, rfl⟩ := bools_get r (i := i) (v := y) (by rw [List.getElem?_eq_getElem hi, e])
  exact PySem.SeqAt.EqAt.bool_bool b k
theorem countP_bools (k : Bool) : ∀ {bs : List Bool} {its : List Value}, Vals (bs.map V.bl) its → its.countP (isBoolOf k) = bs.count k
  | [], _, r => by cases r; rfl
  | b :: bs, _, r => by
    cases r with
    | cons r1 r2 =>
      rw [List.countP_cons, List.count_cons, countP_bools k r2]
      cases (show _ = Value.bool b from r1)
      rfl
section
variable {X : Cx}
def rCountB (K : PySem.W.Frag) : V → List V → Hp → VK → Prop := fun x vs H Q => ∃ (l : Addr) (bs : List Bool) (k : Bool), x = .ref l ∧ vs = [.bl k] ∧ SqL K H l (bs.map V.bl) ∧ Q (.int ((bs.count k : Nat) : Int)) H
theorem mt_countB : MtR X "list.count" (rCountB X.K) := by
  intro pins s σ H x vs v us Q I rx rv h
  obtain ⟨l, bs, k, rfl, rfl, hq, q⟩ := h
  cases rx
  obtain ⟨u, rfl, ru⟩ := rv.one
  cases (show u = Value.bool k from ru)
  obtain ⟨its, r, pl, hz⟩ := I.list hq
  obtain ⟨⟨cls, dd, data, sl⟩, ho, hc, n, hd⟩ := id pl.isList
  simp only at hc hd
  subst hc hd
  refine call_meets PySem.F.slot_list_count ⟨_, ho, rfl⟩ PySem.F.entry_list_count (PySem.F.args_list_count_2 _ _) (PySem.SeqAt.list_countAt l its.toArray n dd sl (.bool k) (isBoolOf k)) ⟨ho, fun y hy => boolOf_at k r y (by simpa using hy) _ _, ?_⟩
  rw [show its.toArray.toList = its from rfl, countP_bools k r]
  exact ⟨.int _, H, I.tok _, ⟨_, rfl⟩, q⟩
def rIndexB (K : PySem.W.Frag) : V → List V → Hp → VK → Prop := fun x vs H Q => ∃ (l : Addr) (bs : List Bool) (j : Nat), x = .ref l ∧ vs = [.bl true] ∧ SqL K H l (bs.map V.bl) ∧ j ≤ 1000 ∧ bs[j]? = some true ∧ (∀ m, m < j → bs[m]? = some false) ∧ Q (.int (j : Int)) H
theorem mt_indexB : MtR X "list.index" (rIndexB X.K) := by
  intro pins s σ H x vs v us Q I rx rv h
  obtain ⟨l, bs, j, rfl, rfl, hq, hj1, hj, hno, q⟩ := h
  cases rx
  obtain ⟨u, rfl, ru⟩ := rv.one
  cases (show u = Value.bool true from ru)
  obtain ⟨its, r, pl, hz⟩ := I.list hq
  obtain ⟨⟨cls, dd, data, sl⟩, ho, hc, n, hd⟩ := id pl.isList
  simp only at hc hd
  subst hc hd
  have hlen := r.length
  rw [List.length_map] at hlen
  have hjl : j < its.length := by rw [← hlen]; exact (List.getElem?_eq_some_iff.mp hj).1
  have at1 : ∀ (m : Nat) (hm : m < its.length) (b : Bool), bs[m]? = some b → isBoolOf true its[m] = b := fun m hm b hb => by
    obtain ⟨b', e', e⟩ := bools_get r (i := m) (v := its[m]) (List.getElem?_eq_getElem hm)
    rw [hb] at e'
    cases e'
    rw [e]
    cases b <;> rfl
  refine call_meets PySem.F.slot_list_index ⟨_, ho, rfl⟩ PySem.F.entry_list_index (PySem.F.args_list_index_2 _ _)
    (PySem.SeqAt.list_indexAt l its.toArray n dd sl (.bool true) (isBoolOf true) j (by simpa using hjl) (by omega) ?_ ?_) ⟨ho, fun y hy => boolOf_at true r y (by simpa using hy) _ _, ⟨.int _, H, I.tok _, ⟨_, rfl⟩, q⟩⟩
  · exact at1 j hjl true hj
  · intro m hm hlt
    have hm' : m < its.length := by simpa using hm
    exact at1 m hm' false (hno m hlt)
end
structure FnOkH (P : Program) (w : World) (K : PySem.W.Frag) (mg : Str → Option Value) (base : Heap) (k : Nat) (f : Addr) (fd : FuncData) (ps : List Str) (sp : Sp) : Prop where
  len : ∀ vs H Q E, sp vs H Q E → vs.length = ps.length
  run : ∀ (a : Addr) (A : Around) (outer : List Env) (s : Shared) (H : Hp) (args : Args) (us : List Value) (vs : List V) (Q : VK) (E : XK), Room k A → Env0 P w K mg base A outer s H → BindsTo s fd args (ps.zip us) → Vals vs us → sp vs H Q E →
    codeAny (model P w) (A.mark (some (.ref a))) (.call (.ref f) args) (CR CX0 outer P w H s Q E) s
theorem fn_ofH {P : Program} {w : World} {K : PySem.W.Frag} {mg : Str → Option Value} {base : Heap} {k : Nat} {f : Addr} {name qual : Str} {params : Arguments} {body : List Stmt} {scope : Scope} {dV kV doc pm cdv ct oc : Value} {an od : Option Addr}
    {osl : Array (Option Value)} {N ps : List Str} {sp : Sp} (lk : K.lookup f = some ⟨oc, od, .func (PySem.W.fnOf name qual params body scope dV kV doc pm an cdv ct), osl⟩) (hcd : PySem.W.codeIn K cdv qual = true) (S : FnScope N ps scope)
    (len : ∀ vs H Q E, sp vs H Q E → vs.length = ps.length)
    (hbody : ∀ (a : Addr) (A : Around) (outer : List Env) (s : Shared) (H : Hp) (vs : List V) (Q : VK) (E : XK), Room k (A.deeper (envOfC qual scope s.heap.objs.size f cdv)) → sp vs H Q E →
      ∃ t, PSs ((cxOf CX0 P w K mg base N qual scope f cdv A outer s H E).hand (.ref a)) body t ∧ t { nx := fun _ H' => Q .non H', rt := Q } (start N vs) H) :
    FnOkH P w K mg base (k + 1) f (PySem.W.fnOf name qual params body scope dV kV doc pm an cdv ct) ps sp := by
  refine ⟨len, fun a A outer s H args us vs Q E hr e0 hb r hsp => ?_⟩
  have hl := len _ _ _ _ hsp
  have KX : K.In s.heap := e0.mod.kin.keeps fun b o e => (e0.bs b o e).1
  have lim : s.heap.NoLimit := e0.mod.nolimit.keeps fun b o e => (e0.bs b o e).1
  have par : ∀ y ∈ ps.zip us, scope.names.lookup y.1 = some .local ∨ (scope.names.lookup y.1 = some .cell ∧ ((cellsFrom (s.heap.objs.size + 1) scope.names []).lookup y.1).isSome = true) := by
    rintro ⟨n, v⟩ hy
    cases S.par n (List.of_mem_zip hy).1 with
    | inl q => exact Or.inl q
    | inr q => exact Or.inr ⟨q, PySem.W.cellsFrom_some _ _ _ (Or.inl q)⟩
  have dp : (A.mark (some (.ref a))).depth + 1 < recursionLimit := by have := hr.dp; show A.depth + 1 < _; omega
  refine codeAny_call_function (by first | exact hr.depth | exact dp) (KX _ _ lk) rfl S.co S.gen rfl (PySem.W.codeRec_of KX hcd) (hb _ _ _ _ ?_)
  refine wpAny_newFunctionEnv_cells S.kind par fun env he s1 x => ?_
  cases he
  refine ⟨lim.keeps x.toInCall.keep, codeAny_func ?_⟩
  obtain ⟨t, ht, hq⟩ := hbody a A outer s H vs Q E (hr.deeper _) hsp
  have I := (inv_start (CX := CX0) (E := E) S hr.hd e0 hl r x).hand (.ref a)
  refine wpAny_mono (ht [] s1 (start N vs) H _ I hq) (fun fl s' hs => ?_) fun _ _ z => z.elim
  cases fl with
  | ret u =>
    obtain ⟨v, σ', H', J, rv, q⟩ := hs
    exact ⟨v, H', J.os, J.bare, J.base, J.hok, rv, q⟩
  | next =>
    obtain ⟨σ', H', J, q⟩ := hs
    exact ⟨.non, H', J.os, J.bare, J.base, J.hok, rfl, q⟩
  | brk => exact hs.elim fun _ z => z.elim fun _ z => False.elim z.2
  | cont => exact hs.elim fun _ z => z.elim fun _ z => False.elim z.2
theorem Fun.okH {P : Program} {w : World} {K : PySem.W.Frag} {mg : Str → Option Value} {base : Heap} {x qual : Str} {st : Stmt} {f : Addr} {fd : FuncData} {N ps : List Str} {k : Nat} {sp : Sp} (F : Fun K x qual st f fd) (S : FnScope N ps (defScope st)) (len : ∀ vs H Q E, sp vs H Q E → vs.length = ps.length)
    (hbody : ∀ (a : Addr) (cdv : Value) (A : Around) (outer : List Env) (s : Shared) (H : Hp) (vs : List V) (Q : VK) (E : XK), Room k (A.deeper (envOfC qual (defScope st) s.heap.objs.size f cdv)) → sp vs H Q E →
      ∃ t, PSs ((cxOf CX0 P w K mg base N qual (defScope st) f cdv A outer s H E).hand (.ref a)) (defBody st) t ∧ t { nx := fun _ H' => Q .non H', rt := Q } (start N vs) H) : FnOkH P w K mg base (k + 1) f fd ps sp := by
  obtain ⟨oc, od, kV, doc, pm, an, cdv, ct, osl, rfl, lk, hcd⟩ := F.ex
  exact fn_ofH lk hcd S len fun a A outer s H vs Q E hr hsp => hbody a cdv A outer s H vs Q E hr hsp
section
variable {X : Cx} {k k' : Nat} {f a : Addr} {fd : FuncData} {ps : List Str} {sp : Sp} {x : Str} {p pos : Pos} {e : Expr} {es : List Expr} {t : TA}
theorem pe_callH (F : FnOkH X.prog X.w X.K X.mg X.base k f fd ps sp) (hr : Room k' X.A) (hg : Gl X x) (hm : X.mg x = some (.ref f)) (hk : PySem.W.keepIn X.K (.ref f) = true) (hb : Binds X.K fd ps [])
    (ha : PA (X.hand (.ref a)) (e :: es) t) (hkk : k ≤ k' := by decide) (hdb : (x == ("__debug__" : Str)) = false := by decide) (he : starEach (e :: es) X.env = (false, eval e X.env) :: starEach es X.env := by rfl) (hpl : (backTo pos (starEach es X.env)).any (·.1) = false := by rfl) :
    PE (X.hand (.ref a)) (.Call (.Name x p) (e :: es) [] pos) (tCall sp [] E0 t) := by
  intro pins s σ H Q I h
  refine wpAny_Call_Name_kw (ld_glob I hg hm ?_ hdb)
  refine PySem.W.callWith_K (h₀ := X.base) I.ok.mod.kin hk (thn (ha pos pins s σ H _ I h) fun us s1 ⟨vs, H1, I1, r, q⟩ => ⟨I1.kIn, ?_⟩) he hpl
  change sp (vs ++ []) H1 Q E0 at q
  rw [List.append_nil] at q
  have hl : us.length = ps.length := by rw [← r.length]; exact F.len _ _ _ _ q
  have hb' := hb s1 us I1.kIn (by rw [List.append_nil]; exact hl)
  rw [List.append_nil] at hb'
  have e0 := I1.env0
  have e1 : Env0 X.prog X.w X.K X.mg X.base X.A X.stack s1 H1 := ⟨e0.frames, e0.mod, e0.bs, e0.bsz, e0.funs, e0.frf, e0.hok, e0.bare⟩
  refine wpAny_call (codeAny_mono (F.run a X.A X.stack s1 H1 ⟨us, []⟩ us vs Q E0 (hr.mono hkk) e1 hb' r q) fun rr s' hq => ?_)
  cases rr with
  | error e => exact hq.elim
  | ok fl =>
    cases fl with
    | ret u => exact I1.after hq
    | next => exact False.elim hq
    | brk => exact False.elim hq
    | cont => exact False.elim hq
end
end L2
namespace L2
open PySem PySem.Spec PyProof.Rows
def strOf : Expr → Option Str
  | .Constant (.str x) _ _ => some x
  | _ => none
def tVs (xs : List V) : TA := fun _ H Q => Q xs H
theorem pa_strs {X : Cx} : ∀ {es : List Expr} {xs : List Str}, es.map strOf = xs.map some → PA X es (tVs (xs.map V.str))
  | [], [], _ => pa_nil
  | [], _ :: _, h => by cases h
  | _ :: _, [], h => by cases h
  | e :: es, x :: xs, h => by
    have h1 : strOf e = some x := (List.cons.inj h).1
    cases e with
    | Constant c j pos =>
      cases c with
      | str z =>
        cases h1
        exact pa_cons pe_str (pa_strs (List.cons.inj h).2)
      | _ => cases h1
    | _ => cases h1
theorem pe_strs {X : Cx} {es : List Expr} {xs : List Str} {pos : Pos} (h : es.map strOf = xs.map some) : PE X (.List es pos) (tLst (tVs (xs.map V.str))) := pe_lst (pa_strs h)
structure PSW (X : Cx) (st : Stmt) (t : TS) : Prop where
  h : PS X st t
structure PEW (X : Cx) (e : Expr) (t : TE) : Prop where
  h : PE X e t
structure PAW (X : Cx) (es : List Expr) (t : TA) : Prop where
  h : PA X es t
theorem pa_consW {X : Cx} {e : Expr} {es : List Expr} {te : TE} {t : TA} (ha : PEW X e te) (hr : PAW X es t) (hs : starEach (e :: es) X.env = (false, eval e X.env) :: starEach es X.env := by rfl) : PAW X (e :: es) (tCons te t) := ⟨pa_cons ha.h hr.h hs⟩
theorem ex_cons {X : Cx} {st : Stmt} {rest : List Stmt} {t : TS} {G : TS → Prop} (h1 : PSW X st t) (h2 : ∃ u, PSs X rest u ∧ G (tSeq t u)) : ∃ t, PSs X (st :: rest) t ∧ G t :=
  h2.elim fun _ k => ⟨_, pss_cons h1.h k.1, k.2⟩
theorem ex_one {X : Cx} {st : Stmt} {t : TS} {G : TS → Prop} (h1 : PSW X st t) (h2 : G t) : ∃ t, PSs X [st] t ∧ G t := ⟨_, pss_one h1.h, h2⟩
theorem ps_pick {X : Cx} {es : List Expr} {xs : List Str} {e : Expr} {te : TE} {r : R2} {p1 p2 p3 : Pos} (h : es.map strOf = xs.map some) (hr : IxR X r) (he : PEW X e te) (hs : PlainIx e) : PSW X (.Return (some (.Subscript (.List es p1) e p2)) p3) (tRet (tOp r (tLst (tVs (xs.map V.str))) te)) :=
  ⟨ps_ret (pe_ix hr (pe_strs h) he.h hs)⟩
theorem ps_lst {X : Cx} {i : Nat} {x : Str} {es : List Expr} {ta : TA} {p1 p2 p3 : Pos} (hN : X.N.Nodup) (hi : X.N[i]? = some x) (hx : Loc X.env.scope x) (h : PAW X es ta) (hf : X.fn x = true ∨ X.env.scope.names.lookup x = some .local)
    (hs : swapsWith (.List es p2) (some (.Name x p1)) p3.line X.env = pure false := by rfl) : PSW X (.Assign [.Name x p1] (.List es p2) p3) (tAsg (tLst ta) (gName i)) := ⟨ps_set hN hi hx (pe_lst h.h) hs hf⟩
end L2
namespace L2
open PySem PySem.Spec PyProof.Rows
def RngAt (r : Addr) (lo hi : Int) (h : Heap) : Prop := ∃ t u v, IsRange h r lo hi 1 t u v
def upTo (lo : Int) (n : Nat) : List V := (List.range n).map fun i => V.int (lo + ((i : Nat) : Int))
theorem vals_upTo {lo : Int} : ∀ {n : Nat} {acc : Array Value}, ItemsOf (fun i v => ∃ t, v = Value.int (lo + i * 1) t) acc n → Vals (upTo lo n) acc.toList := by
  have key : ∀ (us : List Value) (k : Nat), (∀ j v, us[j]? = some v → ∃ t, v = Value.int (lo + ((k + j : Nat) : Int)) t) → Vals ((List.range' k us.length).map fun i => V.int (lo + ((i : Nat) : Int))) us := by
    intro us
    induction us with
    | nil => exact fun _ _ => .nil
    | cons u us ih =>
      intro k h
      obtain ⟨t, e⟩ := h 0 u rfl
      refine .cons ⟨t, ?_⟩ (ih (k + 1) fun j v hv => ?_)
      · rw [e]
        rfl
      · obtain ⟨t, e⟩ := h (j + 1) v hv
        exact ⟨t, by rw [e]; congr 2; omega⟩
  intro n acc h
  obtain ⟨hz, hi⟩ := h
  have := key acc.toList 0 fun j v hv => by
    obtain ⟨t, e⟩ := hi j v (by simpa using hv)
    exact ⟨t, by rw [e, Nat.zero_add, Int.mul_one]⟩
  unfold upTo
  rw [List.range_eq_range', ← hz]
  simpa using this
section
variable {X : Cx}
theorem rng_new {pins : List (Addr × Obj)} {σ : St} {H : Hp} {s : Shared} {lo hi : Int} {t u v : Tok} {tk : Nat} (I : Inv X pins σ H s) :
    Inv X pins σ (upd H s.heap.objs.size (.ext (RngAt s.heap.objs.size lo hi))) { s with heap := s.heap.push { cls := .type "range", data := .fields #[.int lo t, .int hi u, .int 1 v] }, toks := tk } :=
  I.laid (fun b o e => Heap.get?_push_of_some _ e) (Nat.le_refl _) (show ObjOk X.prog X.w _ _ _ (.ext (RngAt s.heap.objs.size lo hi)) from
    ⟨⟨t, u, v, IsRange.new ..⟩, ⟨_, Heap.get?_push_size _ rfl⟩, fun h1 h2 ⟨t, u, v, e⟩ k => ⟨t, u, v, k _ e⟩⟩)
theorem call_rng1 : CallR X (.type "range") (fun xs H Q => ∃ j : Int, xs = [.int j] ∧ ∀ r, H r = none → Q (.ref r) (upd H r (.ext (RngAt r 0 j)))) := by
  intro pins s σ H xs us Q I r h
  obtain ⟨j, rfl, q⟩ := h
  obtain ⟨u, rfl, t, rfl⟩ := r.one
  exact call_range_1 ⟨.ref s.heap.objs.size, _, rng_new I, rfl, q _ I.fresh⟩
theorem call_rng2 : CallR X (.type "range") (fun xs H Q => ∃ i j : Int, xs = [.int i, .int j] ∧ ∀ r, H r = none → Q (.ref r) (upd H r (.ext (RngAt r i j)))) := by
  intro pins s σ H xs us Q I r h
  obtain ⟨i, j, rfl, q⟩ := h
  obtain ⟨u, v, rfl, ⟨t, rfl⟩, ⟨t', rfl⟩⟩ := r.two
  exact call_range_2 ⟨.ref s.heap.objs.size, _, rng_new I, rfl, q _ I.fresh⟩
theorem call_listRng (hc : X.calm = true) : CallR X (.type "list") (fun xs H Q => ∃ (r : Addr) (lo hi : Int) (n : Nat), xs = [.ref r] ∧ H r = some (.ext (RngAt r lo hi)) ∧ 0 ≤ lo ∧ hi = lo + n ∧ hi ≤ 1000 ∧ ∀ l, H l = none → Q (.ref l) (upd H l (.lst (upTo lo n)))) := by
  intro pins s σ H xs us Q I r h
  obtain ⟨p, lo, hi, n, rfl, hp, h0, hn, h1, q⟩ := h
  obtain ⟨u, rfl, rx⟩ := r.one
  cases rx
  obtain ⟨⟨t, u, v, hr⟩, _⟩ := (show ObjOk X.prog X.w H s.heap p (.ext (RngAt p lo hi)) from I.hok p _ hp)
  have hs : Builtin.Range.rangeSize lo hi 1 = ((n : Nat) : Int) := by rw [rangeSize_one]; split <;> omega
  refine call_list_range (I.ok.hd hc) hr (small_one (by omega) (by omega) (by omega) (by omega)) hs (by omega) fun h' tk acc' c' kp e it => ?_
  have hz : (upTo lo n).length ≤ sizeLine := by
    unfold upTo
    rw [List.length_map, List.length_range]
    exact Nat.le_of_lt (small1000 (by omega))
  exact ⟨.ref s.heap.objs.size, _, I.laid kp (Nat.le_refl _) (show ObjOk X.prog X.w _ h' _ (.lst (upTo lo n)) from ⟨hz, acc'.toList, c', vals_upTo it, e⟩), rfl, q _ I.fresh⟩
end
end L2
namespace L2
open PySem PySem.Spec PyProof.Rows
section
variable {prog : Program} {w : World} {A : Around} {E : Value → Shared → Prop} {s : Shared}
theorem sort_one {a : Addr} {v : Value} {n : Nat} {R : Fin → Shared → Prop} (ho : s.heap.get? a = some (seqObj "list" #[v] n)) (h : R (.done (.ret .none)) { s with heap := sortedHeap s.heap a [v] #[v] }) :
    wpAny (model prog w) A (Builtin.«list.sort» ⟨[.ref a], []⟩) R E s := by
  have hlt : a < s.heap.objs.size := Heap.lt_size ho
  obtain ⟨m, hm⟩ : ∃ m, (s.heap.update a (Obj.mapSeq fun _ => (#[] : Array Value))).get? a = some (seqObj "list" #[] m) := ⟨_, get?_update_seq ho fun _ => #[]⟩
  have hm2 : (((s.heap.update a (Obj.mapSeq fun _ => (#[] : Array Value))).push (seqObj "tuple" #[v] 0)).push (seqObj "list" #[] 0)).get? a = some (seqObj "list" #[] m) := Heap.get?_push_of_some _ (Heap.get?_push_of_some _ hm)
  have ez : Array.map (fun x : Keyed => x.snd) (arrOf (SortSt.mk' general' ((#[v] : Array Value).zip #[v]) #[] 7 none)) = #[v] := by
    show Array.map (fun x : Keyed => x.snd) ((#[v] : Array Value).zip #[v]) = #[v]
    apply Array.ext'
    simp
  rw [list_sort_plain]
  refine wpAny_bind (listItems_at ho rfl (wpAny_bind (listUpdate_at ho rfl (wpAny_bind (seqEpoch_at hm rfl (wpAny_bind (wpAny_newTuple (wpAny_bind (wpAny_newList (wpAny_holding ?_))))))))))
  rw [if_pos (show (#[v] : Array Value).size < 2 from Nat.lt_succ_self 1), if_pos (show (#[v] : Array Value).size < 2 from Nat.lt_succ_self 1)]
  refine wpAny_bind (wpAny_pure ?_)
  dsimp only
  rw [StateT.run_pure]
  refine wpAny_bind (wpAny_pure (wpAny_bind (seqEpoch_at hm2 rfl (wpAny_bind (listUpdate_at hm2 rfl ?_ (Nat.zero_le _) (by show (Array.map (fun x : Keyed => x.snd) (arrOf (SortSt.mk' general' ((#[v] : Array Value).zip #[v]) #[] 7 none))).size ≤ _; rw [ez]; exact Nat.succ_le_succ (Nat.zero_le _)))))))
  rw [ez]
  show wpAny _ _ (if (m != m) = true then _ else _) _ _ _
  rw [if_neg (by simp)]
  exact wpAny_pure h
theorem sorted_one {l : Addr} {v : Value} {Q : Value → Shared → Prop} (hl : s.heap.IsList l #[v]) (h : Q (.ref (s.heap.objs.size + 1)) { s with heap := sortedAll s.heap [v] #[v] }) :
    wpAny (model prog w) A (call (.builtin "sorted") [.ref l]) Q E s := by
  have hz : ((s.heap.push (seqObj "list" #[] 0)).update s.heap.objs.size (Obj.mapSeq fun x => x ++ [v].toArray)).objs.size = s.heap.objs.size + 1 := (Heap.size_update _ _ _).trans (size_push' _ _)
  have hL : (((s.heap.push (seqObj "list" #[] 0)).update s.heap.objs.size (Obj.mapSeq fun x => x ++ [v].toArray)).push (seqObj "list" #[v] 0)).get? (s.heap.objs.size + 1) = some (seqObj "list" #[v] 0) := hz ▸ Heap.get?_push_size _ rfl
  refine Calls.call_function_entry kind_sorted plain_sorted entry_sorted (args_sorted1 _) ?_
  unfold Builtin.«sorted»
  refine wpAny_bind (m := checkCount "sorted" 1 1 _) (wpAny_pure (wpAny_bind (collect_list (vs := [v]) hl (wpAny_bind (wpAny_newList ?_)) (by show 1 ≤ sizeLine; decide))))
  dsimp only
  rw [hz]
  exact wpAny_bind (wpAny_holding (wpAny_call_entry slot_list_sort ⟨_, hL, rfl⟩ entry_list_sort (sort_one hL ⟨_, rfl, wpAny_pure ⟨_, rfl, h⟩⟩) (args_list_sort _)))
end
section
variable {X : Cx}
def rSort1 (K : PySem.W.Frag) : List V → Hp → VK → Prop := fun xs H Q => ∃ (p : Addr) (y : V), xs = [.ref p] ∧ SqL K H p [y] ∧ ∀ l : Addr, H l = none → Q (.ref l) (upd H l (.lst [y]))
theorem call_sorted1 : CallR X (.builtin "sorted") (rSort1 X.K) := by
  intro pins s σ H xs us Q I r h
  obtain ⟨p, y, rfl, hq, q⟩ := h
  obtain ⟨u, rfl, rx⟩ := r.one
  cases rx
  obtain ⟨its, rv, pl, hz⟩ := I.list hq
  obtain ⟨v, rfl, ry⟩ := rv.one
  obtain ⟨ep, ee⟩ := sortedAll_at s.heap [v] #[v]
  refine sorted_one pl.isList ?_
  exact ⟨.ref _, _, I.laid (t' := s.toks) (fun b o e => sortedAll_old e) (Nat.le_succ _) (show ObjOk X.prog X.w _ _ _ (.lst [y]) from ⟨hz, [v], ep, .cons ry .nil, ee⟩), rfl, q _ (I.hok.fresh (Nat.le_succ _))⟩
end
end L2
set_option maxHeartbeats 4000000
namespace Sw
open PySem L2
theorem nat_xor_and (n : Nat) : ∀ x y : Nat, x < 2 ^ n → (x ^^^ y) + 2 * (x &&& y) = x + y := by
  induction n with
  | zero =>
    intro x y h
    have : x = 0 := by omega
    subst this
    simp
  | succ n ih =>
    intro x y h
    have h1 := ih (x / 2) (y / 2) (by rw [Nat.pow_succ] at h; omega)
    have e1 : (x ^^^ y) / 2 = x / 2 ^^^ y / 2 := Nat.xor_div_two
    have e2 : (x &&& y) / 2 = x / 2 &&& y / 2 := Nat.and_div_two
    have e3 : (x ^^^ y) % 2 = 1 ↔ ¬ (x % 2 = 1 ↔ y % 2 = 1) := Nat.xor_mod_two_eq_one
    have e4 : (x &&& y) % 2 = 1 ↔ x % 2 = 1 ∧ y % 2 = 1 := Nat.and_mod_two_eq_one
    rw [← e1, ← e2] at h1
    have l1 : (x ^^^ y) % 2 < 2 := Nat.mod_lt _ (by decide)
    have l2 : (x &&& y) % 2 < 2 := Nat.mod_lt _ (by decide)
    generalize x ^^^ y = p at *
    generalize x &&& y = q at *
    rcases Nat.mod_two_eq_zero_or_one x with hx | hx <;> rcases Nat.mod_two_eq_zero_or_one y with hy | hy <;> rw [hx, hy] at e3 e4 <;> simp at e3 e4 <;> omega
theorem xor_and (x y : Nat) : (x ^^^ y) + 2 * (x &&& y) = x + y := nat_xor_and x x y Nat.lt_two_pow_self
theorem bitXor_nat (x y : Nat) : Builtin.bitXor (x : Int) (y : Int) = ((x ^^^ y : Nat) : Int) := by
  have e := xor_and x y
  have e1 : Builtin.bitAnd (x : Int) (y : Int) = ((x &&& y : Nat) : Int) := by simp [Builtin.bitAnd]
  have e2 : Builtin.bitXor (x : Int) (y : Int) = (x : Int) + (y : Int) - 2 * Builtin.bitAnd (x : Int) (y : Int) := PyProof.Rows.bitXor_and _ _
  rw [e2, e1]
  omega
abbrev nv (a : Nat) : V := .int (a : Int)
def turned (sw ps : List Nat) : Nat := ps.foldl (fun a i => a ^^^ sw.getD i 0) 0
theorem turned_snoc (sw ps : List Nat) (i : Nat) : turned sw (ps ++ [i]) = turned sw ps ^^^ sw.getD i 0 := by
  unfold turned
  rw [List.foldl_append]
  rfl
theorem xor_back (a b : Nat) : a ^^^ b ^^^ b = a := by rw [Nat.xor_assoc, Nat.xor_self, Nat.xor_zero]
structure Press (ps : List Nat) (m : Nat) : Prop where
  up : ps.Pairwise (· < ·)
  lt : ∀ a ∈ ps, a < m
def pressV (before : Int) (m : Int) : List V → Bool
  | [] => decide (before < m)
  | .int a :: r => if a ≤ before then false else pressV a m r
  | _ :: _ => false
theorem pressV_nats {m : Nat} : ∀ (ps : List Nat) (b : Int), ps.Pairwise (· < ·) → (∀ a ∈ ps, b < (a : Int)) → (∀ a ∈ ps, a < m) → b < (m : Int) → pressV b m (ps.map nv) = true
  | [], b, _, _, _, h => by simp [pressV, h]
  | a :: r, b, hp, h1, h2, h3 => by
    have e1 := h1 a List.mem_cons_self
    show (if (a : Int) ≤ b then false else pressV a m (r.map nv)) = true
    rw [if_neg (by omega)]
    have hp' := List.pairwise_cons.mp hp
    refine pressV_nats r a hp'.2 (fun c hc => ?_) (fun c hc => h2 c (List.mem_cons_of_mem _ hc)) ?_
    · have := hp'.1 c hc
      omega
    · have := h2 a List.mem_cons_self
      omega
theorem press_ok {ps : List Nat} {m : Nat} (h : Press ps m) : pressV (-1) m (ps.map nv) = true :=
  pressV_nats ps (-1) h.up (fun a _ => by omega) h.lt (by omega)
theorem Press.snoc {ps : List Nat} {m : Nat} (h : Press ps m) : Press (ps ++ [m]) (m + 1) := by
  refine ⟨List.pairwise_append.mpr ⟨h.up, List.pairwise_singleton _ _, fun a ha b hb => ?_⟩, fun a ha => ?_⟩
  · have hb' : b = m := by simpa using hb
    rw [hb']
    exact h.lt a ha
  · rcases List.mem_append.mp ha with z | z
    · exact Nat.lt_succ_of_lt (h.lt a z)
    · have : a = m := by simpa using z
      omega
theorem Press.skip {ps : List Nat} {m : Nat} (h : Press ps m) : Press ps (m + 1) := ⟨h.up, fun a ha => Nat.lt_succ_of_lt (h.lt a ha)⟩
theorem nv_eqVs (xs : List Nat) : eqVs (xs.map nv) (xs.map nv) = true := by
  have e := eqVs_ints (xs.map fun a : Nat => (a : Int)) (xs.map fun a : Nat => (a : Int))
  rw [List.map_map] at e
  rw [show xs.map nv = xs.map (V.int ∘ fun a : Nat => (a : Int)) from rfl, e]
  simp
theorem nv_flat (xs : List Nat) : (xs.map nv).all flatV = true := by
  rw [List.all_map]
  simp [Function.comp_def, flatV]
theorem nv_get {xs : List Nat} {i : Nat} {x : V} (h : (xs.map nv)[i]? = some x) : ∃ a, xs[i]? = some a ∧ x = nv a := by
  rw [List.getElem?_map] at h
  cases e : xs[i]? with
  | none => rw [e] at h; cases h
  | some a => rw [e] at h; exact ⟨a, rfl, (Option.some.inj h).symm⟩
end Sw
namespace Sw
open PySem L2
def FnAt (P : Program) (w : World) (K : PySem.W.Frag) (mg : Str → Option Value) (base : Heap) (x : Str) (k : Nat) (ps : List Str) (sp : Sp) : Prop :=
  ∃ f fd, mg x = some (.ref f) ∧ PySem.W.keepIn K (.ref f) = true ∧ Binds K fd ps [] ∧ FnOk P w K mg base CX0 k f fd ps sp
theorem pe_fn {X : Cx} {x : Str} {k k' : Nat} {ps : List Str} {sp : Sp} {e : Expr} {es : List Expr} {t : TA} {p pos : Pos} (F : FnAt X.prog X.w X.K X.mg X.base x k ps sp) (hr : Room k' X.A) (ha : PA X (e :: es) t) (hk : k ≤ k' := by decide) (hg : Gl X x := by rfl)
    (hdb : (x == ("__debug__" : Str)) = false := by decide) (he : starEach (e :: es) X.env = (false, eval e X.env) :: starEach es X.env := by rfl) (hpl : (backTo pos (starEach es X.env)).any (·.1) = false := by rfl) :
    PE X (.Call (.Name x p) (e :: es) [] pos) (tCall sp [] E0 t) := by
  obtain ⟨f, fd, hm, hkp, hb, G⟩ := F
  exact pe_call G (hr.mono hk) hg hm hkp hb .nil pass0 ha hdb he hpl
def MethAt (P : Program) (w : World) (K : PySem.W.Frag) (mg : Str → Option Value) (base : Heap) (C : Addr) (m : Str) (k : Nat) (ps : List Str) (sp : Sp) : Prop :=
  ∃ f fd, Meth K C m f ∧ Binds K fd ps [] ∧ FnOk P w K mg base CX0 k f fd ps sp
theorem pe_mt0 {X : Cx} {C : Addr} {m : Str} {k k' : Nat} {ps : List Str} {sp : Sp} {o : Expr} {ta : TE} {apos pos : Pos} {pl : Sem Bool} (F : MethAt X.prog X.w X.K X.mg X.base C m k ps sp) (c : Cls X.K C) (hr : Room k' X.A) (he : PE X o ta) (hk : k ≤ k' := by decide)
    (ht : eval (.Call (.Attribute o m apos) [] [] pos) X.env = (do
      let ov ← eval o X.env
      standAt apos.atName
      let (f, first) ← holding [ov] (getMethod ov m pl)
      callWith pos f first (backTo pos (starEach [] X.env)) (backToKw pos (keywordEach [] X.env))) := by rfl) : PE X (.Call (.Attribute o m apos) [] [] pos) (tMeth C m sp [] E0 ta tNil) := by
  obtain ⟨f, fd, hm, hb, G⟩ := F
  exact pe_meth0 he c hm G (hr.mono hk) hb .nil pass0 ht
theorem pe_isi {X : Cx} {T : String} {y : Str} {e : Expr} {te : TE} {p p2 pos : Pos} (hm : X.mg "isinstance" = none) (hm2 : X.mg y = none) (hv : bootBuiltins y = some (.type T)) (he : PE X e te) (hg : Gl X "isinstance" := by rfl) (hg2 : Gl X y := by rfl) (hn : y ≠ "__name__" := by decide) (hd : (y == ("__debug__" : Str)) = false := by decide)
    (hs : starEach [e, .Name y p2] X.env = (false, eval e X.env) :: starEach [.Name y p2] X.env := by rfl) (hpl : (backTo pos (starEach [.Name y p2] X.env)).any (·.1) = false := by rfl) (hs2 : starEach [.Name y p2] X.env = (false, eval (.Name y p2) X.env) :: starEach [] X.env := by rfl) :
    PE X (.Call (.Name "isinstance" p) [e, .Name y p2] [] pos) (tCB (rIsi X.K) (tCons te (tCons (tC (.ty T)) tNil))) :=
  pe_callB call_isinst hg hm PyProof.Rows.boot_isinstance (pa_cons he (pa_cons (pe_bltn hg2 hm2 hv (v := .ty T) rfl hn hd) pa_nil hs2) hs) (by decide) (by decide) hs hpl
structure KindOf (K : PySem.W.Frag) (H : Hp) (v : V) (t : Value) (b1 b2 : Bool) : Prop where
  ty : TyOf K H v t
  i : PySem.W.kitOne K t (.type "int") = some b1
  b : PySem.W.kitOne K t (.type "bool") = some b2
theorem kind_int (K : PySem.W.Frag) (H : Hp) (z : Int) : KindOf K H (.int z) (.type "int") true false := ⟨.int z, by rfl, by rfl⟩
def MkAt (P : Program) (w : World) (K : PySem.W.Frag) (mg : Str → Option Value) (base : Heap) (x : Str) (C : Addr) (k : Nat) (ps : List Str) (sp : Sp) : Prop :=
  ∃ f fd, mg x = some (.ref C) ∧ Mk K C f ∧ Binds K fd ps [] ∧ FnOk P w K mg base CX0 k f fd ps sp
theorem pe_mk {X : Cx} {x : Str} {C : Addr} {k k' : Nat} {ps : List Str} {sp : Sp} {e : Expr} {es : List Expr} {t : TA} {p pos : Pos} (F : MkAt X.prog X.w X.K X.mg X.base x C k ps sp) (hr : Room k' X.A) (ha : PA X (e :: es) t) (hk : k + 1 ≤ k' := by decide) (hg : Gl X x := by rfl)
    (hdb : (x == ("__debug__" : Str)) = false := by decide) (he : starEach (e :: es) X.env = (false, eval e X.env) :: starEach es X.env := by rfl) (hpl : (backTo pos (starEach es X.env)).any (·.1) = false := by rfl) :
    PE X (.Call (.Name x p) (e :: es) [] pos) (tMake C sp [] E0 t) := by
  obtain ⟨f, fd, hm, M, hb, G⟩ := F
  exact pe_make M G (hr.mono hk) hg hm hb .nil pass0 ha hdb he hpl
def top (i : Nat) : Stmt := PySem.Challenge.pw_switchlamps_k09_refused.main.body.getD i (.Pass ⟨0, 0, 0, 0⟩)
abbrev sInit : Stmt := inClass (top 10) 0
abbrev sSwitches : Stmt := inClass (top 10) 1
abbrev sIsNumber : Stmt := top 11
abbrev sAreLamps : Stmt := top 12
abbrev sIsPress : Stmt := top 13
abbrev sTurnedBy : Stmt := top 14
abbrev sCellAt : Stmt := top 30
abbrev sLaw : Stmt := top 36
theorem lw : ¬ (("lamps" : Str) = "wiring") := by decide +kernel
def flds (n : Nat) (w : Addr) : List (Str × V) := putF "wiring" (.ref w) (putF "lamps" (nv n) [])
theorem flds_lamps (n : Nat) (w : Addr) : (flds n w).lookup ("lamps" : Str) = some (nv n) := by
  unfold flds
  rw [lookup_putF, if_neg lw, lookup_putF, if_pos rfl]
theorem flds_wiring (n : Nat) (w : Addr) : (flds n w).lookup ("wiring" : Str) = some (.ref w) := by
  unfold flds
  rw [lookup_putF, if_pos rfl]
theorem flds_no (n : Nat) (w : Addr) {m : Str} (h1 : ¬ m = "wiring") (h2 : ¬ m = "lamps") : (flds n w).lookup m = none := by
  unfold flds
  rw [lookup_putF, if_neg h1, lookup_putF, if_neg h2]
  all_goals rfl
structure HouseAt (C : Addr) (H : Hp) (p : Addr) (n : Nat) (sw : List Nat) : Prop where
  ob : ∃ dx w, H p = some (.ins C dx (flds n w)) ∧ H w = some (.tup (sw.map nv))
theorem HouseAt.same {C : Addr} {H H' : Hp} {p : Addr} {n : Nat} {sw : List Nat} (h : HouseAt C H p n sw) (s : Same H H') : HouseAt C H' p n sw := by
  obtain ⟨dx, w, h1, h2⟩ := h.ob
  exact ⟨dx, w, s _ _ h1, s _ _ h2⟩
structure Good (n : Nat) (sw : List Nat) : Prop where
  n1 : 1 ≤ n
  n10 : n ≤ 10
  s8 : sw.length ≤ 8
  lt : ∀ a ∈ sw, a < 2 ^ n
theorem same_upd {H : Hp} {a : Addr} {o : HO} (h : H a = none) : Same H (upd H a o) := fun b u e => by rw [upd_ne (ne_of_none e h)]; exact e
theorem small9 {n : Nat} (h : n ≤ 100) : n < sizeLine := small1000 (by omega)
structure Txt (K : PySem.W.Frag) (mg : Str → Option Value) (C : Addr) : Prop where
  cl : Cls K C
  nL : NoAttr K C "lamps"
  nW : NoAttr K C "wiring"
  mgC : mg "House" = some (.ref C)
  mL : ∃ t, mg "MOST_LAMPS" = some (.int 10 t)
  mS : ∃ t, mg "MOST_SWITCHES" = some (.int 8 t)
  len : mg "len" = none
  range : mg "range" = none
  isi : mg "isinstance" = none
  int : mg "int" = none
  bool : mg "bool" = none
  list : mg "list" = none
  tuple : mg "tuple" = none
  all : mg "all" = none
def spIsNumber (K : PySem.W.Frag) : Sp := fun vs H Q _ => ∃ v t b1 b2, vs = [v] ∧ KindOf K H v t b1 b2 ∧ Q (.bl (b1 && !b2)) H
def spAreLamps (K : PySem.W.Frag) : Sp := fun vs H Q _ => ∃ (c : Nat) (v : V) (t : Value) (b1 b2 : Bool), vs = [nv c, v] ∧ c ≤ 1000 ∧ KindOf K H v t b1 b2 ∧
  ((b1 && !b2) = true → ∃ z, v = .int z ∧ Q (.bl (decide (0 ≤ z) && decide (z < 2 ^ c))) H) ∧ ((b1 && !b2) = false → Q (.bl false) H)
def spInit (K : PySem.W.Frag) (C : Addr) : Sp := fun vs H Q _ => ∃ (p dx l : Addr) (n : Nat) (sw : List Nat), vs = [.ref p, nv n, .ref l] ∧ H p = some (.ins C dx []) ∧ H l = some (.lst (sw.map nv)) ∧ Good n sw ∧
  ∀ H', HouseAt C H' p n sw → (∀ b o, H b = some o → b ≠ p → H' b = some o) → Q .non H'
def spSwitches (C : Addr) : Sp := fun vs H Q _ => ∃ (p : Addr) (n : Nat) (sw : List Nat), vs = [.ref p] ∧ HouseAt C H p n sw ∧ ∀ l, H l = none → Q (.ref l) (upd H l (.lst (sw.map nv)))
def spIsPress (C : Addr) : Sp := fun vs H Q _ => ∃ (p l : Addr) (n : Nat) (sw : List Nat) (zs : List Int), vs = [.ref p, .ref l] ∧ HouseAt C H p n sw ∧ sw.length ≤ 8 ∧ H l = some (.lst (zs.map V.int)) ∧
  ∀ H', Same H H' → Q (.bl (pressV (-1) sw.length (zs.map V.int))) H'
def spTurnedBy (C : Addr) : Sp := fun vs H Q _ => ∃ (p l : Addr) (n : Nat) (sw ps : List Nat), vs = [.ref p, .ref l] ∧ HouseAt C H p n sw ∧ H l = some (.lst (ps.map nv)) ∧ (∀ a ∈ ps, a < sw.length) ∧
  ∀ H', Same H H' → Q (nv (turned sw ps)) H'
def spCellAt (K : PySem.W.Frag) : Sp := fun vs H Q _ => ∃ (a : Addr) (ns : List Int) (k : Nat), vs = [.ref a, nv k] ∧ SqL K H a (ns.map V.int) ∧ ∀ z : Int, Q (.int z) H
def spLaw (K : PySem.W.Frag) : Sp := fun vs H Q _ => ∃ (a : Addr) (ns : List Int), vs = [.ref a] ∧ SqL K H a (ns.map V.int) ∧ ns.length ≤ 63 ∧ ∀ H', Q (.bl true) H'
section
variable {X : Cx}
theorem shl_nat (n : Nat) : (1 : Int) * 2 ^ ((n : Int).toNat) = ((2 ^ n : Nat) : Int) := by simp
theorem op_shl1 : OpR X (binaryOp .LShift) (fun x y H Q => ∃ n : Nat, x = .int 1 ∧ y = nv n ∧ n ≤ 1000 ∧ Q (nv (2 ^ n)) H) := fun pins s σ H x y v u Q I rx ry h => by
  obtain ⟨n, rfl, rfl, hn, q⟩ := h
  exact op_shl pins s σ H _ _ v u Q I rx ry ⟨1, n, rfl, rfl, ⟨by omega, by omega, by decide⟩, by show Q (.int (1 * 2 ^ ((n : Int).toNat))) H; rw [shl_nat]; exact q⟩
theorem op_xorN : OpR X (binaryOp .BitXor) (fun x y H Q => ∃ a b : Nat, x = nv a ∧ y = nv b ∧ Q (nv (a ^^^ b)) H) := fun pins s σ H x y v u Q I rx ry h => by
  obtain ⟨a, b, rfl, rfl, q⟩ := h
  exact op_xor pins s σ H _ _ v u Q I rx ry ⟨a, b, rfl, rfl, by show Q (.int (Builtin.bitXor a b)) H; rw [bitXor_nat]; exact q⟩
end
theorem iteP {c A B : Prop} [Decidable c] (hc : c) (h : A) : if decide c = true then A else B := by rw [if_pos (decide_eq_true hc)]; exact h
theorem iteN {c A B : Prop} [Decidable c] (hc : ¬ c) (h : B) : if decide c = true then A else B := by rw [decide_eq_false hc, if_neg Bool.false_ne_true]; exact h
theorem iteB {b : Bool} {A B : Prop} (hb : b = false) (h : B) : if b = true then A else B := by subst hb; exact iteF h
theorem iteBT {b : Bool} {A B : Prop} (hb : b = true) (h : A) : if b = true then A else B := by subst hb; exact iteT h
section
variable {P : Program} {w : World} {K : PySem.W.Frag} {mg : Str → Option Value} {base : Heap} {C : Addr}
theorem scN : FnScope ["value"] ["value"] (defScope sIsNumber) := ⟨rfl, rfl, rfl, by decide +kernel, rfl, by decide +kernel, by decide +kernel⟩
theorem ok_isNumber {f : Addr} {fd : FuncData} (F : Fun K "is_number" "is_number" sIsNumber f fd) (T : Txt K mg C) : FnOk P w K mg base CX0 1 f fd ["value"] (spIsNumber K) := by
  refine F.ok scN (fun vs H Q E h => ?_) (fun cdv A outer s H vs Q E hr h => ?_)
  · obtain ⟨v, t, b1, b2, rfl, _⟩ := h
    rfl
  · obtain ⟨v, t, b1, b2, rfl, kd, k⟩ := h
    refine ⟨_, pss_one (ps_ret (pe_and (pe_isi T.isi T.int PyProof.Rows.boot_int (pv 0)) (pe_one (pe_not (pe_isi T.isi T.bool PyProof.Rows.boot_bool (pv 0)))))), ?_⟩
    refine ⟨_, rfl, v, "int", t, b1, rfl, kd.ty, kd.i, b1, rfl, ?_⟩
    cases b1 with
    | false => exact iteF k
    | true => exact iteT ⟨_, rfl, v, "bool", t, b2, rfl, kd.ty, kd.b, b2, rfl, k⟩
theorem scA : FnScope ["count", "value"] ["count", "value"] (defScope sAreLamps) := ⟨rfl, rfl, rfl, by decide +kernel, rfl, by decide +kernel, by decide +kernel⟩
theorem ok_areLamps {f : Addr} {fd : FuncData} (F : Fun K "are_lamps" "are_lamps" sAreLamps f fd) (FN : FnAt P w K mg base "is_number" 1 ["value"] (spIsNumber K)) : FnOk P w K mg base CX0 2 f fd ["count", "value"] (spAreLamps K) := by
  refine F.ok scA (fun vs H Q E h => ?_) (fun cdv A outer s H vs Q E hr h => ?_)
  · obtain ⟨c, v, t, b1, b2, rfl, _⟩ := h
    rfl
  · obtain ⟨c, v, t, b1, b2, rfl, hc, kd, k1, k2⟩ := h
    refine ⟨_, pss_one (ps_ret (pe_and (pe_fn FN hr (pa_cons (pv 1) pa_nil)) (pe_one (pe_chain op_le op_lt pe_int (pv 1) (pe_op op_shl1 pe_int (pv 0)))))), ?_⟩
    refine ⟨_, rfl, v, t, b1, b2, rfl, kd, _, rfl, ?_⟩
    refine ite2 (fun hb => ?_) (fun hb => ?_)
    · obtain ⟨z, rfl, q⟩ := k1 hb
      refine ⟨_, rfl, 0, z, rfl, rfl, _, rfl, ?_⟩
      refine ite2 (fun h0 => ?_) (fun h0 => ?_)
      · refine ⟨_, rfl, c, rfl, rfl, hc, z, _, rfl, rfl, ?_⟩
        rw [h0, Bool.true_and] at q
        have e : (2 : Int) ^ c = ((2 ^ c : Nat) : Int) := by simp
        rw [e] at q
        exact q
      · have h0' : decide (0 ≤ z) = false := by simpa using h0
        rw [h0', Bool.false_and] at q
        exact q
    · exact k2 (by simpa using hb)
def compOfInit : Scope := match (defBody sInit).getD 2 (.Pass ⟨0, 0, 0, 0⟩) with
  | .If (.UnaryOp _ (.Call _ [.ListComp _ _ sc _] _ _) _) _ _ _ => sc
  | _ => defScope sInit
theorem scI : FnScope ["self", "lamps", "switches"] ["self", "lamps", "switches"] (defScope sInit) := ⟨rfl, rfl, rfl, by decide +kernel, rfl, by decide +kernel, by decide +kernel⟩
theorem csI : CompScope (defScope sInit) compOfInit ["self", "lamps", "switches"] "turned" [1] ["lamps"] := ⟨rfl, by decide +kernel, by decide +kernel, by decide +kernel, by decide +kernel, by decide +kernel, by decide +kernel, by decide +kernel⟩
theorem lamps_ok {a n : Nat} (h : a < 2 ^ n) : (decide (0 ≤ (a : Int)) && decide ((a : Int) < 2 ^ n)) = true := by
  have e : (2 : Int) ^ n = ((2 ^ n : Nat) : Int) := by simp
  rw [e, Bool.and_eq_true]
  exact ⟨decide_eq_true (by omega), decide_eq_true (by omega)⟩
theorem ok_init {f : Addr} {fd : FuncData} (F : Fun K "__init__" "House.__init__" sInit f fd) (T : Txt K mg C) (FN : FnAt P w K mg base "is_number" 1 ["value"] (spIsNumber K)) (FA : FnAt P w K mg base "are_lamps" 2 ["count", "value"] (spAreLamps K)) :
    FnOk P w K mg base CX0 3 f fd ["self", "lamps", "switches"] (spInit K C) := by
  refine F.ok scI (fun vs H Q E h => ?_) (fun cdv A outer s H vs Q E hr h => ?_)
  · obtain ⟨p, dx, l, n, sw, rfl, _⟩ := h
    rfl
  · obtain ⟨p, dx, l, n, sw, rfl, hp, hl, g, k⟩ := h
    obtain ⟨tL, mL⟩ := T.mL
    obtain ⟨tS, mS⟩ := T.mS
    refine ⟨_, pss_cons (ps_if (PW.pt (pw_or (pt_not (pt_val (pe_fn FN hr (pa_cons (pv 1) pa_nil)))) (pw_or1 (pt_not (pt_chain op_le op_le pe_int (pv 1) (pe_glob (v := .int 10) rfl mL ⟨_, rfl⟩)))))) pss_never pss_nil)
      (pss_cons (ps_if (PW.pt (pw_or (pt_not (pt_val (pe_isi T.isi T.list PyProof.Rows.boot_list (pv 2)))) (pw_or1 (pt_cmpR op_gt (pe_callB call_len_seq rfl T.len PySem.boot_len (pa_cons (pv 2) pa_nil)) (pe_glob (v := .int 8) rfl mS ⟨_, rfl⟩) (nomark _))))) pss_never pss_nil)
      (pss_cons (ps_if (pt_not (pt_val (pe_callB (call_all rfl) rfl T.all PyProof.Rows.boot_all (pa_cons (pe_comp rfl csI (pi_list (pv 2)) (fun _ _ _ _ => pts_nil) (fun _ _ _ _ => pe_fn FA hr (pa_cons (pv 1) (pa_cons (pv 0) pa_nil)))) pa_nil)))) pss_never pss_nil)
      (pss_cons (ps_fld (pv 0) (pv 1) rfl)
      (pss_one (ps_fld (pv 0) (pe_callTy call_tuple_of rfl T.tuple PyProof.Rows.boot_tuple (pa_cons (pv 2) pa_nil)) rfl))))), ?_⟩
    refine ⟨_, rfl, nv n, _, true, false, rfl, kind_int K H n, _, rfl, ?_⟩
    refine iteF ?_
    refine ⟨_, rfl, 1, n, rfl, rfl, _, rfl, ?_⟩
    refine iteP (by have := g.n1; omega) ?_
    refine ⟨n, 10, rfl, rfl, _, rfl, ?_⟩
    refine iteNS (by have := g.n10; omega) ?_
    refine ⟨_, rfl, .ref l, "list", _, true, rfl, .lst hl, by rfl, _, rfl, ?_⟩
    refine iteF ?_
    refine ⟨_, rfl, l, _, rfl, .inl (SqL.of hl), _, 8, rfl, rfl, _, rfl, ?_⟩
    refine iteN (by rw [List.length_map]; have := g.s8; omega) ?_
    refine ⟨_, rfl, l, rfl, ⟨_, SqL.of hl⟩, fun acc hacc => comp_list (K := K) (a := l) (xs := sw.map nv) (fun i ys H' => i ≤ sw.length ∧ ys = (List.replicate i true).map V.bl ∧ H' = upd H acc (.lst ys)) ⟨Nat.zero_le _, rfl, rfl⟩ ?_ ?_ ?_⟩
    · rintro i ys H' ⟨hi, _, rfl⟩
      exact ⟨by rw [List.length_map]; exact hi, SqL.of (by rw [upd_ne (ne_of_none hl hacc)]; exact hl)⟩
    · rintro i x ys H' hx ⟨hi, rfl, rfl⟩
      obtain ⟨a, ha, rfl⟩ := nv_get hx
      have hilt : i < sw.length := (List.getElem?_eq_some_iff.mp ha).1
      refine tTrue_mk ?_
      refine iteT ?_
      refine ⟨nv n, rfl, nv a, rfl, n, nv a, _, true, false, rfl, by have := g.n10; omega, kind_int K _ a, fun _ => ⟨a, rfl, upd_same, ?_, hilt, ?_, ?_⟩, fun z => by cases z⟩
      · rw [List.length_map, List.length_replicate]
        exact small9 (by have := g.s8; omega)
      · rw [lamps_ok (g.lt a (List.mem_of_getElem? ha)), List.replicate_succ', List.map_append]
        rfl
      · rw [upd_upd]
    · rintro ys H' ⟨_, rfl, rfl⟩
      refine ⟨acc, List.replicate (sw.map nv).length true, rfl, SqL.of upd_same, _, rfl, ?_⟩
      have e : (!(List.replicate (sw.map nv).length true).all id) = false := by simp
      refine iteB e ?_
      have npl : p ≠ l := ne_of hp hl (by intro z; cases z)
      have npa : p ≠ acc := ne_of_none hp hacc
      refine ⟨_, rfl, _, rfl, p, C, dx, [], rfl, (by rw [upd_ne npa]; exact hp), T.cl, T.nL, (by show 0 < 1000; decide), ?_⟩
      refine ⟨_, rfl, l, _, rfl, .inl ⟨SqL.of (by rw [upd_ne npl.symm, upd_ne (ne_of_none hl hacc)]; exact hl), fun u hu => ?_⟩⟩
      have hu1 : H u = none := by
        cases e1 : H u with
        | none => rfl
        | some o =>
          by_cases hup : u = p
          · rw [hup, upd_same] at hu; cases hu
          · rw [upd_ne hup, upd_ne (ne_of_none e1 hacc), e1] at hu; cases hu
      have npu : p ≠ u := ne_of_none hp hu1
      refine ⟨_, rfl, p, C, dx, _, rfl, (by rw [upd_ne npu, upd_same]), T.cl, T.nW, (by show 1 < 1000; decide), ?_⟩
      refine k _ ⟨dx, u, upd_same, by rw [upd_ne npu.symm, upd_same]⟩ fun b o hb hbp => ?_
      rw [upd_ne hbp, upd_ne (ne_of_none hb hu1), upd_ne hbp, upd_ne (ne_of_none hb hacc)]
      exact hb
theorem scS : FnScope ["self"] ["self"] (defScope sSwitches) := ⟨rfl, rfl, rfl, by decide +kernel, rfl, by decide +kernel, by decide +kernel⟩
theorem ok_switches {f : Addr} {fd : FuncData} (F : Fun K "switches" "House.switches" sSwitches f fd) (T : Txt K mg C) : FnOk P w K mg base CX0 1 f fd ["self"] (spSwitches C) := by
  refine F.ok scS (fun vs H Q E h => ?_) (fun cdv A outer s H vs Q E hr h => ?_)
  · obtain ⟨p, n, sw, rfl, _⟩ := h
    rfl
  · obtain ⟨p, n, sw, rfl, hh, k⟩ := h
    obtain ⟨dx, u, h1, h2⟩ := hh.ob
    refine ⟨_, pss_one (ps_ret (pe_callTy call_list_of rfl T.list PyProof.Rows.boot_list (pa_cons (pe_fld (pv 0) rfl) pa_nil))), ?_⟩
    exact ⟨_, rfl, p, C, dx, _, _, rfl, h1, T.cl, T.nW, flds_wiring n u, u, _, rfl, .inr (SqT.of h2), k⟩
abbrev FSw (P : Program) (w : World) (K : PySem.W.Frag) (mg : Str → Option Value) (base : Heap) (C : Addr) : Prop := MethAt P w K mg base C "switches" 1 ["self"] (spSwitches C)
theorem sw_no (n : Nat) (u : Addr) : (flds n u).lookup ("switches" : Str) = none := flds_no n u (by decide +kernel) (by decide +kernel)
theorem scP : FnScope ["house", "value", "before", "at"] ["house", "value"] (defScope sIsPress) := ⟨rfl, rfl, rfl, by decide +kernel, rfl, by decide +kernel, by decide +kernel⟩
theorem int_get {xs : List Int} {i : Nat} {x : V} (h : (xs.map V.int)[i]? = some x) : ∃ a, xs[i]? = some a ∧ x = .int a := by
  rw [List.getElem?_map] at h
  cases e : xs[i]? with
  | none => rw [e] at h; cases h
  | some a => rw [e] at h; exact ⟨a, rfl, (Option.some.inj h).symm⟩
theorem drop_int {ps : List Int} {i : Nat} {a : Int} (h : ps[i]? = some a) : (ps.drop i).map V.int = V.int a :: (ps.drop (i + 1)).map V.int := by
  obtain ⟨hi, rfl⟩ := List.getElem?_eq_some_iff.mp h
  rw [List.drop_eq_getElem_cons hi]
  rfl
theorem ok_isPress {f : Addr} {fd : FuncData} (F : Fun K "is_press" "is_press" sIsPress f fd) (T : Txt K mg C) (FN : FnAt P w K mg base "is_number" 1 ["value"] (spIsNumber K)) (FS : FSw P w K mg base C) : FnOk P w K mg base CX0 2 f fd ["house", "value"] (spIsPress C) := by
  refine F.ok scP (fun vs H Q E h => ?_) (fun cdv A outer s H vs Q E hr h => ?_)
  · obtain ⟨p, l, n, sw, zs, rfl, _⟩ := h
    rfl
  · obtain ⟨p, l, n, sw, zs, rfl, hh, h8, hl, k⟩ := h
    refine ⟨_, pss_cons (ps_if (pt_not (pt_val (pe_isi T.isi T.list PyProof.Rows.boot_list (pv 1)))) (pss_one (ps_ret pe_bl)) pss_nil)
      (pss_cons (ps_set (i := 2) scP.nd rfl (Or.inl rfl) (pe_un un_neg pe_int))
      (pss_cons (ps_for PassesOwn.never rfl (pi_list (pv 1)) (pg_name (i := 3) scP.nd rfl (Or.inl rfl))
        (pss_cons (ps_if (PW.pt (pw_or (pt_not (pt_val (pe_fn FN hr (pa_cons (pv 3) pa_nil)))) (pw_or1 (pt_cmpR op_le (pv 3) (pv 2) (nomark _))))) (pss_one (ps_ret pe_bl)) pss_nil)
        (pss_one (ps_set (i := 2) scP.nd rfl (Or.inl rfl) (pv 3)))))
      (pss_one (ps_ret (pe_cmpR op_lt (pv 2) (pe_callB call_len_seq rfl T.len PySem.boot_len (pa_cons (pe_mt0 FS T.cl hr (pv 0)) pa_nil)) (nomark _)))))), ?_⟩
    refine ⟨_, rfl, .ref l, "list", _, true, rfl, .lst hl, by rfl, _, rfl, ?_⟩
    refine iteF ?_
    refine ⟨1, rfl, ?_⟩
    refine ⟨_, rfl, l, rfl, ⟨_, SqL.of hl⟩, for_list (K := K) (a := l) (xs := zs.map V.int) (fun i σ H' => ∃ (b : Int) (v : Option V), σ = [some (.ref p), some (.ref l), some (.int b), v] ∧ H' = H ∧ pressV (-1) sw.length (zs.map V.int) = pressV b sw.length ((zs.drop i).map V.int))
      ⟨-1, none, rfl, rfl, by rw [List.drop_zero]⟩ ?_ ?_ ?_⟩
    · rintro i σ H' _ ⟨b, v, _, rfl, _⟩
      exact SqL.of hl
    · rintro i x σ H' hx ⟨b, v, rfl, rfl, e⟩
      obtain ⟨a, ha, rfl⟩ := int_get hx
      rw [drop_int ha] at e
      refine ⟨_, rfl, .int a, _, true, false, rfl, kind_int K _ a, _, rfl, ?_⟩
      refine iteF ?_
      refine ⟨_, rfl, _, rfl, _, _, rfl, rfl, _, rfl, ?_⟩
      have e2 : pressV b sw.length (.int a :: (zs.drop (i + 1)).map V.int) = if (a : Int) ≤ b then false else pressV a sw.length ((zs.drop (i + 1)).map V.int) := rfl
      rw [e2] at e
      refine ite2 (fun h1 => ?_) (fun h1 => ?_)
      · have h1' : (a : Int) ≤ b := of_decide_eq_true h1
        rw [if_pos h1'] at e
        have := k H' (Same.refl _)
        rw [e] at this
        exact this
      · have h1' : ¬ (a : Int) ≤ b := fun z => h1 (decide_eq_true z)
        rw [if_neg h1'] at e
        exact ⟨_, rfl, a, some (V.int a), rfl, rfl, e⟩
    · rintro σ H' ⟨b, v, rfl, rfl, e⟩
      obtain ⟨dx, u, h1, h2⟩ := hh.ob
      refine ⟨_, rfl, _, rfl, p, dx, _, rfl, h1, sw_no n u, p, n, sw, rfl, hh, fun q hq => ?_⟩
      refine ⟨q, _, rfl, .inl (SqL.of upd_same), _, _, rfl, rfl, ?_⟩
      have := k _ (same_upd (o := .lst (sw.map nv)) hq)
      rw [e, List.length_map, List.drop_length] at this
      rw [List.length_map]
      exact this
theorem scTB : FnScope ["house", "press", "switches", "turned", "at"] ["house", "press"] (defScope sTurnedBy) := ⟨rfl, rfl, rfl, by decide +kernel, rfl, by decide +kernel, by decide +kernel⟩
theorem take_snoc {α : Type} {ps : List α} {i : Nat} {a : α} (h : ps[i]? = some a) : ps.take (i + 1) = ps.take i ++ [a] := by
  rw [List.take_add_one, h]
  rfl
theorem sw_at {sw : List Nat} {a : Nat} (h : a < sw.length) : atI (sw.map nv) (a : Int) = some (nv (sw.getD a 0)) := by
  refine atI_nat ?_
  rw [List.getElem?_map, List.getD_eq_getElem?_getD, List.getElem?_eq_getElem h]
  rfl
theorem ok_turnedBy {f : Addr} {fd : FuncData} (F : Fun K "turned_by" "turned_by" sTurnedBy f fd) (T : Txt K mg C) (FS : FSw P w K mg base C) : FnOk P w K mg base CX0 2 f fd ["house", "press"] (spTurnedBy C) := by
  refine F.ok scTB (fun vs H Q E h => ?_) (fun cdv A outer s H vs Q E hr h => ?_)
  · obtain ⟨p, l, n, sw, ps, rfl, _⟩ := h
    rfl
  · obtain ⟨p, l, n, sw, ps, rfl, hh, hl, hps, k⟩ := h
    obtain ⟨dx, u, h1, h2⟩ := hh.ob
    refine ⟨_, pss_cons (ps_set (i := 2) scTB.nd rfl (Or.inl rfl) (pe_mt0 FS T.cl hr (pv 0)))
      (pss_cons (ps_set (i := 3) scTB.nd rfl (Or.inl rfl) pe_int)
      (pss_cons (ps_for PassesOwn.never rfl (pi_list (pv 1)) (pg_name (i := 4) scTB.nd rfl (Or.inl rfl))
        (pss_one (ps_set (i := 3) scTB.nd rfl (Or.inl rfl) (pe_op op_xorN (pv 3) (pe_ix ix_list (pv 2) (pv 4) (fun _ _ => rfl))))))
      (pss_one (ps_ret (pv 3))))), ?_⟩
    refine ⟨_, rfl, p, dx, _, rfl, h1, sw_no n u, p, n, sw, rfl, hh, fun q hq => ?_⟩
    have nlq : l ≠ q := ne_of_none hl hq
    refine ⟨_, rfl, l, rfl, ⟨_, SqL.of (by rw [upd_ne nlq]; exact hl)⟩, for_list (K := K) (a := l) (xs := ps.map nv) (fun i σ H' => ∃ (v : Option V), σ = [some (.ref p), some (.ref l), some (.ref q), some (nv (turned sw (ps.take i))), v] ∧ H' = upd H q (.lst (sw.map nv)))
      ⟨none, rfl, rfl⟩ ?_ ?_ ?_⟩
    · rintro i σ H' _ ⟨v, _, rfl⟩
      exact SqL.of (by rw [upd_ne nlq]; exact hl)
    · rintro i x σ H' hx ⟨v, rfl, rfl⟩
      obtain ⟨a, ha, rfl⟩ := nv_get hx
      refine ⟨_, rfl, _, rfl, _, rfl, q, _, _, _, rfl, rfl, SqL.of upd_same, sw_at (hps a (List.mem_of_getElem? ha)), _, _, rfl, rfl, some (nv a), ?_, rfl⟩
      rw [take_snoc ha, turned_snoc]
      rfl
    · rintro σ H' ⟨v, rfl, rfl⟩
      refine ⟨_, rfl, ?_⟩
      have := k _ (same_upd (o := .lst (sw.map nv)) hq)
      rw [List.length_map, List.take_length]
      exact this
end
end Sw
set_option maxHeartbeats 4000000
namespace Sw
open PySem L2
section
variable {P : Program} {w : World} {K : PySem.W.Frag} {mg : Str → Option Value} {base : Heap} {C : Addr}
theorem scC : FnScope ["_law_script", "_law_k"] ["_law_script", "_law_k"] (defScope sCellAt) := ⟨rfl, rfl, rfl, by decide +kernel, rfl, by decide +kernel, by decide +kernel⟩
theorem ok_cellAt {f : Addr} {fd : FuncData} (F : Fun K "_law_cell_at" "_law_cell_at" sCellAt f fd) (len : mg "len" = none) : FnOk P w K mg base CX0 1 f fd ["_law_script", "_law_k"] (spCellAt K) := by
  refine F.ok scC (fun vs H Q E h => ?_) (fun cdv A outer s H vs Q E hr h => ?_)
  · obtain ⟨a, ns, k, rfl, _⟩ := h
    rfl
  · obtain ⟨a, ns, k, rfl, hS, q⟩ := h
    refine ⟨_, pss_cons (ps_if (pt_cmpR op_lt (pv 1) (pe_callB call_len_seq rfl len PySem.boot_len (pa_cons (pv 0) pa_nil)) (nomark _)) (pss_one (ps_ret (pe_ix ix_list (pv 0) (pv 1) (fun _ _ => rfl)))) pss_nil)
      (pss_one (ps_ret pe_int)), ?_⟩
    refine ⟨_, rfl, _, rfl, a, _, rfl, .inl hS, _, _, rfl, rfl, _, rfl, ?_⟩
    refine ite2 (fun h1 => ?_) (fun h1 => ?_)
    · have h1' : (k : Int) < ((ns.map V.int).length : Int) := of_decide_eq_true h1
      rw [List.length_map] at h1'
      have hk : k < ns.length := by omega
      refine ⟨_, rfl, _, rfl, a, _, _, V.int ns[k], rfl, rfl, hS, atI_nat ?_, q _⟩
      rw [List.getElem?_map, List.getElem?_eq_getElem hk]
      rfl
    · exact q 0
end
abbrev FCell (P : Program) (w : World) (K : PySem.W.Frag) (mg : Str → Option Value) (base : Heap) : Prop := FnAt P w K mg base "_law_cell_at" 1 ["_law_script", "_law_k"] (spCellAt K)
end Sw
set_option maxHeartbeats 4000000
namespace Sw
open PySem L2
def castL (l : List Nat) : List Int := l.map fun a : Nat => (a : Int)
theorem castL_nv (l : List Nat) : (castL l).map V.int = l.map nv := by
  unfold castL
  rw [List.map_map]
  rfl
def subs : Nat → List (List Nat)
  | 0 => [[]]
  | m + 1 => subs m ++ (subs m).map fun a => a ++ [m]
theorem Press.up1 {ps : List Nat} {m : Nat} (h : Press ps m) : Press ps (m + 1) := ⟨h.up, fun a ha => Nat.lt_succ_of_lt (h.lt a ha)⟩
theorem mem_subs : ∀ {m : Nat} {ps : List Nat}, ps ∈ subs m ↔ Press ps m
  | 0, ps => by
    constructor
    · intro h
      have : ps = [] := by simpa [subs] using h
      subst this
      exact ⟨.nil, fun _ z => nomatch z⟩
    · intro h
      match ps, h with
      | [], _ => exact List.mem_singleton.mpr rfl
      | a :: r, h => exact absurd (h.lt a (.head _)) (Nat.not_lt_zero _)
  | m + 1, ps => by
    constructor
    · intro h
      rcases List.mem_append.mp h with h | h
      · exact (mem_subs.mp h).up1
      · obtain ⟨a, ha, rfl⟩ := List.mem_map.mp h
        exact (mem_subs.mp ha).snoc
    · intro h
      show ps ∈ subs m ++ _
      rcases List.eq_nil_or_concat ps with rfl | ⟨a, b, rfl⟩
      · exact List.mem_append_left _ (mem_subs.mpr ⟨.nil, fun _ z => nomatch z⟩)
      · rw [List.concat_eq_append] at h ⊢
        obtain ⟨u1, _, u3⟩ := List.pairwise_append.mp h.up
        have hb : b < m + 1 := h.lt b (List.mem_append_right _ (List.mem_singleton.mpr rfl))
        have ha : ∀ c ∈ a, c < b := fun c hc => u3 c hc b (List.mem_singleton.mpr rfl)
        by_cases e : b = m
        · subst e
          exact List.mem_append_right _ (List.mem_map.mpr ⟨a, mem_subs.mpr ⟨u1, ha⟩, rfl⟩)
        · refine List.mem_append_left _ (mem_subs.mpr ⟨h.up, fun c hc => ?_⟩)
          rcases List.mem_append.mp hc with h1 | h1
          · have := ha c h1
            omega
          · have : c = b := by simpa using h1
            omega
end Sw
namespace Sw
open PySem L2
end Sw
namespace Sw
open PySem L2
end Sw
namespace Sw
open PySem L2
theorem press_len : ∀ {ps : List Nat} {m : Nat}, Press ps m → ps.length ≤ m := fun {ps m} h => by
  have nd : ps.Nodup := h.up.imp fun {a b} hab => Nat.ne_of_lt hab
  have := List.Nodup.length_le_of_subset nd (l₂ := List.range m) fun a ha => List.mem_range.mpr (h.lt a ha)
  rw [List.length_range] at this
  exact this
section
variable {X : Cx} {K : PySem.W.Frag}
end
theorem make_house {K : PySem.W.Frag} {C l x dx : Addr} {H : Hp} {n : Nat} {sw : List Nat} {Q : VK} {E : XK} (nx : H x = none) (ndx : H dx = none) (nex : dx ≠ x) (hl : H l = some (.lst (sw.map nv))) (g : Good n sw) (k : ∀ H', HouseAt C H' x n sw → Same H H' → Q .non H') :
    spInit K C [.ref x, nv n, .ref l] (upd (upd H dx (.own x)) x (.ins C dx [])) Q E := by
  have s2 : Same H (upd (upd H dx (.own x)) x (.ins C dx [])) := fun b o e => by
    rw [upd_ne (ne_of_none e nx), upd_ne (ne_of_none e ndx)]
    exact e
  exact ⟨x, dx, l, n, sw, rfl, upd_same, s2 _ _ hl, g, fun H2 hh kp => k H2 hh fun b o e => kp b o (s2 b o e) (ne_of_none e nx)⟩
end Sw
namespace Sw
open PySem L2
end Sw
namespace Sw
open PySem L2
def Span : List Nat → Nat → Prop
  | [], x => x = 0
  | v :: r, x => Span r x ∨ Span r (x ^^^ v)
theorem Span.zero : ∀ r, Span r 0
  | [] => rfl
  | _ :: r => .inl (Span.zero r)
theorem Span.add : ∀ {r : List Nat} {x y : Nat}, Span r x → Span r y → Span r (x ^^^ y)
  | [], x, y, hx, hy => by
    have e1 : x = 0 := hx
    have e2 : y = 0 := hy
    subst e1 e2
    exact Nat.xor_self 0
  | v :: r, x, y, hx, hy => by
    rcases hx with hx | hx <;> rcases hy with hy | hy
    · exact .inl (Span.add hx hy)
    · refine .inr ?_
      rw [Nat.xor_assoc]
      exact Span.add hx hy
    · refine .inr ?_
      rw [Nat.xor_assoc, Nat.xor_comm y v, ← Nat.xor_assoc]
      exact Span.add hx hy
    · refine .inl ?_
      have := Span.add hx hy
      rw [Nat.xor_assoc, Nat.xor_comm y v, ← Nat.xor_assoc v v y, Nat.xor_self, Nat.zero_xor] at this
      exact this
theorem Span.of_mem : ∀ {r : List Nat} {v : Nat}, v ∈ r → Span r v
  | v :: r, _, .head _ => .inr (by rw [Nat.xor_self]; exact Span.zero r)
  | _ :: r, _, .tail _ h => .inl (Span.of_mem h)
theorem Span.sub : ∀ {r k : List Nat} {x : Nat}, (∀ v ∈ r, Span k v) → Span r x → Span k x
  | [], k, x, _, h => by
    have : x = 0 := h
    subst this
    exact Span.zero k
  | v :: r, k, x, hs, h => by
    rcases h with h | h
    · exact Span.sub (fun u hu => hs u (.tail _ hu)) h
    · have := Span.add (Span.sub (fun u hu => hs u (.tail _ hu)) h) (hs v (.head _))
      rw [xor_back] at this
      exact this
theorem Span.mono {r k : List Nat} {x : Nat} (hs : ∀ v ∈ r, v ∈ k) (h : Span r x) : Span k x := Span.sub (fun v hv => Span.of_mem (hs v hv)) h
noncomputable def rk : List Nat → Nat
  | [] => 0
  | v :: r => rk r + (open Classical in if Span r v then 0 else 1)
theorem rk_in {r : List Nat} {v : Nat} (h : Span r v) : rk (v :: r) = rk r := by
  unfold rk
  rw [if_pos h]
  cases r <;> rfl
theorem rk_out {r : List Nat} {v : Nat} (h : ¬ Span r v) : rk (v :: r) = rk r + 1 := by
  show rk r + _ = _
  rw [if_neg h]
theorem span_in {r : List Nat} {v x : Nat} (h : Span r v) : Span (v :: r) x ↔ Span r x := by
  constructor
  · rintro (k | k)
    · exact k
    · have := Span.add k h
      rw [xor_back] at this
      exact this
  · exact .inl
theorem ways : ∀ r : List Nat, ∃ ws : List Nat, ws.Nodup ∧ (∀ x, x ∈ ws ↔ Span r x) ∧ ws.length = 2 ^ rk r
  | [] => ⟨[0], List.pairwise_singleton _ _, fun x => List.mem_singleton, rfl⟩
  | v :: r => by
    obtain ⟨ws, nd, mem, len⟩ := ways r
    by_cases h : Span r v
    · exact ⟨ws, nd, fun x => (mem x).trans (span_in h).symm, by rw [rk_in h]; exact len⟩
    · refine ⟨ws ++ ws.map fun x => x ^^^ v, List.nodup_append.mpr ⟨nd, List.Pairwise.map _ (fun a b hab e => hab (by rw [← xor_back a v, e, xor_back])) nd, fun a ha b hb e => ?_⟩, fun x => ?_, ?_⟩
      · subst e
        obtain ⟨c, hc, rfl⟩ := List.mem_map.mp hb
        refine h ?_
        have := Span.add ((mem _).mp ha) ((mem _).mp hc)
        rw [Nat.xor_comm c v, xor_back] at this
        exact this
      · constructor
        · intro hx
          rcases List.mem_append.mp hx with hx | hx
          · exact .inl ((mem x).mp hx)
          · obtain ⟨c, hc, rfl⟩ := List.mem_map.mp hx
            exact .inr (by rw [xor_back]; exact (mem c).mp hc)
        · rintro (hx | hx)
          · exact List.mem_append_left _ ((mem x).mpr hx)
          · exact List.mem_append_right _ (List.mem_map.mpr ⟨x ^^^ v, (mem _).mpr hx, xor_back x v⟩)
      · rw [List.length_append, List.length_map, len, rk_out h, Nat.pow_succ]
        omega
theorem ways_len {r ws : List Nat} (nd : ws.Nodup) (h : ∀ x, x ∈ ws ↔ Span r x) : ws.length = 2 ^ rk r := by
  obtain ⟨k, nd', h', len⟩ := ways r
  rw [← len]
  exact ((List.perm_ext_iff_of_nodup nd nd').mpr fun x => (h x).trans (h' x).symm).length_eq
theorem rk_eq {r k : List Nat} (h : ∀ x, Span r x ↔ Span k x) : rk r = rk k := by
  obtain ⟨ws, nd, hm, len⟩ := ways r
  have := ways_len nd fun x => (hm x).trans (h x)
  rw [len] at this
  have e := congrArg Nat.log2 this
  rw [Nat.log2_two_pow, Nat.log2_two_pow] at e
  exact e
theorem rk_perm {r k : List Nat} (h : ∀ v, v ∈ r ↔ v ∈ k) : rk r = rk k := rk_eq fun _ => ⟨Span.mono fun v hv => (h v).mp hv, Span.mono fun v hv => (h v).mpr hv⟩
end Sw
set_option maxHeartbeats 4000000
namespace Sw
open PySem L2
abbrev sEnough : Stmt := top 26
abbrev sRank : Stmt := top 27
structure Few (sw ks : List Nat) : Prop where
  pr : Press ks sw.length
  sp : ∀ x, Span (ks.map fun i => sw.getD i 0) x ↔ Span sw x
  len : ks.length = rk sw
def spEnough (C : Addr) : Sp := fun vs H Q _ => ∃ (p : Addr) (n : Nat) (sw : List Nat), vs = [.ref p] ∧ HouseAt C H p n sw ∧ sw.length ≤ 8 ∧
  ∀ (q : Addr) (ks : List Nat) H', Same H H' → H q = none → H' q = some (.lst (ks.map nv)) → Few sw ks → Q (.ref q) H'
def spRank (C : Addr) : Sp := fun vs H Q _ => ∃ (p : Addr) (n : Nat) (sw : List Nat), vs = [.ref p] ∧ HouseAt C H p n sw ∧ sw.length ≤ 8 ∧ ∀ H', Same H H' → Q (nv (rk sw)) H'
theorem span_snoc {r : List Nat} {v x : Nat} : Span (r ++ [v]) x ↔ Span (v :: r) x := ⟨Span.mono fun u hu => by
  rcases List.mem_append.mp hu with hu | hu
  · exact .tail _ hu
  · have : u = v := by simpa using hu
    subst this
    exact .head _, Span.mono fun u hu => by
  rcases List.mem_cons.mp hu with rfl | hu
  · exact List.mem_append_right _ (.head _)
  · exact List.mem_append_left _ hu⟩
theorem rk_snoc (r : List Nat) (v : Nat) : rk (r ++ [v]) = rk (v :: r) := rk_perm fun u => by
  rw [List.mem_append, List.mem_singleton, List.mem_cons]
  exact Or.comm
structure Upto (sw : List Nat) (i : Nat) (ks ws : List Nat) : Prop where
  pr : Press ks i
  sp : ∀ x, Span (ks.map fun i => sw.getD i 0) x ↔ Span (sw.take i) x
  len : ks.length = rk (sw.take i)
  wm : ∀ x, x ∈ ws ↔ Span (sw.take i) x
  wl : ws.length = 2 ^ ks.length
theorem Upto.zero (sw : List Nat) : Upto sw 0 [] [0] := ⟨⟨List.Pairwise.nil, fun _ z => nomatch z⟩, fun x => Iff.rfl, rfl, fun x => List.mem_singleton, rfl⟩
theorem Upto.inn {sw : List Nat} {i v : Nat} {ks ws : List Nat} (h : Upto sw i ks ws) (hv : sw[i]? = some v) (hm : v ∈ ws) : Upto sw (i + 1) ks ws := by
  have hs := (h.wm v).mp hm
  have e : sw.take (i + 1) = sw.take i ++ [v] := take_snoc hv
  have sp : ∀ x, Span (sw.take i) x ↔ Span (sw.take (i + 1)) x := fun x => by
    rw [e, span_snoc]
    exact (span_in hs).symm
  refine ⟨h.pr.skip, fun x => (h.sp x).trans (sp x), ?_, fun x => (h.wm x).trans (sp x), h.wl⟩
  rw [h.len, e, rk_snoc, rk_in hs]
theorem Upto.out {sw : List Nat} {i v : Nat} {ks ws : List Nat} (h : Upto sw i ks ws) (hv : sw[i]? = some v) (hm : v ∉ ws) : Upto sw (i + 1) (ks ++ [i]) (ws ++ ws.map fun w => w ^^^ v) := by
  have hs : ¬ Span (sw.take i) v := fun z => hm ((h.wm v).mpr z)
  have e : sw.take (i + 1) = sw.take i ++ [v] := take_snoc hv
  have hg : sw.getD i 0 = v := by rw [List.getD_eq_getElem?_getD, hv]; rfl
  refine ⟨h.pr.snoc, fun x => ?_, ?_, fun x => ?_, ?_⟩
  · rw [List.map_append, e, span_snoc]
    show Span (_ ++ [sw.getD i 0]) x ↔ _
    rw [span_snoc, hg]
    exact or_congr (h.sp x) (h.sp _)
  · rw [List.length_append, h.len, e, rk_snoc, rk_out hs]
    rfl
  · rw [e, span_snoc, List.mem_append]
    refine or_congr (h.wm x) ⟨fun hx => ?_, fun hx => ?_⟩
    · obtain ⟨w, hw, rfl⟩ := List.mem_map.mp hx
      rw [xor_back]
      exact (h.wm w).mp hw
    · exact List.mem_map.mpr ⟨x ^^^ v, (h.wm _).mpr hx, xor_back x v⟩
  · rw [List.length_append, List.length_map, List.length_append, h.wl, List.length_singleton, Nat.pow_succ]
    omega
theorem Upto.few {sw : List Nat} {ks ws : List Nat} (h : Upto sw sw.length ks ws) : Few sw ks := by
  refine ⟨h.pr, fun x => ?_, ?_⟩
  · have := h.sp x
    rw [List.take_length] at this
    exact this
  · have := h.len
    rw [List.take_length] at this
    exact this
theorem inV_mem (i : Nat) : ∀ ps : List Nat, inV (nv i) (ps.map nv) = decide (i ∈ ps)
  | [] => rfl
  | a :: ps => by
    show (eqV (nv a) (nv i) || inV (nv i) (ps.map nv)) = _
    rw [inV_mem i ps]
    have : eqV (nv a) (nv i) = decide (i = a) := by
      show ((a : Int) == (i : Int)) = _
      rw [Bool.eq_iff_iff]
      simp
      omega
    rw [this]
    simp [List.mem_cons]
section
variable {P : Program} {w : World} {K : PySem.W.Frag} {mg : Str → Option Value} {base : Heap} {C : Addr}
abbrev NEn : List Str := ["house", "kept", "ways", "at", "turned"]
def compEn : Scope := match (defBody sEnough).getD 2 (.Pass ⟨0, 0, 0, 0⟩) with
  | .For _ _ body _ _ => (match body.getD 0 (.Pass ⟨0, 0, 0, 0⟩) with
    | .If _ body2 _ _ => (match body2.getD 1 (.Pass ⟨0, 0, 0, 0⟩) with
      | .Assign _ (.BinOp _ _ (.ListComp _ _ sc _) _) _ => sc
      | _ => defScope sEnough)
    | _ => defScope sEnough)
  | _ => defScope sEnough
theorem scEn : FnScope NEn ["house"] (defScope sEnough) := ⟨rfl, rfl, rfl, by decide +kernel, rfl, by decide +kernel, by decide +kernel⟩
theorem csEn : CompScope (defScope sEnough) compEn NEn "way" [4] ["turned"] := ⟨rfl, by decide +kernel, by decide +kernel, by decide +kernel, by decide +kernel, by decide +kernel, by decide +kernel, by decide +kernel⟩
theorem ok_enough {f : Addr} {fd : FuncData} (F : Fun K "enough" "enough" sEnough f fd) (T : Txt K mg C) (FS : FSw P w K mg base C) (enum : mg "enumerate" = none) : FnOk P w K mg base CX0 2 f fd ["house"] (spEnough C) := by
  refine F.ok scEn (fun vs H Q E h => ?_) (fun cdv A outer s H vs Q E hr h => ?_)
  · obtain ⟨p, n, sw, rfl, _⟩ := h
    rfl
  · obtain ⟨p, n, sw, rfl, hh, h8, k⟩ := h
    obtain ⟨dx, u0, h1, h2⟩ := hh.ob
    refine ⟨_, pss_cons (ps_set (i := 1) scEn.nd rfl (Or.inl rfl) (pe_lst pa_nil))
      (pss_cons (ps_set (i := 2) scEn.nd rfl (Or.inl rfl) (pe_lst (pa_cons pe_int pa_nil)))
      (pss_cons (ps_for PassesOwn.never rfl (pi_enum enum (pa_cons (pe_mt0 FS T.cl hr (pv 0)) pa_nil)) (pg_tup rfl (pgs_cons (pg_name (i := 3) scEn.nd rfl (Or.inl rfl)) (pgs_cons (pg_name (i := 4) scEn.nd rfl (Or.inr rfl)) pgs_nil)))
        (pss_one (ps_if (pt_cmpR op_notIn_seq (pv 4) (pv 2) rfl)
          (pss_cons (ps_expr (pe_bm PySem.F.plainAttrs_list PySem.F.slot_list_append PySem.F.type_list_append mt_append (pv 1) (pa_cons (pv 3) pa_nil)))
          (pss_one (ps_set (i := 2) scEn.nd rfl (Or.inl rfl) (pe_op op_cat (pv 2) (pe_comp rfl csEn (pi_list (pv 2)) (fun _ _ _ _ => pts_nil) (fun _ _ _ _ => pe_op op_xorN (pv 0) (pv 1))))))) pss_nil)))
      (pss_one (ps_ret (pv 1))))), ?_⟩
    refine ⟨Nat.zero_le _, fun kq hkq => ?_⟩
    refine ⟨by show 1 ≤ sizeLine; decide, fun wq hwq => ?_⟩
    have s1 := same_upd (o := .lst []) hkq
    have s2 := same_upd (o := .lst [V.int 0]) hwq
    have s12 := s1.trans s2
    have nkw : kq ≠ wq := ne_of_none (H := upd H kq (.lst [])) upd_same hwq
    refine ⟨_, rfl, p, dx, _, rfl, s12 _ _ h1, sw_no n u0, p, n, sw, rfl, hh.same s12, fun fl hfl => ?_⟩
    have s3 := same_upd (o := .lst (sw.map nv)) hfl
    refine ⟨fl, rfl, ⟨_, SqL.of upd_same⟩, for_enum (K := K) (a := fl) (xs := sw.map nv) (fun i σ H' => ∃ (wq : Addr) (v3 v4 : Option V) (ks ws : List Nat), σ = [some (.ref p), some (.ref kq), some (.ref wq), v3, v4] ∧ i ≤ sw.length ∧ Same H H' ∧ H' kq = some (.lst (ks.map nv)) ∧ kq ≠ wq ∧ H wq = none ∧ H' wq = some (.lst (ws.map nv)) ∧ H' fl = some (.lst (sw.map nv)) ∧ kq ≠ fl ∧ Upto sw i ks ws)
      ⟨wq, none, none, [], [0], rfl, Nat.zero_le _, s12.trans s3, s3 _ _ (s2 _ _ upd_same), nkw, s1.free hwq, s3 _ _ upd_same, upd_same, ne_of_none (s2 _ _ upd_same) hfl, Upto.zero sw⟩ ?_ ?_ ?_⟩
    · rintro i σ H' _ ⟨wq, v3, v4, ks, ws, _, _, _, _, _, _, _, hf, _⟩
      exact SqL.of hf
    · rintro i x σ H' Tq hx ⟨wq, v3, v4, ks, ws, rfl, hi, sm, hk, nkw, nw, hw, hf, nkf, up⟩ hTq
      obtain ⟨v, hv, rfl⟩ := nv_get hx
      have hil : i < sw.length := (List.getElem?_eq_some_iff.mp hv).1
      have s5 := same_upd (o := .tup [.int i, nv v]) hTq
      have sm5 := sm.trans s5
      have hk5 := s5 _ _ hk
      have hw5 := s5 _ _ hw
      have hf5 := s5 _ _ hf
      have wl : ws.length ≤ 256 := by
        rw [up.wl]
        exact Nat.pow_le_pow_right (by decide) (Nat.le_trans (press_len up.pr) (show i ≤ 8 by omega))
      have kl : ks.length ≤ 8 := Nat.le_trans (press_len up.pr) (by omega)
      refine ⟨Tq, _, rfl, SqT.of upd_same, rfl, _, _, rfl, _, _, rfl, rfl, ?_⟩
      generalize upd H' Tq (.tup [.int i, nv v]) = H5 at s5 sm5 hk5 hw5 hf5
      refine ⟨_, rfl, _, rfl, wq, _, rfl, .inl (SqL.of hw5), rfl, nv_flat _, _, rfl, ?_⟩
      rw [if_pos rfl, inV_mem]
      by_cases hm : v ∈ ws
      · refine iteB (by rw [decide_eq_true hm]; rfl) ?_
        exact ⟨wq, _, _, ks, ws, rfl, hil, sm5, hk5, nkw, nw, hw5, hf5, nkf, up.inn hv hm⟩
      · refine iteBT (by rw [decide_eq_false hm]; rfl) ?_
        refine ⟨_, rfl, .inl ⟨rfl, _, SqL.of hk5⟩, _, rfl, kq, _, _, rfl, rfl, hk5, (by rw [List.length_map]; exact small9 (by omega)), ?_⟩
        have nkH : H kq = none := hkq
        have sm6 : Same H (upd H5 kq (.lst (ks.map nv ++ [.int i]))) := fun b o e => by
          rw [upd_ne (ne_of_none e nkH)]
          exact sm5 _ _ e
        have hk6 : (upd H5 kq (.lst (ks.map nv ++ [.int i]))) kq = some (.lst ((ks ++ [i]).map nv)) := by
          rw [upd_same, List.map_append]
          rfl
        have hw6 : (upd H5 kq (.lst (ks.map nv ++ [.int i]))) wq = some (.lst (ws.map nv)) := by rw [upd_ne (Ne.symm nkw)]; exact hw5
        have hf6 : (upd H5 kq (.lst (ks.map nv ++ [.int i]))) fl = some (.lst (sw.map nv)) := by rw [upd_ne (Ne.symm nkf)]; exact hf5
        generalize upd H5 kq (.lst (ks.map nv ++ [.int i])) = H6 at sm6 hk6 hw6 hf6
        refine ⟨_, rfl, _, rfl, wq, rfl, ⟨_, SqL.of hw6⟩, fun acc hacc => comp_list (K := K) (a := wq) (xs := ws.map nv) (fun j ys Hc => j ≤ ws.length ∧ ys = ((ws.take j).map fun w => w ^^^ v).map nv ∧ Hc = upd H6 acc (.lst ys)) ⟨Nat.zero_le _, rfl, rfl⟩ ?_ ?_ ?_⟩
        · rintro j ys Hc ⟨hj, _, rfl⟩
          exact ⟨by rw [List.length_map]; exact hj, SqL.of (by rw [upd_ne (ne_of_none hw6 hacc)]; exact hw6)⟩
        · rintro j y ys Hc hy ⟨hj, rfl, rfl⟩
          obtain ⟨a, ha, rfl⟩ := nv_get hy
          have hjl : j < ws.length := (List.getElem?_eq_some_iff.mp ha).1
          refine tTrue_mk ?_
          refine iteT ?_
          refine ⟨_, rfl, _, rfl, a, v, rfl, rfl, upd_same, ?_, hjl, ?_, ?_⟩
          · rw [List.length_map, List.length_map, List.length_take]
            exact small1000 (by omega)
          · rw [take_snoc ha, List.map_append, List.map_append]
            rfl
          · rw [upd_upd]
        · rintro ys Hc ⟨_, rfl, rfl⟩
          rw [List.length_map, List.take_length]
          have s7 := same_upd (o := .lst ((ws.map fun w => w ^^^ v).map nv)) hacc
          refine ⟨wq, acc, _, _, rfl, rfl, s7 _ _ hw6, upd_same, ?_, fun r hr' => ?_⟩
          · rw [List.length_map, List.length_map, List.length_map]
            exact Nat.le_of_lt (small1000 (by omega))
          · have s8 := same_upd (o := .lst (ws.map nv ++ (ws.map fun w => w ^^^ v).map nv)) hr'
            have s78 := s7.trans s8
            refine ⟨r, _, _, ks ++ [i], ws ++ ws.map (fun w => w ^^^ v), rfl, hil, sm6.trans s78, s78 _ _ hk6, ne_of_none (s7 _ _ hk6) hr', (sm6.trans s7).free hr', ?_, s78 _ _ hf6, nkf, up.out hv hm⟩
            rw [upd_same, List.map_append]
    · rintro σ H' ⟨wq, v3, v4, ks, ws, rfl, _, sm, hk, _, _, _, _, _, up⟩
      rw [List.length_map] at up
      exact ⟨_, rfl, k kq ks H' sm hkq hk up.few⟩
theorem scRk : FnScope ["house"] ["house"] (defScope sRank) := ⟨rfl, rfl, rfl, by decide +kernel, rfl, by decide +kernel, by decide +kernel⟩
theorem ok_rank {f : Addr} {fd : FuncData} (F : Fun K "rank" "rank" sRank f fd) (T : Txt K mg C) (FE : FnAt P w K mg base "enough" 2 ["house"] (spEnough C)) : FnOk P w K mg base CX0 3 f fd ["house"] (spRank C) := by
  refine F.ok scRk (fun vs H Q E h => ?_) (fun cdv A outer s H vs Q E hr h => ?_)
  · obtain ⟨p, n, sw, rfl, _⟩ := h
    rfl
  · obtain ⟨p, n, sw, rfl, hh, h8, k⟩ := h
    refine ⟨_, pss_one (ps_ret (pe_callB call_len_seq rfl T.len PySem.boot_len (pa_cons (pe_fn FE hr (pa_cons (pv 0) pa_nil)) pa_nil))), ?_⟩
    refine ⟨_, rfl, p, n, sw, rfl, hh, h8, fun q ks H' sm _ hq few => ⟨q, _, rfl, .inl (SqL.of hq), ?_⟩⟩
    rw [List.length_map, few.len]
    exact k H' sm
end
end Sw
set_option maxHeartbeats 4000000
namespace Sw
open PySem L2
abbrev sPressesOf : Stmt := top 22
abbrev sQuiet : Stmt := top 25
def spNone (C : Addr) : Sp := fun vs H Q _ => ∃ (p : Addr) (n : Nat), vs = [.ref p] ∧ HouseAt C H p n [] ∧ ∀ (q e : Addr) H', Same H H' → H' q = some (.lst [.ref e]) → H' e = some (.lst []) → Q (.ref q) H'
section
variable {P : Program} {w : World} {K : PySem.W.Frag} {mg : Str → Option Value} {base : Heap} {C : Addr}
abbrev NPO : List Str := ["house", "found", "at"]
theorem scPO : FnScope NPO ["house"] (defScope sPressesOf) := ⟨rfl, rfl, rfl, by decide +kernel, rfl, by decide +kernel, by decide +kernel⟩
theorem ok_pressesOf0 {f : Addr} {fd : FuncData} (F : Fun K "presses_of" "presses_of" sPressesOf f fd) (T : Txt K mg C) (FS : FSw P w K mg base C) (sorted : mg "sorted" = none) : FnOk P w K mg base CX0 2 f fd ["house"] (spNone C) := by
  refine F.ok scPO (fun vs H Q E h => ?_) (fun cdv A outer s H vs Q E hr h => ?_)
  · obtain ⟨p, n, rfl, _⟩ := h
    rfl
  · obtain ⟨p, n, rfl, hh, k⟩ := h
    obtain ⟨dx, u0, h1, h2⟩ := hh.ob
    refine ⟨_, pss_cons (ps_set (i := 1) scPO.nd rfl (Or.inl rfl) (pe_lst (pa_cons (pe_lst pa_nil) pa_nil)))
      (pss_cons (ps_for PassesOwn.never rfl (pi_range1 rfl T.range (pa_cons (pe_callB call_len_seq rfl T.len PySem.boot_len (pa_cons (pe_mt0 FS T.cl hr (pv 0)) pa_nil)) pa_nil)) (pg_name (i := 2) scPO.nd rfl (Or.inr rfl)) pss_never)
      (pss_one (ps_ret (pe_callB call_sorted1 rfl sorted PyProof.Rows.boot_sorted (pa_cons (pv 1) pa_nil))))), ?_⟩
    refine ⟨Nat.zero_le _, fun e0 he0 => ⟨by show 1 ≤ sizeLine; decide, fun q0 hq0 => ?_⟩⟩
    have s1 := same_upd (o := .lst []) he0
    have s2 := same_upd (o := .lst [V.ref e0]) hq0
    have a2 : (upd (upd H e0 (.lst [])) q0 (.lst [V.ref e0])) q0 = some (.lst [V.ref e0]) := upd_same
    have a1 : (upd (upd H e0 (.lst [])) q0 (.lst [V.ref e0])) e0 = some (.lst []) := s2 _ _ upd_same
    have s3 := s1.trans s2
    generalize upd (upd H e0 (.lst [])) q0 (.lst [V.ref e0]) = H2 at s3 a1 a2
    refine ⟨_, rfl, p, dx, _, rfl, s3 _ _ h1, sw_no n u0, p, n, [], rfl, hh.same s3, fun fl hfl => ⟨fl, _, rfl, .inl (SqL.of upd_same), ?_⟩⟩
    have s4 := same_upd (o := .lst []) hfl
    refine ⟨0, rfl, by decide, by decide, for_range (n := 0) (fun i σ H' => σ = [some (.ref p), some (.ref q0), none] ∧ Same H2 H') ⟨rfl, s4⟩ ?_ ?_⟩
    · intro i σ H' hi
      exact absurd hi (Nat.not_lt_zero _)
    · rintro σ H' ⟨rfl, s5⟩
      refine ⟨_, rfl, q0, .ref e0, rfl, SqL.of (s5 _ _ a2), fun l hl => ?_⟩
      have s6 := same_upd (o := .lst [V.ref e0]) hl
      exact k l e0 _ (s3.trans (s5.trans s6)) upd_same (s6 _ _ (s5 _ _ a1))
def compQu : Scope := match (defBody sQuiet).getD 0 (.Pass ⟨0, 0, 0, 0⟩) with
  | .Return (some (.ListComp _ _ sc _)) _ => sc
  | _ => defScope sQuiet
theorem scQu : FnScope ["house"] ["house"] (defScope sQuiet) := ⟨rfl, rfl, rfl, by decide +kernel, rfl, by decide +kernel, by decide +kernel⟩
theorem csQu : CompScope (defScope sQuiet) compQu ["house"] "press" [0] ["house"] := ⟨rfl, by decide +kernel, by decide +kernel, by decide +kernel, by decide +kernel, by decide +kernel, by decide +kernel, by decide +kernel⟩
theorem ok_quiet0 {f : Addr} {fd : FuncData} (F : Fun K "quiet" "quiet" sQuiet f fd) (FPO : FnAt P w K mg base "presses_of" 2 ["house"] (spNone C)) (FT : FnAt P w K mg base "turned_by" 2 ["house", "press"] (spTurnedBy C)) :
    FnOk P w K mg base CX0 3 f fd ["house"] (spNone C) := by
  refine F.ok scQu (fun vs H Q E h => ?_) (fun cdv A outer s H vs Q E hr h => ?_)
  · obtain ⟨p, n, rfl, _⟩ := h
    rfl
  · obtain ⟨p, n, rfl, hh, k⟩ := h
    refine ⟨_, pss_one (ps_ret (pe_comp rfl csQu (pi_list (pe_fn FPO hr (pa_cons (pv 0) pa_nil)))
        (fun _ _ _ _ => pts_one (pt_cmpR op_eq (pe_fn FT hr (pa_cons (pv 1) (pa_cons (pv 0) pa_nil))) pe_int (nomark _))) (fun _ _ _ _ => pv 0))), ?_⟩
    refine ⟨_, rfl, p, n, rfl, hh, fun q0 e H2 s2 a1 a2 => ?_⟩
    refine ⟨q0, rfl, ⟨_, SqL.of a1⟩, fun acc hacc => comp_list (K := K) (a := q0) (xs := [V.ref e])
      (fun i ys Hc => i ≤ 1 ∧ ys = [V.ref e].take i ∧ Same H2 Hc ∧ Hc acc = some (.lst ys)) ⟨Nat.zero_le _, rfl, same_upd hacc, upd_same⟩ ?_ ?_ ?_⟩
    · rintro i ys Hc ⟨hi, _, sc, _⟩
      exact ⟨hi, SqL.of (sc _ _ a1)⟩
    · rintro i x ys Hc hx ⟨hi, rfl, sc, hac⟩
      obtain ⟨rfl, rfl⟩ : i = 0 ∧ x = .ref e := by
        match i, hx with
        | 0, hx => exact ⟨rfl, (Option.some.inj hx).symm⟩
      refine ⟨_, rfl, _, rfl, p, e, n, [], [], rfl, hh.same (s2.trans sc), sc _ _ a2, (fun _ z => nomatch z), fun H4 s4 => ⟨rfl, _, rfl, ?_⟩⟩
      refine iteP rfl ?_
      refine ⟨_, rfl, s4 _ _ hac, by show 0 < sizeLine; decide, by decide, rfl, fun b o eb => ?_, upd_same⟩
      rw [upd_ne (ne_of_none eb hacc)]
      exact s4 _ _ (sc _ _ eb)
    · rintro ys Hc ⟨_, rfl, sc, hac⟩
      exact k acc e Hc (s2.trans sc) hac (sc _ _ a2)
end
end Sw
set_option maxHeartbeats 4000000
namespace Sw
open PySem L2
def isI : V → Bool
  | .int _ => true
  | _ => false
def rangeB (lo hi : Int) : V → Bool
  | .int z => decide (lo ≤ z) && decide (z < hi)
  | _ => false
theorem TyOf.same {K : PySem.W.Frag} {H H' : Hp} {v : V} {t : Value} (h : TyOf K H v t) (s : Same H H') : TyOf K H' v t := by
  cases h with
  | non => exact .non
  | bl x => exact .bl x
  | int i => exact .int i
  | str x => exact .str x
  | flt x => exact .flt x
  | lst e => exact .lst (s _ _ e)
  | frz e => exact .frz (s _ _ e)
  | tup e => exact .tup (s _ _ e)
  | dK e => exact .dK (s _ _ e)
  | dT e => exact .dT (s _ _ e)
  | ins e cl ha hn htk hm => exact .ins (s _ _ e) cl ha hn htk hm
def Plain (K : PySem.W.Frag) (H : Hp) (v : V) : Prop := ∃ t b1 b2, KindOf K H v t b1 b2 ∧ (b1 && !b2) = isI v
theorem Plain.same {K : PySem.W.Frag} {H H' : Hp} {v : V} (h : Plain K H v) (s : Same H H') : Plain K H' v := by
  obtain ⟨t, b1, b2, kd, e⟩ := h
  exact ⟨t, b1, b2, ⟨TyOf.same kd.ty s, kd.i, kd.b⟩, e⟩
theorem Plain.int (K : PySem.W.Frag) (H : Hp) (z : Int) : Plain K H (.int z) := ⟨_, _, _, kind_int K H z, rfl⟩
theorem Plain.bl (K : PySem.W.Frag) (H : Hp) (x : Bool) : Plain K H (.bl x) := ⟨_, true, true, ⟨.bl x, by rfl, by rfl⟩, rfl⟩
theorem Plain.str (K : PySem.W.Frag) (H : Hp) (x : Str) : Plain K H (.str x) := ⟨_, false, false, ⟨.str x, by rfl, by rfl⟩, rfl⟩
theorem Plain.non (K : PySem.W.Frag) (H : Hp) : Plain K H .non := ⟨_, false, false, ⟨.non, by rfl, by rfl⟩, rfl⟩
theorem Plain.lst {K : PySem.W.Frag} {H : Hp} {a : Addr} {xs : List V} (h : H a = some (.lst xs)) : Plain K H (.ref a) := ⟨_, false, false, ⟨.lst h, by rfl, by rfl⟩, rfl⟩
def NoList (K : PySem.W.Frag) (H : Hp) (v : V) : Prop := ∃ t, TyOf K H v t ∧ PySem.W.kitOne K t (.type "list") = some false
theorem NoList.same {K : PySem.W.Frag} {H H' : Hp} {v : V} (h : NoList K H v) (s : Same H H') : NoList K H' v := by
  obtain ⟨t, ty, e⟩ := h
  exact ⟨t, TyOf.same ty s, e⟩
structure PList (K : PySem.W.Frag) (H : Hp) (l : Addr) (xs : List V) : Prop where
  at_ : H l = some (.lst xs)
  len : xs.length ≤ 100
  pl : ∀ x ∈ xs, Plain K H x
theorem PList.same {K : PySem.W.Frag} {H H' : Hp} {l : Addr} {xs : List V} (h : PList K H l xs) (s : Same H H') : PList K H' l xs := ⟨s _ _ h.at_, h.len, fun x hx => (h.pl x hx).same s⟩
def SwBad (K : PySem.W.Frag) (H : Hp) (n : Nat) (v : V) : Prop := NoList K H v ∨ ∃ l xs, v = .ref l ∧ PList K H l xs ∧ (xs.length ≤ 8 → xs.all (rangeB 0 (2 ^ n)) = false)
def PrBad (K : PySem.W.Frag) (H : Hp) (m : Nat) (v : V) : Prop := NoList K H v ∨ ∃ l xs, v = .ref l ∧ PList K H l xs ∧ pressV (-1) m xs = false
theorem SwBad.same {K : PySem.W.Frag} {H H' : Hp} {n : Nat} {v : V} (h : SwBad K H n v) (s : Same H H') : SwBad K H' n v := by
  rcases h with h | ⟨l, xs, e, h, q⟩
  · exact .inl (h.same s)
  · exact .inr ⟨l, xs, e, h.same s, q⟩
theorem PrBad.same {K : PySem.W.Frag} {H H' : Hp} {n : Nat} {v : V} (h : PrBad K H n v) (s : Same H H') : PrBad K H' n v := by
  rcases h with h | ⟨l, xs, e, h, q⟩
  · exact .inl (h.same s)
  · exact .inr ⟨l, xs, e, h.same s, q⟩
theorem isI_int {v : V} (h : isI v = true) : ∃ z, v = .int z := by
  cases v with
  | int z => exact ⟨z, rfl⟩
  | _ => cases h
theorem number_use {K : PySem.W.Frag} {σ : St} {H : Hp} {v : V} {Q : VK} {E : XK} (p : Plain K H v) (q : Q (.bl (isI v)) H) : tNil σ H fun xs H2 => spIsNumber K ((v :: xs) ++ []) H2 Q E := by
  show spIsNumber K [v] H Q E
  obtain ⟨t, b1, b2, kd, e⟩ := p
  exact ⟨v, t, b1, b2, rfl, kd, by rw [e]; exact q⟩
theorem lamps_use {K : PySem.W.Frag} {σ : St} {H : Hp} {v : V} {c : Nat} {Q : VK} {E : XK} (hc : c ≤ 1000) (p : Plain K H v) (q : Q (.bl (rangeB 0 (2 ^ c) v)) H) : tNil σ H fun xs H2 => spAreLamps K ((nv c :: v :: xs) ++ []) H2 Q E := by
  show spAreLamps K [nv c, v] H Q E
  obtain ⟨t, b1, b2, kd, e⟩ := p
  refine ⟨c, v, t, b1, b2, rfl, hc, kd, fun h => ?_, fun h => ?_⟩
  · rw [e] at h
    obtain ⟨z, rfl⟩ := isI_int h
    exact ⟨z, rfl, q⟩
  · rw [e] at h
    cases v with
    | int z => cases h
    | _ => exact q
structure XOne (K : PySem.W.Frag) (C0 CH CL CP CN CT X : Addr) (b1 b2 b3 b4 : Bool) : Prop where
  z : ExcC K X
  x0 : PySem.W.exmOne K (.ref X) (.ref C0) = some true
  kH : PySem.W.kitOne K (.ref X) (.ref CH) = some b1
  kL : PySem.W.kitOne K (.ref X) (.ref CL) = some b2
  kP : PySem.W.kitOne K (.ref X) (.ref CP) = some b3
  kN : PySem.W.kitOne K (.ref X) (.ref CN) = some b4
  kT : PySem.W.kitOne K (.ref X) (.ref CT) = some false
  kV : PySem.W.kitOne K (.ref X) (.type "ValueError") = some true
structure Tx9 (K : PySem.W.Frag) (mg : Str → Option Value) (C0 CH CL CP CN CT : Addr) : Prop where
  m0 : mg "LampError" = some (.ref C0)
  mH : mg "BadHouse" = some (.ref CH)
  mL : mg "BadLamps" = some (.ref CL)
  mP : mg "BadPress" = some (.ref CP)
  mN : mg "NoSwitch" = some (.ref CN)
  mT : mg "BadText" = some (.ref CT)
  h : XOne K C0 CH CL CP CN CT CH true false false false
  l : XOne K C0 CH CL CP CN CT CL false true false false
  p : XOne K C0 CH CL CP CN CT CP false false true false
  n : XOne K C0 CH CL CP CN CT CN false false false true
  ve : mg "ValueError" = none
def FnAtE (P : Program) (w : World) (K : PySem.W.Frag) (mg : Str → Option Value) (base : Heap) (x : Str) (k : Nat) (ps : List Str) (sp : Sp) : Prop :=
  ∃ f fd, mg x = some (.ref f) ∧ PySem.W.keepIn K (.ref f) = true ∧ Binds K fd ps [] ∧ FnOk P w K mg base (CXE P w) k f fd ps sp
def MkAtE (P : Program) (w : World) (K : PySem.W.Frag) (mg : Str → Option Value) (base : Heap) (x : Str) (C : Addr) (k : Nat) (ps : List Str) (sp : Sp) : Prop :=
  ∃ f fd, mg x = some (.ref C) ∧ Mk K C f ∧ Binds K fd ps [] ∧ FnOk P w K mg base (CXE P w) k f fd ps sp
section
variable {P : Program} {w : World} {K : PySem.W.Frag} {mg : Str → Option Value} {base : Heap} {N : List Str} {qual : Str} {scope : Scope} {f : Addr} {cd : Value} {A : Around} {outer : List Env} {s0 : Shared} {H0 : Hp} {E : XK}
theorem pe_fnE {x : Str} {k k' : Nat} {ps : List Str} {sp : Sp} {e : Expr} {es : List Expr} {t : TA} {p pos : Pos} (F : FnAtE P w K mg base x k ps sp) (hr : Room k' (cxOf (CXE P w) P w K mg base N qual scope f cd A outer s0 H0 E).A) (ha : PA (cxOf (CXE P w) P w K mg base N qual scope f cd A outer s0 H0 E) (e :: es) t) (hk : k ≤ k' := by decide) (hg : Gl (cxOf (CXE P w) P w K mg base N qual scope f cd A outer s0 H0 E) x := by rfl)
    (hdb : (x == ("__debug__" : Str)) = false := by decide) (he : starEach (e :: es) (cxOf (CXE P w) P w K mg base N qual scope f cd A outer s0 H0 E).env = (false, eval e (cxOf (CXE P w) P w K mg base N qual scope f cd A outer s0 H0 E).env) :: starEach es (cxOf (CXE P w) P w K mg base N qual scope f cd A outer s0 H0 E).env := by rfl) (hpl : (backTo pos (starEach es (cxOf (CXE P w) P w K mg base N qual scope f cd A outer s0 H0 E).env)).any (·.1) = false := by rfl) :
    PE (cxOf (CXE P w) P w K mg base N qual scope f cd A outer s0 H0 E) (.Call (.Name x p) (e :: es) [] pos) (tCall sp [] E t) := by
  obtain ⟨f', fd, hm, hkp, hb, G⟩ := F
  exact pe_call G (hr.mono hk) hg hm hkp hb .nil passE ha hdb he hpl
theorem pe_mkE {x : Str} {C : Addr} {k k' : Nat} {ps : List Str} {sp : Sp} {e : Expr} {es : List Expr} {t : TA} {p pos : Pos} (F : MkAtE P w K mg base x C k ps sp) (hr : Room k' (cxOf (CXE P w) P w K mg base N qual scope f cd A outer s0 H0 E).A) (ha : PA (cxOf (CXE P w) P w K mg base N qual scope f cd A outer s0 H0 E) (e :: es) t) (hk : k + 1 ≤ k' := by decide) (hg : Gl (cxOf (CXE P w) P w K mg base N qual scope f cd A outer s0 H0 E) x := by rfl)
    (hdb : (x == ("__debug__" : Str)) = false := by decide) (he : starEach (e :: es) (cxOf (CXE P w) P w K mg base N qual scope f cd A outer s0 H0 E).env = (false, eval e (cxOf (CXE P w) P w K mg base N qual scope f cd A outer s0 H0 E).env) :: starEach es (cxOf (CXE P w) P w K mg base N qual scope f cd A outer s0 H0 E).env := by rfl) (hpl : (backTo pos (starEach es (cxOf (CXE P w) P w K mg base N qual scope f cd A outer s0 H0 E).env)).any (·.1) = false := by rfl) :
    PE (cxOf (CXE P w) P w K mg base N qual scope f cd A outer s0 H0 E) (.Call (.Name x p) (e :: es) [] pos) (tMake C sp [] E t) := by
  obtain ⟨f', fd, hm, M, hb, G⟩ := F
  exact pe_make M G (hr.mono hk) hg hm hb .nil passE ha hdb he hpl
end
end Sw
set_option maxHeartbeats 4000000
namespace Sw
open PySem L2
abbrev sRefuse : Stmt := top 21
abbrev sAll : Stmt := top 23
abbrev sTelling : Stmt := top 24
abbrev sPressed : Stmt := top 15
abbrev sDoneBy : Stmt := top 28
def spInitX (K : PySem.W.Frag) (CH : Addr) : Sp := fun vs H _ E => ∃ (p : Addr) (lv sv : V), vs = [.ref p, lv, sv] ∧ Plain K H lv ∧ (rangeB 1 11 lv = false ∨ ∃ n : Nat, lv = nv n ∧ 1 ≤ n ∧ n ≤ 10 ∧ SwBad K H n sv) ∧ ∀ H', Same H H' → E (.ref CH) none H'
def spIsPressG (K : PySem.W.Frag) (C : Addr) : Sp := fun vs H Q _ => ∃ (p : Addr) (n : Nat) (sw : List Nat) (v : V), vs = [.ref p, v] ∧ HouseAt C H p n sw ∧ sw.length ≤ 8 ∧ PrBad K H sw.length v ∧ ∀ H', Same H H' → Q (.bl false) H'
def spRefuseX (K : PySem.W.Frag) (C CL : Addr) : Sp := fun vs H _ E => ∃ (p : Addr) (n : Nat) (sw : List Nat) (a b c : V), vs = [.ref p, a, b, c] ∧ HouseAt C H p n sw ∧ n ≤ 10 ∧ Plain K H a ∧ Plain K H b ∧ Plain K H c ∧ [a, b, c].all (rangeB 0 (2 ^ n)) = false ∧ ∀ H', Same H H' → E (.ref CL) none H'
def spPressedX (K : PySem.W.Frag) (C CL CP : Addr) : Sp := fun vs H _ E => ∃ (p : Addr) (n : Nat) (sw : List Nat) (a v : V), vs = [.ref p, a, v] ∧ HouseAt C H p n sw ∧ Good n sw ∧ Plain K H a ∧
  ((rangeB 0 (2 ^ n) a = false ∧ ∀ H', Same H H' → E (.ref CL) none H') ∨ (rangeB 0 (2 ^ n) a = true ∧ PrBad K H sw.length v ∧ ∀ H', Same H H' → E (.ref CP) none H'))
def spDoneX (K : PySem.W.Frag) (C CN : Addr) : Sp := fun vs H _ E => ∃ (p : Addr) (n : Nat) (sw : List Nat) (a : V), vs = [.ref p, a] ∧ HouseAt C H p n sw ∧ sw.length ≤ 8 ∧ Plain K H a ∧ rangeB 0 sw.length a = false ∧ ∀ H', Same H H' → E (.ref CN) none H'
section
variable {P : Program} {w : World} {K : PySem.W.Frag} {mg : Str → Option Value} {base : Heap} {C C0 CH CL CP CN CT : Addr}
theorem ok_initX {f : Addr} {fd : FuncData} (F : Fun K "__init__" "House.__init__" sInit f fd) (T : Txt K mg C) (Z : Tx9 K mg C0 CH CL CP CN CT) (FN : FnAt P w K mg base "is_number" 1 ["value"] (spIsNumber K)) (FA : FnAt P w K mg base "are_lamps" 2 ["count", "value"] (spAreLamps K)) :
    FnOk P w K mg base (CXE P w) 3 f fd ["self", "lamps", "switches"] (spInitX K CH) := by
  refine F.okE scI (fun vs H Q E h => ?_) (fun cdv A outer s H vs Q E hr h => ?_)
  · obtain ⟨p, lv, sv, rfl, _⟩ := h
    rfl
  · obtain ⟨p, lv, sv, rfl, pl, hv, k⟩ := h
    obtain ⟨tL, mL⟩ := T.mL
    obtain ⟨tS, mS⟩ := T.mS
    refine ⟨_, pss_cons (ps_if (PW.pt (pw_or (pt_not (pt_val (pe_fn FN hr (pa_cons (pv 1) pa_nil)))) (pw_or1 (pt_not (pt_chain op_le op_le pe_int (pv 1) (pe_glob (v := .int 10) rfl mL ⟨_, rfl⟩)))))) (pss_one (ps_raise Z.h.z Z.mH rfl)) pss_nil)
      (pss_cons (ps_if (PW.pt (pw_or (pt_not (pt_val (pe_isi T.isi T.list PyProof.Rows.boot_list (pv 2)))) (pw_or1 (pt_cmpR op_gt (pe_callB call_len_seq rfl T.len PySem.boot_len (pa_cons (pv 2) pa_nil)) (pe_glob (v := .int 8) rfl mS ⟨_, rfl⟩) (nomark _))))) (pss_one (ps_raise Z.h.z Z.mH rfl)) pss_nil)
      (pss_cons (ps_if (pt_not (pt_val (PE.nox (pe_callB (call_all rfl) rfl T.all PyProof.Rows.boot_all (pa_cons (pe_comp rfl csI (pi_list (pv 2)) (fun _ _ _ _ => pts_nil) (fun _ _ _ _ => pe_fn FA hr (pa_cons (pv 1) (pa_cons (pv 0) pa_nil)))) pa_nil))))) (pss_one (ps_raise Z.h.z Z.mH rfl)) pss_nil)
      pss_never)), ?_⟩
    refine ⟨_, rfl, number_use pl ⟨_, rfl, ?_⟩⟩
    cases ei : isI lv with
    | false =>
      refine iteT ?_
      exact k _ (Same.refl _)
    | true =>
      refine iteF ?_
      obtain ⟨z, rfl⟩ := isI_int ei
      refine ⟨_, rfl, 1, z, rfl, rfl, _, rfl, ?_⟩
      by_cases h1 : 1 ≤ z
      case neg =>
        refine iteN h1 ?_
        refine ⟨_, rfl, ?_⟩
        refine iteT ?_
        exact k _ (Same.refl _)
      refine iteP h1 ?_
      refine ⟨z, 10, rfl, rfl, _, rfl, ?_⟩
      by_cases h2 : z ≤ 10
      case neg =>
        refine iteBT (by rw [decide_eq_false h2]; rfl) ?_
        exact k _ (Same.refl _)
      refine iteNS h2 ?_
      rcases hv with hv | ⟨n, en, hn1, hn10, hv⟩
      · have : rangeB 1 11 (.int z) = true := by
          show (decide (1 ≤ z) && decide (z < 11)) = true
          rw [decide_eq_true h1, decide_eq_true (show z < 11 by omega)]
          rfl
        rw [this] at hv
        cases hv
      have ez : z = (n : Int) := V.int.inj en
      subst ez
      rcases hv with ⟨t, ty, e⟩ | ⟨l, xs, rfl, pls, hb⟩
      · refine ⟨_, rfl, sv, "list", t, false, rfl, ty, e, _, rfl, ?_⟩
        refine iteT ?_
        refine iteT ?_
        exact k _ (Same.refl _)
      refine ⟨_, rfl, .ref l, "list", _, true, rfl, .lst pls.at_, by rfl, _, rfl, ?_⟩
      refine iteF ?_
      refine ⟨_, rfl, l, _, rfl, .inl (SqL.of pls.at_), _, 8, rfl, rfl, _, rfl, ?_⟩
      by_cases h8 : xs.length ≤ 8
      case neg =>
        refine iteP (by omega) ?_
        exact k _ (Same.refl _)
      refine iteN (by omega) ?_
      have hb' := hb h8
      refine ⟨_, rfl, l, rfl, ⟨_, SqL.of pls.at_⟩, fun acc hacc => comp_list (K := K) (a := l) (xs := xs) (fun i ys H' => i ≤ xs.length ∧ ys = ((xs.take i).map (rangeB 0 (2 ^ n))).map V.bl ∧ H' = upd H acc (.lst ys)) ⟨Nat.zero_le _, rfl, rfl⟩ ?_ ?_ ?_⟩
      · rintro i ys H' ⟨hi, _, rfl⟩
        exact ⟨hi, SqL.of (by rw [upd_ne (ne_of_none pls.at_ hacc)]; exact pls.at_)⟩
      · rintro i x ys H' hx ⟨hi, rfl, rfl⟩
        have hilt : i < xs.length := (List.getElem?_eq_some_iff.mp hx).1
        have px := (pls.pl x (List.mem_of_getElem? hx)).same (same_upd (o := .lst (((xs.take i).map (rangeB 0 (2 ^ n))).map V.bl)) hacc)
        refine tTrue_mk ?_
        refine iteT ?_
        refine ⟨nv n, rfl, x, rfl, lamps_use (by omega) px ⟨upd_same, ?_, hilt, ?_, ?_⟩⟩
        · rw [List.length_map, List.length_map, List.length_take]
          exact small9 (by omega)
        · rw [take_snoc hx, List.map_append, List.map_append]
          rfl
        · rw [upd_upd]
      · rintro ys H' ⟨_, rfl, rfl⟩
        rw [List.take_length]
        refine ⟨acc, _, rfl, SqL.of upd_same, _, rfl, ?_⟩
        refine iteBT ?_ (k _ (same_upd hacc))
        rw [List.all_map]
        have : (xs.all (id ∘ rangeB 0 (2 ^ n))) = false := hb'
        rw [this]
        rfl
theorem ok_isPressG {f : Addr} {fd : FuncData} (F : Fun K "is_press" "is_press" sIsPress f fd) (T : Txt K mg C) (FN : FnAt P w K mg base "is_number" 1 ["value"] (spIsNumber K)) (FS : FSw P w K mg base C) : FnOk P w K mg base CX0 2 f fd ["house", "value"] (spIsPressG K C) := by
  refine F.ok scP (fun vs H Q E h => ?_) (fun cdv A outer s H vs Q E hr h => ?_)
  · obtain ⟨p, n, sw, v, rfl, _⟩ := h
    rfl
  · obtain ⟨p, n, sw, v, rfl, hh, h8, hv, k⟩ := h
    refine ⟨_, pss_cons (ps_if (pt_not (pt_val (pe_isi T.isi T.list PyProof.Rows.boot_list (pv 1)))) (pss_one (ps_ret pe_bl)) pss_nil)
      (pss_cons (ps_set (i := 2) scP.nd rfl (Or.inl rfl) (pe_un un_neg pe_int))
      (pss_cons (ps_for PassesOwn.never rfl (pi_list (pv 1)) (pg_name (i := 3) scP.nd rfl (Or.inl rfl))
        (pss_cons (ps_if (PW.pt (pw_or (pt_not (pt_val (pe_fn FN hr (pa_cons (pv 3) pa_nil)))) (pw_or1 (pt_cmpR op_le (pv 3) (pv 2) (nomark _))))) (pss_one (ps_ret pe_bl)) pss_nil)
        (pss_one (ps_set (i := 2) scP.nd rfl (Or.inl rfl) (pv 3)))))
      (pss_one (ps_ret (pe_cmpR op_lt (pv 2) (pe_callB call_len_seq rfl T.len PySem.boot_len (pa_cons (pe_mt0 FS T.cl hr (pv 0)) pa_nil)) (nomark _)))))), ?_⟩
    rcases hv with ⟨t, ty, e⟩ | ⟨l, xs, rfl, pls, hb⟩
    · refine ⟨_, rfl, v, "list", t, false, rfl, ty, e, _, rfl, ?_⟩
      refine iteT ?_
      exact k _ (Same.refl _)
    refine ⟨_, rfl, .ref l, "list", _, true, rfl, .lst pls.at_, by rfl, _, rfl, ?_⟩
    refine iteF ?_
    refine ⟨1, rfl, ?_⟩
    refine ⟨_, rfl, l, rfl, ⟨_, SqL.of pls.at_⟩, for_list (K := K) (a := l) (xs := xs) (fun i σ H' => ∃ (b : Int) (v : Option V), σ = [some (.ref p), some (.ref l), some (.int b), v] ∧ H' = H ∧ pressV b sw.length (xs.drop i) = false)
      ⟨-1, none, rfl, rfl, hb⟩ ?_ ?_ ?_⟩
    · rintro i σ H' _ ⟨b, v, _, rfl, _⟩
      exact SqL.of pls.at_
    · rintro i x σ H' hx ⟨b, v, rfl, rfl, e⟩
      obtain ⟨hi, rfl⟩ := List.getElem?_eq_some_iff.mp hx
      rw [List.drop_eq_getElem_cons hi] at e
      have px := pls.pl _ (List.getElem_mem hi)
      refine ⟨_, rfl, number_use px ⟨_, rfl, ?_⟩⟩
      cases ei : isI xs[i] with
      | false =>
        refine iteT ?_
        refine iteT ?_
        exact k _ (Same.refl _)
      | true =>
        refine iteF ?_
        obtain ⟨z, ez⟩ := isI_int ei
        rw [ez] at e ⊢
        refine ⟨_, rfl, _, rfl, _, _, rfl, rfl, _, rfl, ?_⟩
        have e2 : pressV b sw.length (.int z :: xs.drop (i + 1)) = if z ≤ b then false else pressV z sw.length (xs.drop (i + 1)) := rfl
        rw [e2] at e
        refine ite2 (fun h1 => ?_) (fun h1 => ?_)
        · exact k _ (Same.refl _)
        · have h1' : ¬ z ≤ b := fun z => h1 (decide_eq_true z)
          rw [if_neg h1'] at e
          exact ⟨_, rfl, z, some (V.int z), rfl, rfl, e⟩
    · rintro σ H' ⟨b, v, rfl, rfl, e⟩
      rw [List.drop_length] at e
      obtain ⟨dx, u, h1, h2⟩ := hh.ob
      refine ⟨_, rfl, _, rfl, p, dx, _, rfl, h1, sw_no n u, p, n, sw, rfl, hh, fun q hq => ?_⟩
      refine ⟨q, _, rfl, .inl (SqL.of upd_same), _, _, rfl, rfl, ?_⟩
      have e3 : decide (b < ((sw.length : Nat) : Int)) = false := e
      have k1 := k _ (same_upd (o := .lst (sw.map nv)) hq)
      rw [← e3] at k1
      rw [List.length_map]
      exact k1
theorem scRfX : FnScope ["house", "state", "wish", "asked", "lamps"] ["house", "state", "wish", "asked"] (defScope sRefuse) := ⟨rfl, rfl, rfl, by decide +kernel, rfl, by decide +kernel, by decide +kernel⟩
theorem ok_refuseX {f : Addr} {fd : FuncData} (F : Fun K "refuse_wrong_lamps" "refuse_wrong_lamps" sRefuse f fd) (T : Txt K mg C) (Z : Tx9 K mg C0 CH CL CP CN CT) (FA : FnAt P w K mg base "are_lamps" 2 ["count", "value"] (spAreLamps K)) :
    FnOk P w K mg base (CXE P w) 3 f fd ["house", "state", "wish", "asked"] (spRefuseX K C CL) := by
  refine F.okE scRfX (fun vs H Q E h => ?_) (fun cdv A outer s H vs Q E hr h => ?_)
  · obtain ⟨p, n, sw, a, b, c, rfl, _⟩ := h
    rfl
  · obtain ⟨p, n, sw, a, b, c, rfl, hh, h10, pa, pb, pc, hall, k⟩ := h
    obtain ⟨dx, u, hp, hw⟩ := hh.ob
    refine ⟨_, pss_one (ps_for PassesOwn.leaving rfl (pi_tup (pe_tup (pa_cons (pv 1) (pa_cons (pv 2) (pa_cons (pv 3) pa_nil))))) (pg_name (i := 4) scRfX.nd rfl (Or.inl rfl))
      (pss_one (ps_if (pt_not (pt_val (pe_fn FA hr (pa_cons (pe_fld (pv 0) rfl) (pa_cons (pv 4) pa_nil))))) (pss_one (ps_raise Z.l.z Z.mL rfl)) pss_nil))), ?_⟩
    refine ⟨_, rfl, _, rfl, _, rfl, by show 3 ≤ sizeLine; decide, fun t ht => ?_⟩
    have s1 : Same H (upd H t (.tup [a, b, c])) := same_upd ht
    have pls : ∀ x ∈ [a, b, c], Plain K H x := fun x hx => by
      rcases List.mem_cons.mp hx with rfl | hx
      · exact pa
      rcases List.mem_cons.mp hx with rfl | hx
      · exact pb
      rw [List.mem_singleton.mp hx]
      exact pc
    generalize hxs : [a, b, c] = xs at hall pls s1
    have hx0 : (upd H t (.tup xs)) t = some (.tup xs) := upd_same
    generalize upd H t (.tup xs) = H1 at s1 hx0
    refine ⟨t, rfl, ⟨_, SqT.of hx0⟩, for_tup (K := K) (a := t) (xs := xs) (fun i σ H' => ∃ v, σ = [some (.ref p), some a, some b, some c, v] ∧ H' = H1 ∧ (xs.drop i).all (rangeB 0 (2 ^ n)) = false) ⟨none, by subst hxs; rfl, rfl, hall⟩ ?_ ?_ ?_⟩
    · rintro i σ H' _ ⟨v, _, rfl, _⟩
      exact SqT.of hx0
    · rintro i x σ H' hx ⟨v, rfl, rfl, hd⟩
      obtain ⟨hi, rfl⟩ := List.getElem?_eq_some_iff.mp hx
      rw [List.drop_eq_getElem_cons hi, List.all_cons] at hd
      refine ⟨_, rfl, p, C, dx, _, _, rfl, s1 _ _ hp, T.cl, T.nL, flds_lamps n u, _, rfl, lamps_use (by omega) ((pls _ (List.getElem_mem hi)).same s1) ⟨_, rfl, ?_⟩⟩
      cases e : rangeB 0 (2 ^ n) xs[i] with
      | false =>
        refine iteT ?_
        exact k _ s1
      | true =>
        refine iteF ?_
        rw [e, Bool.true_and] at hd
        exact ⟨_, rfl, rfl, hd⟩
    · rintro σ H' ⟨v, rfl, rfl, hd⟩
      rw [List.drop_length] at hd
      cases hd
theorem scAlX : FnScope ["house", "state", "wish", "asked"] ["house", "state", "wish", "asked"] (defScope sAll) := ⟨rfl, rfl, rfl, by decide +kernel, rfl, by decide +kernel, by decide +kernel⟩
theorem ok_allX {f : Addr} {fd : FuncData} (F : Fun K "all_presses" "all_presses" sAll f fd) (FR : FnAtE P w K mg base "refuse_wrong_lamps" 3 ["house", "state", "wish", "asked"] (spRefuseX K C CL)) :
    FnOk P w K mg base (CXE P w) 4 f fd ["house", "state", "wish", "asked"] (spRefuseX K C CL) := by
  refine F.okE scAlX (fun vs H Q E h => ?_) (fun cdv A outer s H vs Q E hr h => ?_)
  · obtain ⟨p, n, sw, a, b, c, rfl, _⟩ := h
    rfl
  · have h0 := h
    obtain ⟨p, n, sw, a, b, c, rfl, _⟩ := h
    refine ⟨_, pss_cons (ps_expr (pe_fnE FR hr (pa_cons (pv 0) (pa_cons (pv 1) (pa_cons (pv 2) (pa_cons (pv 3) pa_nil)))))) pss_never, ?_⟩
    exact ⟨_, rfl, _, rfl, _, rfl, _, rfl, h0⟩
theorem scTeX : FnScope ["house", "state", "wish", "asked", "found"] ["house", "state", "wish", "asked"] (defScope sTelling) := ⟨rfl, rfl, rfl, by decide +kernel, rfl, by decide +kernel, by decide +kernel⟩
theorem ok_tellingX {f : Addr} {fd : FuncData} (F : Fun K "telling" "telling" sTelling f fd) (FR : FnAtE P w K mg base "all_presses" 4 ["house", "state", "wish", "asked"] (spRefuseX K C CL)) :
    FnOk P w K mg base (CXE P w) 5 f fd ["house", "state", "wish", "asked"] (spRefuseX K C CL) := by
  refine F.okE scTeX (fun vs H Q E h => ?_) (fun cdv A outer s H vs Q E hr h => ?_)
  · obtain ⟨p, n, sw, a, b, c, rfl, _⟩ := h
    rfl
  · have h0 := h
    obtain ⟨p, n, sw, a, b, c, rfl, _⟩ := h
    refine ⟨_, pss_cons (ps_set (i := 4) scTeX.nd rfl (Or.inl rfl) (pe_fnE FR hr (pa_cons (pv 0) (pa_cons (pv 1) (pa_cons (pv 2) (pa_cons (pv 3) pa_nil)))))) pss_never, ?_⟩
    obtain ⟨p', n', sw', a', b', c', e, q⟩ := h0
    exact ⟨_, rfl, _, rfl, _, rfl, _, rfl, p', n', sw', a', b', c', e, q⟩
theorem scPrX : FnScope ["house", "state", "press"] ["house", "state", "press"] (defScope sPressed) := ⟨rfl, rfl, rfl, by decide +kernel, rfl, by decide +kernel, by decide +kernel⟩
theorem ok_pressedX {f : Addr} {fd : FuncData} (F : Fun K "pressed" "pressed" sPressed f fd) (T : Txt K mg C) (Z : Tx9 K mg C0 CH CL CP CN CT) (FA : FnAt P w K mg base "are_lamps" 2 ["count", "value"] (spAreLamps K)) (FP : FnAt P w K mg base "is_press" 2 ["house", "value"] (spIsPressG K C)) :
    FnOk P w K mg base (CXE P w) 3 f fd ["house", "state", "press"] (spPressedX K C CL CP) := by
  refine F.okE scPrX (fun vs H Q E h => ?_) (fun cdv A outer s H vs Q E hr h => ?_)
  · obtain ⟨p, n, sw, a, v, rfl, _⟩ := h
    rfl
  · obtain ⟨p, n, sw, a, v, rfl, hh, g, pa, hv⟩ := h
    obtain ⟨dx, u, h1, h2⟩ := hh.ob
    refine ⟨_, pss_cons (ps_if (pt_not (pt_val (pe_fn FA hr (pa_cons (pe_fld (pv 0) rfl) (pa_cons (pv 1) pa_nil))))) (pss_one (ps_raise Z.l.z Z.mL rfl)) pss_nil)
      (pss_cons (ps_if (pt_not (pt_val (pe_fn FP hr (pa_cons (pv 0) (pa_cons (pv 2) pa_nil))))) (pss_one (ps_raise Z.p.z Z.mP rfl)) pss_nil)
      pss_never), ?_⟩
    refine ⟨_, rfl, p, C, dx, _, _, rfl, h1, T.cl, T.nL, flds_lamps n u, _, rfl, lamps_use (by have := g.n10; omega) pa ⟨_, rfl, ?_⟩⟩
    rcases hv with ⟨e, k⟩ | ⟨e, pb, k⟩
    · rw [e]
      refine iteT ?_
      exact k _ (Same.refl _)
    · rw [e]
      refine iteF ?_
      refine ⟨_, rfl, _, rfl, p, n, sw, v, rfl, hh, g.s8, pb, fun H1 s1 => ⟨_, rfl, ?_⟩⟩
      refine iteT ?_
      exact k _ s1
theorem scDoX : FnScope ["house", "at", "switches", "turned", "every_lamp", "told"] ["house", "at"] (defScope sDoneBy) := ⟨rfl, rfl, rfl, by decide +kernel, rfl, by decide +kernel, by decide +kernel⟩
theorem ok_doneX {f : Addr} {fd : FuncData} (F : Fun K "done_by" "done_by" sDoneBy f fd) (T : Txt K mg C) (Z : Tx9 K mg C0 CH CL CP CN CT) (FN : FnAt P w K mg base "is_number" 1 ["value"] (spIsNumber K)) (FS : FSw P w K mg base C) :
    FnOk P w K mg base (CXE P w) 2 f fd ["house", "at"] (spDoneX K C CN) := by
  refine F.okE scDoX (fun vs H Q E h => ?_) (fun cdv A outer s H vs Q E hr h => ?_)
  · obtain ⟨p, n, sw, a, rfl, _⟩ := h
    rfl
  · obtain ⟨p, n, sw, a, rfl, hh, h8, pa, ea, k⟩ := h
    obtain ⟨dx, u, h1, h2⟩ := hh.ob
    refine ⟨_, pss_cons (ps_set (i := 2) scDoX.nd rfl (Or.inl rfl) (pe_mt0 FS T.cl hr (pv 0)))
      (pss_cons (ps_if (PW.pt (pw_or (pt_not (pt_val (pe_fn FN hr (pa_cons (pv 1) pa_nil)))) (pw_or1 (pt_not (pt_chain op_le op_lt pe_int (pv 1) (pe_callB call_len_seq rfl T.len PySem.boot_len (pa_cons (pv 2) pa_nil))))))) (pss_one (ps_raise Z.n.z Z.mN rfl)) pss_nil)
      pss_never), ?_⟩
    refine ⟨_, rfl, p, dx, _, rfl, h1, sw_no n u, p, n, sw, rfl, hh, fun q hq => ?_⟩
    have s1 : Same H (upd H q (.lst (sw.map nv))) := same_upd hq
    refine ⟨_, rfl, number_use (pa.same s1) ⟨_, rfl, ?_⟩⟩
    cases ei : isI a with
    | false =>
      refine iteT ?_
      exact k _ s1
    | true =>
      refine iteF ?_
      obtain ⟨z, rfl⟩ := isI_int ei
      have ez : (decide (0 ≤ z) && decide (z < ((sw.length : Nat) : Int))) = false := ea
      refine ⟨_, rfl, 0, z, rfl, rfl, _, rfl, ?_⟩
      by_cases h0 : 0 ≤ z
      case neg =>
        refine iteN h0 ?_
        refine ⟨_, rfl, ?_⟩
        refine iteT ?_
        exact k _ s1
      refine iteP h0 ?_
      rw [decide_eq_true h0, Bool.true_and] at ez
      refine ⟨_, rfl, q, _, rfl, .inl (SqL.of upd_same), z, _, rfl, rfl, _, rfl, ?_⟩
      refine iteBT (by rw [List.length_map, ez]; rfl) ?_
      exact k _ s1
end
end Sw
set_option maxHeartbeats 4000000
namespace Sw
open PySem L2
abbrev sSort : Stmt := top 32
abbrev sAsk : Stmt := top 33
abbrev sAsked : Stmt := top 34
abbrev sLAll : Stmt := top 35
inductive Due : Bool → Bool → Bool → Bool → Nat → Str → Prop
  | house : Due true false false false 0 "house"
  | lamps : Due false true false false 1 "lamps"
  | press : Due false false true false 2 "press"
  | switch : Due false false false true 3 "switch"
def FnAtH (P : Program) (w : World) (K : PySem.W.Frag) (mg : Str → Option Value) (base : Heap) (x : Str) (k : Nat) (ps : List Str) (sp : Sp) : Prop :=
  ∃ f fd, mg x = some (.ref f) ∧ PySem.W.keepIn K (.ref f) = true ∧ Binds K fd ps [] ∧ FnOkH P w K mg base k f fd ps sp
def spSort (K : PySem.W.Frag) (C0 CH CL CP CN CT : Addr) : Sp := fun vs H Q _ => ∃ (a X : Addr) (b1 b2 b3 b4 : Bool) (j : Nat) (d : Str), vs = [.ref a] ∧ H a = some (.ext (ExcObj a X)) ∧ XOne K C0 CH CL CP CN CT X b1 b2 b3 b4 ∧ Due b1 b2 b3 b4 j d ∧ ∀ H', Same H H' → Q (.str d) H'
def Refd (K : PySem.W.Frag) (H : Hp) (d : Nat) (v : V) (j : Nat) : Prop :=
  (d = 0 ∧ j = 0 ∧ Plain K H v ∧ rangeB 1 11 v = false) ∨ (d = 1 ∧ j = 0 ∧ SwBad K H 3 v) ∨ (2 ≤ d ∧ d ≤ 8 ∧ j = 1 ∧ Plain K H v ∧ rangeB 0 8 v = false) ∨ (d = 9 ∧ j = 2 ∧ PrBad K H 2 v) ∨ (d = 10 ∧ j = 3 ∧ Plain K H v ∧ rangeB 0 2 v = false)
theorem Refd.same {K : PySem.W.Frag} {H H' : Hp} {d j : Nat} {v : V} (h : Refd K H d v j) (s : Same H H') : Refd K H' d v j := by
  rcases h with ⟨a, b, c, e⟩ | ⟨a, b, c⟩ | ⟨a, b, c, e, f⟩ | ⟨a, b, c⟩ | ⟨a, b, c, e⟩
  · exact .inl ⟨a, b, c.same s, e⟩
  · exact .inr (.inl ⟨a, b, c.same s⟩)
  · exact .inr (.inr (.inl ⟨a, b, c, e.same s, f⟩))
  · exact .inr (.inr (.inr (.inl ⟨a, b, c.same s⟩)))
  · exact .inr (.inr (.inr (.inr ⟨a, b, c.same s, e⟩)))
def clsOf (CH CL CP CN : Addr) : Nat → Addr
  | 0 => CH
  | 1 => CL
  | 2 => CP
  | _ => CN
def dueS : Nat → Str
  | 0 => "house"
  | 1 => "lamps"
  | 2 => "press"
  | _ => "switch"
def spAskX (K : PySem.W.Frag) (CH CL CP CN : Addr) : Sp := fun vs H _ E => ∃ (d j : Nat) (v : V), vs = [nv d, v] ∧ Refd K H d v j ∧ ∀ H', Same H H' → E (.ref (clsOf CH CL CP CN j)) none H'
def spAsked (K : PySem.W.Frag) : Sp := fun vs H Q _ => ∃ (d j : Nat) (v : V), vs = [nv d, v] ∧ Refd K H d v j ∧ ∀ H', Same H H' → Q (.str (dueS j)) H'
def spLAll (K : PySem.W.Frag) : Sp := fun vs H Q _ => ∃ (p q : Addr) (ds : List Nat) (xs : List V) (j : Nat), vs = [.ref p, .ref q, .str (dueS j)] ∧ H p = some (.lst (ds.map nv)) ∧ H q = some (.lst xs) ∧ xs.length ≤ 100 ∧ (∀ d ∈ ds, ∀ x ∈ xs, Refd K H d x j) ∧ ∀ H', Same H H' → Q (.bl true) H'
section
variable {P : Program} {w : World} {K : PySem.W.Frag} {mg : Str → Option Value} {base : Heap} {C C0 CH CL CP CN CT : Addr}
theorem scSo : FnScope ["_law_error", "_law_kinds"] ["_law_error"] (defScope sSort) := ⟨rfl, rfl, rfl, by decide +kernel, rfl, by decide +kernel, by decide +kernel⟩
abbrev five : List Str := ["house", "lamps", "press", "switch", "wrong"]
theorem ok_sort {f : Addr} {fd : FuncData} (F : Fun K "_law_sort" "_law_sort" sSort f fd) (T : Txt K mg C) (Z : Tx9 K mg C0 CH CL CP CN CT) : FnOkH P w K mg base 1 f fd ["_law_error"] (spSort K C0 CH CL CP CN CT) := by
  refine F.okH scSo (fun vs H Q E h => ?_) (fun e0 cdv A outer s H vs Q E hr h => ?_)
  · obtain ⟨a, X, b1, b2, b3, b4, j, d, rfl, _⟩ := h
    rfl
  · obtain ⟨a, X, b1, b2, b3, b4, j, d, rfl, hx, z, du, k⟩ := h
    have hcnt : [b1, b2, b3, b4, false].count true = 1 := by cases du <;> rfl
    have hj : j ≤ 1000 := by cases du <;> decide
    have hget : [b1, b2, b3, b4, false][j]? = some true := by cases du <;> rfl
    have hno : ∀ m, m < j → [b1, b2, b3, b4, false][m]? = some false := by cases du <;> decide
    have htxt : atI (five.map V.str) (j : Int) = some (.str d) := by cases du <;> exact atI_nat (j := _) rfl
    refine ex_cons ⟨ps_set (i := 1) scSo.nd rfl (Or.inl rfl) (pe_lst (pa_cons (pe_isiX T.isi Z.mH (pv 0)) (pa_cons (pe_isiX T.isi Z.mL (pv 0)) (pa_cons (pe_isiX T.isi Z.mP (pv 0)) pa_nil))))⟩ ?_
    refine ex_cons ⟨ps_set (i := 1) scSo.nd rfl (Or.inl rfl) (pe_op op_cat (pv 1) (pe_lst (pa_cons (pe_isiX T.isi Z.mN (pv 0)) (pa_cons (pe_isiX T.isi Z.mT (pv 0)) pa_nil))))⟩ ?_
    refine ex_cons ⟨ps_if (PW.pt (pw_or (pt_cmpR op_ne (pe_bm PySem.F.plainAttrs_list PySem.F.slot_list_count PySem.F.type_list_count mt_countB (pv 1) (pa_cons pe_bl pa_nil)) pe_int (nomark _)) (pw_or1 (pt_not (pt_val (pe_isiT T.isi Z.ve PyProof.Rows.Boot.«ValueError» (pv 0))))))) (pss_one (ps_ret pe_str)) pss_nil⟩ ?_
    refine ex_one (ps_pick (xs := five) (by decide +kernel) ix_list ⟨pe_bm PySem.F.plainAttrs_list PySem.F.slot_list_index PySem.F.type_list_index mt_indexB (pv 1) (pa_cons pe_bl pa_nil)⟩ (fun _ _ => rfl)) ?_
    refine ⟨_, rfl, a, X, CH, b1, rfl, hx, z.z, z.kH, _, rfl, a, X, CL, b2, rfl, hx, z.z, z.kL, _, rfl, a, X, CP, b3, rfl, hx, z.z, z.kP, by show 3 ≤ sizeLine; decide, fun l hl => ?_⟩
    have s1 := same_upd (o := .lst [.bl b1, .bl b2, .bl b3]) hl
    have hl1 : (upd H l (.lst [.bl b1, .bl b2, .bl b3])) l = some (.lst [.bl b1, .bl b2, .bl b3]) := upd_same
    have hx1 := s1 _ _ hx
    generalize upd H l (.lst [.bl b1, .bl b2, .bl b3]) = H1 at s1 hl1 hx1
    refine ⟨_, rfl, _, rfl, a, X, CN, b4, rfl, hx1, z.z, z.kN, _, rfl, a, X, CT, false, rfl, hx1, z.z, z.kT, by show 2 ≤ sizeLine; decide, fun l2 hl2 => ?_⟩
    have s2 := same_upd (o := .lst [.bl b4, .bl false]) hl2
    refine ⟨l, l2, [.bl b1, .bl b2, .bl b3], [.bl b4, .bl false], rfl, rfl, s2 _ _ hl1, upd_same, by show 5 ≤ sizeLine; decide, fun l3 hl3 => ?_⟩
    have s3 := s1.trans (s2.trans (same_upd (o := .lst ([.bl b1, .bl b2, .bl b3] ++ [.bl b4, .bl false])) hl3))
    have hl4 : (upd (upd H1 l2 (.lst [.bl b4, .bl false])) l3 (.lst ([.bl b1, .bl b2, .bl b3] ++ [.bl b4, .bl false]))) l3 = some (.lst ([b1, b2, b3, b4, false].map V.bl)) := upd_same
    have hx3 := s3 _ _ hx
    generalize upd (upd H1 l2 (.lst [.bl b4, .bl false])) l3 (.lst ([.bl b1, .bl b2, .bl b3] ++ [.bl b4, .bl false])) = H3 at s3 hl4 hx3
    refine ⟨_, rfl, .inl ⟨rfl, _, SqL.of hl4⟩, l3, [b1, b2, b3, b4, false], true, rfl, rfl, SqL.of hl4, rfl, _, rfl, ?_⟩
    refine iteNS (by rw [hcnt]; rfl) ?_
    refine ⟨_, rfl, a, X, "ValueError", true, rfl, hx3, z.z, z.kV, _, rfl, ?_⟩
    refine iteF ?_
    refine ⟨by show 5 ≤ sizeLine; decide, fun l5 hl5 => ?_⟩
    have s5 := same_upd (o := .lst (five.map V.str)) hl5
    have hl6 := s5 _ _ hl4
    exact ⟨_, rfl, .inl ⟨rfl, _, SqL.of hl6⟩, l3, [b1, b2, b3, b4, false], j, rfl, rfl, SqL.of hl6, hj, hget, hno, l5, _, _, .str d, rfl, rfl, SqL.of upd_same, htxt, k _ (s3.trans s5)⟩
theorem scAs : FnScope ["_law_door", "_law_thing", "_law_error"] ["_law_door", "_law_thing"] (defScope sAsked) := ⟨rfl, rfl, rfl, by decide +kernel, rfl, by decide +kernel, by decide +kernel⟩
theorem xone_of (Z : Tx9 K mg C0 CH CL CP CN CT) (j : Nat) (hj : j < 4) : ∃ b1 b2 b3 b4, XOne K C0 CH CL CP CN CT (clsOf CH CL CP CN j) b1 b2 b3 b4 ∧ Due b1 b2 b3 b4 j (dueS j) := by
  match j, hj with
  | 0, _ => exact ⟨_, _, _, _, Z.h, .house⟩
  | 1, _ => exact ⟨_, _, _, _, Z.l, .lamps⟩
  | 2, _ => exact ⟨_, _, _, _, Z.p, .press⟩
  | 3, _ => exact ⟨_, _, _, _, Z.n, .switch⟩
theorem Refd.lt {H : Hp} {d j : Nat} {v : V} (h : Refd K H d v j) : j < 4 := by
  rcases h with ⟨_, b, _⟩ | ⟨_, b, _⟩ | ⟨_, _, b, _⟩ | ⟨_, b, _⟩ | ⟨_, b, _⟩ <;> omega
theorem ok_asked {f : Addr} {fd : FuncData} (F : Fun K "_law_asked" "_law_asked" sAsked f fd) (Z : Tx9 K mg C0 CH CL CP CN CT) (FK : FnAtE P w K mg base "_law_ask" 6 ["_law_door", "_law_thing"] (spAskX K CH CL CP CN)) (FS : FnAtH P w K mg base "_law_sort" 1 ["_law_error"] (spSort K C0 CH CL CP CN CT)) :
    FnOk P w K mg base CX0 7 f fd ["_law_door", "_law_thing"] (spAsked K) := by
  refine F.ok scAs (fun vs H Q E h => ?_) (fun cdv A outer s H vs Q E hr h => ?_)
  · obtain ⟨d, j, v, rfl, _⟩ := h
    rfl
  · obtain ⟨d, j, v, rfl, hv, k⟩ := h
    obtain ⟨fr, frd, hm, hkp, hb, G⟩ := FK
    obtain ⟨fs, fsd, hms, hks, hbs, GS⟩ := FS
    refine ⟨_, pss_cons (ps_try (i := 2) G hr rfl hm hkp hb (pa_cons (pv 0) (pa_cons (pv 1) pa_nil)) rfl Z.m0 scAs.nd rfl rfl rfl rfl (fun a =>
      pss_one (ps_ret (pe_callH (a := a) GS hr rfl hms hks hbs (pa_cons (pv 2) pa_nil)))))
      (pss_one (ps_ret pe_str)), ?_⟩
    obtain ⟨b1, b2, b3, b4, xo, du⟩ := xone_of Z j hv.lt
    refine ⟨_, rfl, _, rfl, d, j, v, rfl, hv, fun H1 s1 => ⟨clsOf CH CL CP CN j, rfl, xo.x0, fun a ha => ?_⟩⟩
    have s2 := same_upd (o := .ext (ExcObj a (clsOf CH CL CP CN j))) ha
    exact ⟨_, rfl, a, clsOf CH CL CP CN j, b1, b2, b3, b4, j, dueS j, rfl, upd_same, xo, du, fun H3 s3 => k _ (s1.trans (s2.trans s3))⟩
end
end Sw
set_option maxHeartbeats 4000000
namespace Sw
open PySem L2
theorem same_make {C : Addr} {H : Hp} {x dx : Addr} (nx : H x = none) (ndx : H dx = none) : Same H (upd (upd H dx (.own x)) x (.ins C dx [])) := fun b o e => by
  rw [upd_ne (ne_of_none e nx), upd_ne (ne_of_none e ndx)]
  exact e
theorem good16 : Good 3 [1, 6] := ⟨by decide, by decide, by decide, by decide⟩
theorem pow3 : (2 : Int) ^ 3 = 8 := by decide
section
variable {P : Program} {w : World} {K : PySem.W.Frag} {mg : Str → Option Value} {base : Heap} {C C0 CH CL CP CN CT : Addr}
abbrev NAk : List Str := ["_law_door", "_law_thing", "_law_house", "_law_lamps"]
theorem scAk : FnScope NAk ["_law_door", "_law_thing"] (defScope sAsk) := ⟨rfl, rfl, rfl, by decide +kernel, rfl, by decide +kernel, by decide +kernel⟩
theorem three {H : Hp} {v : V} (hp : Plain K H v) (h8 : rangeB 0 8 v = false) {e : Nat} (he : e < 3) : ∃ a b c : V, [V.int 0, .int 0, .int 7].set e v = [a, b, c] ∧ Plain K H a ∧ Plain K H b ∧ Plain K H c ∧ [a, b, c].all (rangeB 0 (2 ^ 3)) = false := by
  rw [pow3]
  match e, he with
  | 0, _ => exact ⟨_, _, _, rfl, hp, .int .., .int .., by simp [List.all_cons, h8]⟩
  | 1, _ => exact ⟨_, _, _, rfl, .int .., hp, .int .., by simp [List.all_cons, h8]⟩
  | 2, _ => exact ⟨_, _, _, rfl, .int .., .int .., hp, by simp [List.all_cons, h8]⟩
theorem ixN3 {d e : Nat} (h1 : e ≤ d) (h2 : d < e + 3) : ixN [V.int 0, .int 0, .int 7].length ((d : Int) - (e : Int)) = some (d - e) := by
  obtain ⟨i, rfl⟩ : ∃ i, d = e + i := ⟨d - e, by omega⟩
  have e1 : ((e + i : Nat) : Int) - (e : Int) = (i : Int) := by omega
  rw [e1, Nat.add_sub_cancel_left]
  match i, (show i < 3 by omega) with
  | 0, _ => rfl
  | 1, _ => rfl
  | 2, _ => rfl
theorem ok_ask {f : Addr} {fd : FuncData} (F : Fun K "_law_ask" "_law_ask" sAsk f fd) (MH : MkAt P w K mg base "House" C 3 ["self", "lamps", "switches"] (spInit K C)) (MX : MkAtE P w K mg base "House" C 3 ["self", "lamps", "switches"] (spInitX K CH))
    (FT : FnAtE P w K mg base "telling" 5 ["house", "state", "wish", "asked"] (spRefuseX K C CL)) (FA : FnAtE P w K mg base "all_presses" 4 ["house", "state", "wish", "asked"] (spRefuseX K C CL)) (FP : FnAtE P w K mg base "pressed" 3 ["house", "state", "press"] (spPressedX K C CL CP)) (FD : FnAtE P w K mg base "done_by" 2 ["house", "at"] (spDoneX K C CN)) :
    FnOk P w K mg base (CXE P w) 6 f fd ["_law_door", "_law_thing"] (spAskX K CH CL CP CN) := by
  refine F.okE scAk (fun vs H Q E h => ?_) (fun cdv A outer s H vs Q E hr h => ?_)
  · obtain ⟨d, j, v, rfl, _⟩ := h
    rfl
  · obtain ⟨d, j, v, rfl, hv, k⟩ := h
    refine ex_cons ⟨ps_set (i := 2) scAk.nd rfl (Or.inl rfl) (pe_mk MH hr (pa_cons pe_int (pa_cons (pe_lst (pa_cons pe_int (pa_cons pe_int pa_nil))) pa_nil)))⟩ ?_
    refine ex_one ⟨ps_if (pt_cmpR op_eq (pv 0) pe_int (nomark _)) (pss_one (ps_expr (pe_mkE MX hr (pa_cons (pv 1) (pa_cons (pe_lst pa_nil) pa_nil)))))
      (pss_one (ps_if (pt_cmpR op_eq (pv 0) pe_int (nomark _)) (pss_one (ps_expr (pe_mkE MX hr (pa_cons pe_int (pa_cons (pv 1) pa_nil)))))
      (pss_one (ps_if (pt_cmpR op_lt (pv 0) pe_int (nomark _))
        (pss_cons (ps_set (i := 3) scAk.nd rfl (Or.inl rfl) (pe_lst (pa_cons pe_int (pa_cons pe_int (pa_cons pe_int pa_nil)))))
        (pss_cons (ps_asg (pv 1) (pg_sub (pv 3) (pe_op op_sub (pv 0) pe_int) set_list))
        (pss_one (ps_expr (pe_fnE FT hr (pa_cons (pv 2) (pa_cons (pe_ix ix_list (pv 3) pe_int (fun _ _ => rfl)) (pa_cons (pe_ix ix_list (pv 3) pe_int (fun _ _ => rfl)) (pa_cons (pe_ix ix_list (pv 3) pe_int (fun _ _ => rfl)) pa_nil)))))))))
      (pss_one (ps_if (pt_cmpR op_lt (pv 0) pe_int (nomark _))
        (pss_cons (ps_set (i := 3) scAk.nd rfl (Or.inl rfl) (pe_lst (pa_cons pe_int (pa_cons pe_int (pa_cons pe_int pa_nil)))))
        (pss_cons (ps_asg (pv 1) (pg_sub (pv 3) (pe_op op_sub (pv 0) pe_int) set_list))
        (pss_one (ps_expr (pe_fnE FA hr (pa_cons (pv 2) (pa_cons (pe_ix ix_list (pv 3) pe_int (fun _ _ => rfl)) (pa_cons (pe_ix ix_list (pv 3) pe_int (fun _ _ => rfl)) (pa_cons (pe_ix ix_list (pv 3) pe_int (fun _ _ => rfl)) pa_nil)))))))))
      (pss_one (ps_if (pt_cmpR op_eq (pv 0) pe_int (nomark _)) (pss_one (ps_expr (pe_fnE FP hr (pa_cons (pv 2) (pa_cons (pv 1) (pa_cons pe_non pa_nil))))))
      (pss_one (ps_if (pt_cmpR op_eq (pv 0) pe_int (nomark _)) (pss_one (ps_expr (pe_fnE FP hr (pa_cons (pv 2) (pa_cons pe_int (pa_cons (pv 1) pa_nil))))))
      (pss_one (ps_expr (pe_fnE FD hr (pa_cons (pv 2) (pa_cons (pv 1) pa_nil)))))))))))))))⟩ ?_
    refine ⟨by show 2 ≤ sizeLine; decide, fun l hl x dx nx ndx nex => make_house (n := 3) (sw := [1, 6]) nx ndx nex upd_same good16 fun H2 hh s2 => ⟨rfl, ?_⟩⟩
    have s1 := (same_upd hl).trans s2
    have hv2 := hv.same s1
    have k2 : ∀ H', Same H2 H' → E (.ref (clsOf CH CL CP CN j)) none H' := fun H' s => k _ (s1.trans s)
    clear hv k nx ndx s1 s2
    refine ⟨_, rfl, rfl, _, rfl, ?_⟩
    have d0 : ∀ e : Nat, d ≠ e → ¬ nv d = V.int (e : Int) := fun e he z => he (by have := V.int.inj z; omega)
    rcases hv2 with ⟨rfl, rfl, pv0, r0⟩ | ⟨rfl, rfl, sb⟩ | ⟨h2, h8, rfl, pl, r8⟩ | ⟨rfl, rfl, pb⟩ | ⟨rfl, rfl, pl, r2⟩
    · refine iteP rfl ?_
      refine ⟨_, rfl, Nat.zero_le _, fun l3 hl3 y dy ny ndy ney => ?_⟩
      have s3 := same_upd (o := .lst []) hl3
      have s4 := s3.trans (same_make (C := C) ny ndy)
      exact ⟨y, v, .ref l3, rfl, pv0.same s4, .inl r0, fun H' s5 => k2 _ (s4.trans s5)⟩
    · refine iteN (d0 0 (by decide)) ?_
      refine ⟨_, rfl, rfl, _, rfl, ?_⟩
      refine iteP rfl ?_
      refine ⟨_, rfl, fun y dy ny ndy ney => ?_⟩
      have s4 := same_make (C := C) ny ndy
      exact ⟨y, nv 3, v, rfl, .int .., .inr ⟨3, rfl, by decide, by decide, sb.same s4⟩, fun H' s5 => k2 _ (s4.trans s5)⟩
    · refine iteN (d0 0 (by omega)) ?_
      refine ⟨_, rfl, rfl, _, rfl, ?_⟩
      refine iteN (d0 1 (by omega)) ?_
      refine ⟨_, rfl, _, _, rfl, rfl, _, rfl, ?_⟩
      refine ite2 (fun h5 => ?_) (fun h5 => ?_)
      · have h5' : (d : Int) < 5 := of_decide_eq_true h5
        refine ⟨by show 3 ≤ sizeLine; decide, fun l3 hl3 => ?_⟩
        refine ⟨_, rfl, _, rfl, _, rfl, _, _, rfl, rfl, l3, _, _, d - 2, rfl, rfl, upd_same, ixN3 (e := 2) h2 (by omega), ?_⟩
        have s3 : Same H2 (upd (upd H2 l3 (.lst [V.int 0, .int 0, .int 7])) l3 (.lst ([V.int 0, .int 0, .int 7].set (d - 2) v))) := by rw [upd_upd]; exact same_upd hl3
        have hl4 : (upd (upd H2 l3 (.lst [V.int 0, .int 0, .int 7])) l3 (.lst ([V.int 0, .int 0, .int 7].set (d - 2) v))) l3 = some (.lst ([V.int 0, .int 0, .int 7].set (d - 2) v)) := upd_same
        generalize upd (upd H2 l3 (.lst [V.int 0, .int 0, .int 7])) l3 (.lst ([V.int 0, .int 0, .int 7].set (d - 2) v)) = H4 at s3 hl4
        obtain ⟨a, b, c, e, pa, pb, pc, hall⟩ := three (pl.same s3) r8 (show d - 2 < 3 by omega)
        rw [e] at hl4
        exact ⟨_, rfl, _, rfl, l3, _, _, a, rfl, rfl, SqL.of hl4, atI_nat (j := 0) rfl, _, rfl, l3, _, _, b, rfl, rfl, SqL.of hl4, atI_nat (j := 1) rfl, _, rfl, l3, _, _, c, rfl, rfl, SqL.of hl4, atI_nat (j := 2) rfl,
          x, 3, [1, 6], a, b, c, rfl, hh.same s3, by decide, pa, pb, pc, hall, fun H' s5 => k2 _ (s3.trans s5)⟩
      · have h5' : ¬ (d : Int) < 5 := fun z => h5 (decide_eq_true z)
        refine ⟨_, rfl, _, _, rfl, rfl, _, rfl, ?_⟩
        refine ite2 (fun h6 => ?_) (fun h6 => ?_)
        · have h6' : (d : Int) < 8 := of_decide_eq_true h6
          refine ⟨by show 3 ≤ sizeLine; decide, fun l3 hl3 => ?_⟩
          refine ⟨_, rfl, _, rfl, _, rfl, _, _, rfl, rfl, l3, _, _, d - 5, rfl, rfl, upd_same, ixN3 (e := 5) (by omega) (by omega), ?_⟩
          have s3 : Same H2 (upd (upd H2 l3 (.lst [V.int 0, .int 0, .int 7])) l3 (.lst ([V.int 0, .int 0, .int 7].set (d - 5) v))) := by rw [upd_upd]; exact same_upd hl3
          have hl4 : (upd (upd H2 l3 (.lst [V.int 0, .int 0, .int 7])) l3 (.lst ([V.int 0, .int 0, .int 7].set (d - 5) v))) l3 = some (.lst ([V.int 0, .int 0, .int 7].set (d - 5) v)) := upd_same
          generalize upd (upd H2 l3 (.lst [V.int 0, .int 0, .int 7])) l3 (.lst ([V.int 0, .int 0, .int 7].set (d - 5) v)) = H4 at s3 hl4
          obtain ⟨a, b, c, e, pa, pb, pc, hall⟩ := three (pl.same s3) r8 (show d - 5 < 3 by omega)
          rw [e] at hl4
          exact ⟨_, rfl, _, rfl, l3, _, _, a, rfl, rfl, SqL.of hl4, atI_nat (j := 0) rfl, _, rfl, l3, _, _, b, rfl, rfl, SqL.of hl4, atI_nat (j := 1) rfl, _, rfl, l3, _, _, c, rfl, rfl, SqL.of hl4, atI_nat (j := 2) rfl,
            x, 3, [1, 6], a, b, c, rfl, hh.same s3, by decide, pa, pb, pc, hall, fun H' s5 => k2 _ (s3.trans s5)⟩
        · have h6' : ¬ (d : Int) < 8 := fun z => h6 (decide_eq_true z)
          obtain rfl : d = 8 := by omega
          refine ⟨_, rfl, rfl, _, rfl, ?_⟩
          refine iteP rfl ?_
          exact ⟨_, rfl, _, rfl, x, 3, [1, 6], v, .non, rfl, hh, good16, pl, .inl ⟨by rw [pow3]; exact r8, k2⟩⟩
    · refine iteN (d0 0 (by decide)) ?_
      refine ⟨_, rfl, rfl, _, rfl, ?_⟩
      refine iteN (d0 1 (by decide)) ?_
      refine ⟨_, rfl, _, _, rfl, rfl, _, rfl, ?_⟩
      refine iteN (by decide) ?_
      refine ⟨_, rfl, _, _, rfl, rfl, _, rfl, ?_⟩
      refine iteN (by decide) ?_
      refine ⟨_, rfl, rfl, _, rfl, ?_⟩
      refine iteN (d0 8 (by decide)) ?_
      refine ⟨_, rfl, rfl, _, rfl, ?_⟩
      refine iteP rfl ?_
      exact ⟨_, rfl, _, rfl, x, 3, [1, 6], .int 7, v, rfl, hh, good16, .int .., .inr ⟨by rw [pow3]; rfl, pb, k2⟩⟩
    · refine iteN (d0 0 (by decide)) ?_
      refine ⟨_, rfl, rfl, _, rfl, ?_⟩
      refine iteN (d0 1 (by decide)) ?_
      refine ⟨_, rfl, _, _, rfl, rfl, _, rfl, ?_⟩
      refine iteN (by decide) ?_
      refine ⟨_, rfl, _, _, rfl, rfl, _, rfl, ?_⟩
      refine iteN (by decide) ?_
      refine ⟨_, rfl, rfl, _, rfl, ?_⟩
      refine iteN (d0 8 (by decide)) ?_
      refine ⟨_, rfl, rfl, _, rfl, ?_⟩
      refine iteN (d0 9 (by decide)) ?_
      exact ⟨_, rfl, _, rfl, x, 3, [1, 6], v, rfl, hh, by decide, pl, r2, k2⟩
end
end Sw
set_option maxHeartbeats 4000000
namespace Sw
open PySem L2
section
variable {P : Program} {w : World} {K : PySem.W.Frag} {mg : Str → Option Value} {base : Heap} {C C0 CH CL CP CN CT : Addr}
abbrev NLa : List Str := ["_law_doors", "_law_things", "_law_due", "_law_door"]
theorem scLa : FnScope NLa ["_law_doors", "_law_things", "_law_due"] (defScope sLAll) := ⟨rfl, rfl, rfl, by decide +kernel, rfl, by decide +kernel, by decide +kernel⟩
def compLa : Scope := match (defBody sLAll).getD 0 (.Pass ⟨0, 0, 0, 0⟩) with
  | .For _ _ body _ _ => (match body.getD 0 (.Pass ⟨0, 0, 0, 0⟩) with
    | .If (.UnaryOp _ (.Call _ [.ListComp _ _ sc _] _ _) _) _ _ _ => sc
    | _ => defScope sLAll)
  | _ => defScope sLAll
theorem csLa : CompScope (defScope sLAll) compLa NLa "_law_thing" [3, 2] ["_law_door", "_law_due"] := ⟨rfl, by decide +kernel, by decide +kernel, by decide +kernel, by decide +kernel, by decide +kernel, by decide +kernel, by decide +kernel⟩
theorem ok_lall {f : Addr} {fd : FuncData} (F : Fun K "_law_all" "_law_all" sLAll f fd) (T : Txt K mg C) (FK : FnAt P w K mg base "_law_asked" 7 ["_law_door", "_law_thing"] (spAsked K)) :
    FnOk P w K mg base CX0 8 f fd ["_law_doors", "_law_things", "_law_due"] (spLAll K) := by
  refine F.ok scLa (fun vs H Q E h => ?_) (fun cdv A outer s H vs Q E hr h => ?_)
  · obtain ⟨p, q, ds, xs, j, rfl, _⟩ := h
    rfl
  · obtain ⟨p, q, ds, xs, j, rfl, hp, hq, hx, ha, k⟩ := h
    refine ⟨_, pss_cons (ps_for PassesOwn.never rfl (pi_list (pv 0)) (pg_name (i := 3) scLa.nd rfl (Or.inr rfl))
        (pss_one (ps_if (pt_not (pt_val (pe_callB (call_all rfl) rfl T.all PyProof.Rows.boot_all (pa_cons (pe_comp rfl csLa (pi_list (pv 1)) (fun _ _ _ _ => pts_nil) (fun _ _ _ _ => pe_cmpR op_eq (pe_fn FK hr (pa_cons (pv 1) (pa_cons (pv 0) pa_nil))) (pv 2) (nomark _))) pa_nil)))) (pss_one (ps_ret pe_bl)) pss_nil)))
      (pss_one (ps_ret pe_bl)), ?_⟩
    refine ⟨_, rfl, p, rfl, ⟨_, SqL.of hp⟩, for_list (K := K) (a := p) (xs := ds.map nv) (fun i σ H' => ∃ v, σ = [some (.ref p), some (.ref q), some (.str (dueS j)), v] ∧ Same H H') ⟨none, rfl, Same.refl _⟩ ?_ ?_ ?_⟩
    · rintro i σ H' _ ⟨v, _, s1⟩
      exact SqL.of (s1 _ _ hp)
    · rintro i x σ H' hx' ⟨v, rfl, s1⟩
      obtain ⟨d, hd, rfl⟩ := nv_get hx'
      have hdm := List.mem_of_getElem? hd
      refine ⟨_, rfl, q, rfl, ⟨_, SqL.of (s1 _ _ hq)⟩, fun acc hacc => comp_list (K := K) (a := q) (xs := xs) (fun i ys Hc => i ≤ xs.length ∧ ys = (List.replicate i true).map V.bl ∧ Same H' Hc ∧ Hc acc = some (.lst ys)) ⟨Nat.zero_le _, rfl, same_upd hacc, upd_same⟩ ?_ ?_ ?_⟩
      · rintro i ys Hc ⟨hi, _, sc, _⟩
        exact ⟨hi, SqL.of (sc _ _ (s1 _ _ hq))⟩
      · rintro i y ys Hc hy ⟨hi, rfl, sc, hac⟩
        have hilt : i < xs.length := (List.getElem?_eq_some_iff.mp hy).1
        have hr2 := (ha d hdm y (List.mem_of_getElem? hy)).same (s1.trans sc)
        refine tTrue_mk ?_
        refine iteT ?_
        refine ⟨_, rfl, _, rfl, d, j, y, rfl, hr2, fun H3 s3 => ⟨_, rfl, rfl, s3 _ _ hac, ?_, hilt, ?_, fun b o eb => ?_, upd_same⟩⟩
        · rw [List.length_map, List.length_replicate]
          exact small9 (by omega)
        · rw [decide_eq_true rfl, List.replicate_succ', List.map_append]
          rfl
        · rw [upd_ne (ne_of_none eb hacc)]
          exact s3 _ _ (sc _ _ eb)
      · rintro ys Hc ⟨_, rfl, sc, hac⟩
        refine ⟨acc, List.replicate xs.length true, rfl, SqL.of hac, _, rfl, ?_⟩
        have e : (!(List.replicate xs.length true).all id) = false := by simp
        refine iteB e ?_
        exact ⟨some (nv d), rfl, s1.trans sc⟩
    · rintro σ H' ⟨v, rfl, s1⟩
      exact k _ s1
end
end Sw
set_option maxHeartbeats 4000000
namespace Sw
open PySem L2
abbrev gsw : List Nat := [1, 2, 4, 8, 16, 32, 64, 128]
abbrev all8 : List Nat := [0, 1, 2, 3, 4, 5, 6, 7]
def spanB : List Nat → Nat → Bool
  | [], x => decide (x = 0)
  | v :: r, x => spanB r x || spanB r (x ^^^ v)
theorem span_b : ∀ (r : List Nat) (x : Nat), Span r x ↔ spanB r x = true
  | [], x => by
    show x = 0 ↔ decide (x = 0) = true
    rw [decide_eq_true_iff]
  | v :: r, x => by
    show (Span r x ∨ Span r (x ^^^ v)) ↔ (spanB r x || spanB r (x ^^^ v)) = true
    rw [Bool.or_eq_true, span_b r x, span_b r (x ^^^ v)]
theorem no_span {r : List Nat} {x : Nat} (h : spanB r x = false) : ¬ Span r x := fun z => by
  rw [span_b, h] at z
  cases z
theorem rk_gsw : rk gsw = 8 := by
  rw [rk_out (no_span (by decide +kernel)), rk_out (no_span (by decide +kernel)), rk_out (no_span (by decide +kernel)), rk_out (no_span (by decide +kernel)), rk_out (no_span (by decide +kernel)), rk_out (no_span (by decide +kernel)), rk_out (no_span (by decide +kernel)), rk_out (no_span (by decide +kernel))]
  rfl
theorem subs8 : ∀ a ∈ subs 8, a.length = 8 → a = all8 := by decide +kernel
theorem few_gsw {ks : List Nat} (h : Few gsw ks) : ks = all8 := subs8 ks (mem_subs.mpr h.pr) (h.len.trans rk_gsw)
theorem press8 : Press all8 gsw.length := ⟨by decide, by decide⟩
theorem good_gsw : Good 10 gsw := ⟨by decide, by decide, by decide, by decide⟩
theorem turned_gsw : turned gsw all8 = 255 := by decide +kernel
theorem r_hi {lo hi z : Int} (h : hi ≤ z) : rangeB lo hi (.int z) = false := by
  show (decide (lo ≤ z) && decide (z < hi)) = false
  rw [decide_eq_false (show ¬ z < hi by omega), Bool.and_false]
theorem r_lo {lo hi z : Int} (h : z < lo) : rangeB lo hi (.int z) = false := by
  show (decide (lo ≤ z) && decide (z < hi)) = false
  rw [decide_eq_false (show ¬ lo ≤ z by omega), Bool.false_and]
section
variable {K : PySem.W.Frag} {H : Hp}
theorem NoList.non : NoList K H .non := ⟨_, .non, by rfl⟩
theorem NoList.str (x : Str) : NoList K H (.str x) := ⟨_, .str x, by rfl⟩
theorem NoList.int (z : Int) : NoList K H (.int z) := ⟨_, .int z, by rfl⟩
theorem NoList.tup {a : Addr} {xs : List V} (h : H a = some (.tup xs)) : NoList K H (.ref a) := ⟨_, .tup h, by rfl⟩
theorem sw_one {l : Addr} {x : V} (h : H l = some (.lst [x])) (p : Plain K H x) (r : rangeB 0 8 x = false) : SwBad K H 3 (.ref l) :=
  .inr ⟨l, [x], rfl, ⟨h, (show 1 ≤ 100 by decide), fun y hy => by rw [List.mem_singleton.mp hy]; exact p⟩, fun _ => by rw [pow3, List.all_cons, r]; rfl⟩
theorem sw_nine {l : Addr} (h : H l = some (.lst (List.replicate (Int.toNat 9) [V.int 1]).flatten)) : SwBad K H 3 (.ref l) :=
  .inr ⟨l, _, rfl, ⟨h, by decide, fun y hy => by
    have : y = V.int 1 := by simpa using hy
    rw [this]
    exact .int ..⟩, fun z => absurd z (by decide)⟩
theorem pr_of {l : Addr} {xs : List V} (h : H l = some (.lst xs)) (hz : xs.length ≤ 100) (p : ∀ x ∈ xs, Plain K H x) (r : pressV (-1) 2 xs = false) : PrBad K H 2 (.ref l) := .inr ⟨l, xs, rfl, ⟨h, hz, p⟩, r⟩
theorem fa_nil {R : V → Prop} : ∀ x ∈ ([] : List V), R x := fun _ z => nomatch z
theorem fa_cons {R : V → Prop} {a : V} {r : List V} (h : R a) (k : ∀ x ∈ r, R x) : ∀ x ∈ a :: r, R x := fun x hx => by
  rcases List.mem_cons.mp hx with rfl | hx
  · exact h
  · exact k x hx
theorem pr_one {l : Addr} {x : V} (h : H l = some (.lst [x])) (p : Plain K H x) (r : pressV (-1) 2 [x] = false) : PrBad K H 2 (.ref l) := pr_of h (show 1 ≤ 100 by decide) (fa_cons p fa_nil) r
theorem pr_hi {z : Int} (h : 2 ≤ z) : pressV (-1) 2 [.int z] = false := by
  show (if z ≤ -1 then false else decide (z < 2)) = false
  rw [if_neg (by omega), decide_eq_false (by omega)]
theorem pr_lo {z : Int} (h : z ≤ -1) : pressV (-1) 2 [.int z] = false := by
  show (if z ≤ -1 then false else decide (z < 2)) = false
  rw [if_pos h]
theorem at0 {x : V} (p : Plain K H x) (r : rangeB 1 11 x = false) : Refd K H 0 x 0 := .inl ⟨rfl, rfl, p, r⟩
theorem at1 {x : V} (p : SwBad K H 3 x) : Refd K H 1 x 0 := .inr (.inl ⟨rfl, rfl, p⟩)
theorem at28 {d : Nat} {x : V} (h : 2 ≤ d ∧ d ≤ 8) (p : Plain K H x) (r : rangeB 0 8 x = false) : Refd K H d x 1 := .inr (.inr (.inl ⟨h.1, h.2, rfl, p, r⟩))
theorem at9 {x : V} (p : PrBad K H 2 x) : Refd K H 9 x 2 := .inr (.inr (.inr (.inl ⟨rfl, rfl, p⟩)))
theorem at10 {x : V} (p : Plain K H x) (r : rangeB 0 2 x = false) : Refd K H 10 x 3 := .inr (.inr (.inr (.inr ⟨rfl, rfl, p, r⟩)))
theorem one_door {d j : Nat} {xs : List V} (h : ∀ x ∈ xs, Refd K H d x j) : ∀ e ∈ [d], ∀ x ∈ xs, Refd K H e x j := fun e he => by
  rw [List.mem_singleton.mp he]
  exact h
end
section
variable {P : Program} {w : World} {K : PySem.W.Frag} {mg : Str → Option Value} {base : Heap} {C C0 CH CL CP CN CT : Addr}
def spPressed (C : Addr) : Sp := fun vs H Q _ => ∃ (p l : Addr) (n : Nat) (sw ps : List Nat) (z : Nat), vs = [.ref p, nv z, .ref l] ∧ HouseAt C H p n sw ∧ Good n sw ∧ z < 2 ^ n ∧ H l = some (.lst (ps.map nv)) ∧ Press ps sw.length ∧ ∀ H', Same H H' → Q (nv (z ^^^ turned sw ps)) H'
theorem ok_pressed {f : Addr} {fd : FuncData} (F : Fun K "pressed" "pressed" sPressed f fd) (T : Txt K mg C) (FA : FnAt P w K mg base "are_lamps" 2 ["count", "value"] (spAreLamps K)) (FP : FnAt P w K mg base "is_press" 2 ["house", "value"] (spIsPress C))
    (FT : FnAt P w K mg base "turned_by" 2 ["house", "press"] (spTurnedBy C)) : FnOk P w K mg base CX0 3 f fd ["house", "state", "press"] (spPressed C) := by
  refine F.ok scPrX (fun vs H Q E h => ?_) (fun cdv A outer s H vs Q E hr h => ?_)
  · obtain ⟨p, l, n, sw, ps, z, rfl, _⟩ := h
    rfl
  · obtain ⟨p, l, n, sw, ps, z, rfl, hh, g, hz, hl, hps, k⟩ := h
    obtain ⟨dx, u, h1, h2⟩ := hh.ob
    refine ⟨_, pss_cons (ps_if (pt_not (pt_val (pe_fn FA hr (pa_cons (pe_fld (pv 0) rfl) (pa_cons (pv 1) pa_nil))))) pss_never pss_nil)
      (pss_cons (ps_if (pt_not (pt_val (pe_fn FP hr (pa_cons (pv 0) (pa_cons (pv 2) pa_nil))))) pss_never pss_nil)
      (pss_one (ps_ret (pe_op op_xorN (pv 1) (pe_fn FT hr (pa_cons (pv 0) (pa_cons (pv 2) pa_nil))))))), ?_⟩
    refine ⟨_, rfl, p, C, dx, _, _, rfl, h1, T.cl, T.nL, flds_lamps n u, _, rfl, n, nv z, _, true, false, rfl, by have := g.n10; omega, kind_int K _ z, fun _ => ⟨z, rfl, _, rfl, ?_⟩, fun z => by cases z⟩
    refine iteB (by rw [lamps_ok hz]; rfl) ?_
    refine ⟨_, rfl, _, rfl, p, l, n, sw, castL ps, rfl, hh, g.s8, by rw [castL_nv]; exact hl, fun H1 s1 => ⟨_, rfl, ?_⟩⟩
    refine iteB (by rw [castL_nv, press_ok hps]; rfl) ?_
    exact ⟨_, rfl, _, rfl, _, rfl, p, l, n, sw, ps, rfl, hh.same s1, s1 _ _ hl, hps.lt, fun H2 s2 => ⟨z, turned sw ps, rfl, rfl, k H2 (s1.trans s2)⟩⟩
end
end Sw
set_option maxHeartbeats 4000000
namespace Sw
open PySem L2
def pows (i : Nat) : List Nat := (List.range i).map fun k : Nat => 2 ^ k
theorem pows_len (i : Nat) : (pows i).length = i := by unfold pows; rw [List.length_map, List.length_range]
theorem pows_succ (i : Nat) : pows (i + 1) = pows i ++ [2 ^ i] := by unfold pows; rw [List.range_succ, List.map_append]; rfl
section
variable {P : Program} {w : World} {K : PySem.W.Frag} {mg : Str → Option Value} {base : Heap} {C C0 CH CL CP CN CT : Addr}
abbrev NL : List Str := ["_law_script", "_law_more", "_law_switches", "_law_presses", "_law_great"]
theorem scL : FnScope NL ["_law_script"] (defScope sLaw) := ⟨rfl, rfl, rfl, by decide +kernel, rfl, by decide +kernel, by decide +kernel⟩
def compL1 : Scope := match (defBody sLaw).getD 7 (.Pass ⟨0, 0, 0, 0⟩) with
  | .Assign _ (.Call _ [_, .ListComp _ _ sc _] _ _) _ => sc
  | _ => defScope sLaw
theorem csL1 : CompScope (defScope sLaw) compL1 NL "_law_k" [] [] := ⟨rfl, by decide +kernel, by decide +kernel, by decide +kernel, by decide +kernel, by decide +kernel, by decide +kernel, by decide +kernel⟩
theorem ok_law {f : Addr} {fd : FuncData} (F : Fun K "law" "law" sLaw f fd) (T : Txt K mg C)
    (MH : MkAt P w K mg base "House" C 3 ["self", "lamps", "switches"] (spInit K C)) (FC : FCell P w K mg base) (FL : FnAt P w K mg base "_law_all" 8 ["_law_doors", "_law_things", "_law_due"] (spLAll K)) (FP : FnAt P w K mg base "pressed" 3 ["house", "state", "press"] (spPressed C))
    (FR : FnAt P w K mg base "rank" 3 ["house"] (spRank C)) (FE : FnAt P w K mg base "enough" 2 ["house"] (spEnough C)) (FQ : FnAt P w K mg base "quiet" 3 ["house"] (spNone C)) :
    FnOk P w K mg base CX0 9 f fd ["_law_script"] (spLaw K) := by
  refine F.ok scL (fun vs H Q E h => ?_) (fun cdv A outer s H vs Q E hr h => ?_)
  · obtain ⟨a, ns, rfl, _⟩ := h
    rfl
  · obtain ⟨a, ns, rfl, hS, _, q⟩ := h
    have hu0 := hr.units0
    have hu1 := Nat.lt_of_le_of_lt (Nat.add_le_add_left (by decide : 1 ≤ 64) _) hr.units
    refine ex_cons ⟨ps_set (i := 1) scL.nd rfl (Or.inl rfl) (pe_op op_mod (pe_fn FC hr (pa_cons (pv 0) (pa_cons pe_int pa_nil))) pe_int)⟩ ?_
    refine ex_cons ⟨ps_if (pt_not (pt_val (pe_fn FL hr (pa_cons (pe_lst (pa_cons pe_int pa_nil)) (pa_cons (pe_lst (pa_cons pe_int (pa_cons pe_int (pa_cons (pe_op op_add pe_int (pv 1)) (pa_cons (pe_op op_sub (pe_un un_neg pe_int) (pv 1)) (pa_cons pe_bl (pa_cons pe_str (pa_cons pe_non (pa_cons (pe_lst (pa_cons pe_int pa_nil)) pa_nil))))))))) (pa_cons pe_str pa_nil)))))) (pss_one (ps_ret pe_bl)) pss_nil⟩ ?_
    refine ex_cons (ps_lst (i := 2) scL.nd rfl (.inl rfl) (pa_consW ⟨pe_non⟩ (pa_consW ⟨pe_tup (pa_cons pe_int pa_nil)⟩ (pa_consW ⟨pe_str⟩ (pa_consW ⟨pe_int⟩ (pa_consW ⟨pe_lst (pa_cons pe_int pa_nil)⟩ (pa_consW ⟨pe_lst (pa_cons (pe_op op_add pe_int (pv 1)) pa_nil)⟩ (pa_consW ⟨pe_lst (pa_cons (pe_op op_sub (pe_un un_neg pe_int) (pv 1)) pa_nil)⟩
      (pa_consW ⟨pe_lst (pa_cons pe_bl pa_nil)⟩ (pa_consW ⟨pe_lst (pa_cons pe_str pa_nil)⟩ (pa_consW ⟨pe_lst (pa_cons pe_non pa_nil)⟩ (pa_consW ⟨pe_lst (pa_cons (pe_lst (pa_cons pe_int pa_nil)) pa_nil)⟩ (pa_consW ⟨pe_op op_rep (pe_lst (pa_cons pe_int pa_nil)) pe_int⟩ ⟨pa_nil⟩)))))))))))) (.inl rfl)) ?_
    refine ex_cons ⟨ps_if (pt_not (pt_val (pe_fn FL hr (pa_cons (pe_lst (pa_cons pe_int pa_nil)) (pa_cons (pv 2) (pa_cons pe_str pa_nil)))))) (pss_one (ps_ret pe_bl)) pss_nil⟩ ?_
    refine ex_cons ⟨ps_if (pt_not (pt_val (pe_fn FL hr (pa_cons (pe_callTy (call_listRng rfl) rfl T.list PyProof.Rows.boot_list (pa_cons (pe_callTy call_rng2 rfl T.range PyProof.Rows.boot_range (pa_cons pe_int (pa_cons pe_int pa_nil))) pa_nil)) (pa_cons (pe_lst (pa_cons pe_int (pa_cons (pe_op op_add pe_int (pv 1)) (pa_cons (pe_op op_sub (pe_un un_neg pe_int) (pv 1)) (pa_cons pe_bl (pa_cons pe_str (pa_cons pe_non (pa_cons (pe_lst (pa_cons pe_int pa_nil)) pa_nil)))))))) (pa_cons pe_str pa_nil)))))) (pss_one (ps_ret pe_bl)) pss_nil⟩ ?_
    refine ex_cons (ps_lst (i := 3) scL.nd rfl (.inl rfl) (pa_consW ⟨pe_non⟩ (pa_consW ⟨pe_tup (pa_cons pe_int pa_nil)⟩ (pa_consW ⟨pe_str⟩ (pa_consW ⟨pe_int⟩ (pa_consW ⟨pe_lst (pa_cons pe_int pa_nil)⟩ (pa_consW ⟨pe_lst (pa_cons (pe_op op_add pe_int (pv 1)) pa_nil)⟩ (pa_consW ⟨pe_lst (pa_cons (pe_op op_sub (pe_un un_neg pe_int) (pv 1)) pa_nil)⟩
      (pa_consW ⟨pe_lst (pa_cons pe_bl pa_nil)⟩ (pa_consW ⟨pe_lst (pa_cons pe_str pa_nil)⟩ (pa_consW ⟨pe_lst (pa_cons pe_non pa_nil)⟩ (pa_consW ⟨pe_lst (pa_cons pe_int (pa_cons pe_int pa_nil))⟩ (pa_consW ⟨pe_lst (pa_cons pe_int (pa_cons pe_int pa_nil))⟩ (pa_consW ⟨pe_lst (pa_cons pe_int (pa_cons pe_int (pa_cons pe_int pa_nil)))⟩ ⟨pa_nil⟩))))))))))))) (.inl rfl)) ?_
    refine ex_cons ⟨ps_if (PW.pt (pw_or (pt_not (pt_val (pe_fn FL hr (pa_cons (pe_lst (pa_cons pe_int pa_nil)) (pa_cons (pv 3) (pa_cons pe_str pa_nil)))))) (pw_or1 (pt_not (pt_val (pe_fn FL hr (pa_cons (pe_lst (pa_cons pe_int pa_nil)) (pa_cons (pe_lst (pa_cons pe_int (pa_cons (pe_op op_add pe_int (pv 1)) (pa_cons (pe_op op_sub (pe_un un_neg pe_int) (pv 1)) (pa_cons pe_bl (pa_cons pe_str (pa_cons pe_non pa_nil))))))) (pa_cons pe_str pa_nil))))))))) (pss_one (ps_ret pe_bl)) pss_nil⟩ ?_
    refine ex_cons ⟨ps_set (i := 4) scL.nd rfl (Or.inl rfl) (pe_mk MH hr (pa_cons pe_int (pa_cons (pe_comp rfl csL1 (pi_range1 rfl T.range (pa_cons pe_int pa_nil)) (fun _ _ _ _ => pts_nil) (fun _ _ _ _ => pe_op op_shl1 pe_int (pv 0))) pa_nil)))⟩ ?_
    refine ex_cons ⟨ps_if (PW.pt (pw_or (pt_cmpR op_ne (pe_fn FP hr (pa_cons (pv 4) (pa_cons pe_int (pa_cons (pe_callTy (call_listRng rfl) rfl T.list PyProof.Rows.boot_list (pa_cons (pe_callTy call_rng1 rfl T.range PyProof.Rows.boot_range (pa_cons pe_int pa_nil)) pa_nil)) pa_nil)))) pe_int (nomark _))
      (pw_or (pt_cmpR op_ne (pe_fn FR hr (pa_cons (pv 4) pa_nil)) pe_int (nomark _)) (pw_or1 (pt_cmpR (op_neL hu0) (pe_fn FE hr (pa_cons (pv 4) pa_nil)) (pe_callTy (call_listRng rfl) rfl T.list PyProof.Rows.boot_list (pa_cons (pe_callTy call_rng1 rfl T.range PyProof.Rows.boot_range (pa_cons pe_int pa_nil)) pa_nil)) (nomark _)))))) (pss_one (ps_ret pe_bl)) pss_nil⟩ ?_
    refine ex_one ⟨ps_ret (pe_and (pe_cmpR (op_eqLL hu1) (pe_fn FQ hr (pa_cons (pe_mk MH hr (pa_cons pe_int (pa_cons (pe_lst pa_nil) pa_nil))) pa_nil)) (pe_lst (pa_cons (pe_lst pa_nil) pa_nil)) (nomark _))
      (pe_and (pe_cmpR op_eq (pe_fn FP hr (pa_cons (pe_mk MH hr (pa_cons pe_int (pa_cons (pe_lst (pa_cons pe_int pa_nil)) pa_nil))) (pa_cons pe_int (pa_cons (pe_lst (pa_cons pe_int pa_nil)) pa_nil)))) pe_int (nomark _))
      (pe_one (pe_cmpR op_eq (pe_fld (pe_mk MH hr (pa_cons pe_int (pa_cons (pe_op op_rep (pe_lst (pa_cons pe_int pa_nil)) pe_int) pa_nil))) rfl) pe_int (nomark _)))))⟩ ?_
    refine ⟨_, rfl, a, ns, 0, rfl, hS, fun z => ⟨_, _, rfl, rfl, by show (0 : Int) < 1000000; decide, ?_⟩⟩
    refine ⟨by show 1 ≤ sizeLine; decide, fun p1 hp1 => ?_⟩
    have sp1 := same_upd (o := .lst [V.int 0]) hp1
    have ep1 : (upd H p1 (.lst [V.int 0])) p1 = some (.lst [V.int 0]) := upd_same
    generalize upd H p1 (.lst [V.int 0]) = H1 at sp1 ep1
    refine ⟨_, rfl, _, _, rfl, rfl, 1, rfl, _, rfl, _, _, rfl, rfl, by show 1 ≤ sizeLine; decide, fun a1 ha1 => ?_⟩
    have sa1 := same_upd (o := .lst [V.int 3]) ha1
    have ea1 : (upd H1 a1 (.lst [V.int 3])) a1 = some (.lst [V.int 3]) := upd_same
    generalize upd H1 a1 (.lst [V.int 3]) = H2 at sa1 ea1
    have ep1 := sa1 _ _ ep1
    refine ⟨by show 8 ≤ sizeLine; decide, fun q1 hq1 => ?_⟩
    have sq1 := same_upd (o := .lst [V.int 0, .int 11, .int (11 + z % 1000000), .int (-1 - z % 1000000), .bl true, .str "3", .non, .ref a1]) hq1
    have eq1 : (upd H2 q1 (.lst [V.int 0, .int 11, .int (11 + z % 1000000), .int (-1 - z % 1000000), .bl true, .str "3", .non, .ref a1])) q1 = some (.lst [V.int 0, .int 11, .int (11 + z % 1000000), .int (-1 - z % 1000000), .bl true, .str "3", .non, .ref a1]) := upd_same
    generalize upd H2 q1 (.lst [V.int 0, .int 11, .int (11 + z % 1000000), .int (-1 - z % 1000000), .bl true, .str "3", .non, .ref a1]) = H3 at sq1 eq1
    have ep1 := sq1 _ _ ep1
    have ea1 := sq1 _ _ ea1
    refine ⟨p1, q1, [0], _, 0, rfl, ep1, eq1, by show 8 ≤ 100; decide, one_door (fa_cons (at0 (.int ..) rfl) (fa_cons (at0 (.int ..) rfl) (fa_cons (at0 (.int ..) (r_hi (by omega))) (fa_cons (at0 (.int ..) (r_lo (by omega))) (fa_cons (at0 (.bl ..) rfl) (fa_cons (at0 (.str ..) rfl) (fa_cons (at0 (.non ..) rfl) (fa_cons (at0 (.lst ea1) rfl) fa_nil)))))))), fun H4 sx => ⟨_, rfl, ?_⟩⟩
    refine iteF ?_
    refine ⟨by show 1 ≤ sizeLine; decide, fun t1 ht1 => ?_⟩
    have st1 := same_upd (o := .tup [V.int 1]) ht1
    have et1 : (upd H4 t1 (.tup [V.int 1])) t1 = some (.tup [V.int 1]) := upd_same
    generalize upd H4 t1 (.tup [V.int 1]) = H5 at st1 et1
    refine ⟨by show 1 ≤ sizeLine; decide, fun b1 hb1 => ?_⟩
    have sb1 := same_upd (o := .lst [V.int 8]) hb1
    have eb1 : (upd H5 b1 (.lst [V.int 8])) b1 = some (.lst [V.int 8]) := upd_same
    generalize upd H5 b1 (.lst [V.int 8]) = H6 at sb1 eb1
    have et1 := sb1 _ _ et1
    refine ⟨_, rfl, _, _, rfl, rfl, by show 1 ≤ sizeLine; decide, fun b2 hb2 => ?_⟩
    have sb2 := same_upd (o := .lst [V.int (8 + z % 1000000)]) hb2
    have eb2 : (upd H6 b2 (.lst [V.int (8 + z % 1000000)])) b2 = some (.lst [V.int (8 + z % 1000000)]) := upd_same
    generalize upd H6 b2 (.lst [V.int (8 + z % 1000000)]) = H7 at sb2 eb2
    have et1 := sb2 _ _ et1
    have eb1 := sb2 _ _ eb1
    refine ⟨1, rfl, _, rfl, _, _, rfl, rfl, by show 1 ≤ sizeLine; decide, fun b3 hb3 => ?_⟩
    have sb3 := same_upd (o := .lst [V.int (-1 - z % 1000000)]) hb3
    have eb3 : (upd H7 b3 (.lst [V.int (-1 - z % 1000000)])) b3 = some (.lst [V.int (-1 - z % 1000000)]) := upd_same
    generalize upd H7 b3 (.lst [V.int (-1 - z % 1000000)]) = H8 at sb3 eb3
    have et1 := sb3 _ _ et1
    have eb1 := sb3 _ _ eb1
    have eb2 := sb3 _ _ eb2
    refine ⟨by show 1 ≤ sizeLine; decide, fun b4 hb4 => ?_⟩
    have sb4 := same_upd (o := .lst [V.bl true]) hb4
    have eb4 : (upd H8 b4 (.lst [V.bl true])) b4 = some (.lst [V.bl true]) := upd_same
    generalize upd H8 b4 (.lst [V.bl true]) = H9 at sb4 eb4
    have et1 := sb4 _ _ et1
    have eb1 := sb4 _ _ eb1
    have eb2 := sb4 _ _ eb2
    have eb3 := sb4 _ _ eb3
    refine ⟨by show 1 ≤ sizeLine; decide, fun b5 hb5 => ?_⟩
    have sb5 := same_upd (o := .lst [V.str "1"]) hb5
    have eb5 : (upd H9 b5 (.lst [V.str "1"])) b5 = some (.lst [V.str "1"]) := upd_same
    generalize upd H9 b5 (.lst [V.str "1"]) = H10 at sb5 eb5
    have et1 := sb5 _ _ et1
    have eb1 := sb5 _ _ eb1
    have eb2 := sb5 _ _ eb2
    have eb3 := sb5 _ _ eb3
    have eb4 := sb5 _ _ eb4
    refine ⟨by show 1 ≤ sizeLine; decide, fun b6 hb6 => ?_⟩
    have sb6 := same_upd (o := .lst [V.non]) hb6
    have eb6 : (upd H10 b6 (.lst [V.non])) b6 = some (.lst [V.non]) := upd_same
    generalize upd H10 b6 (.lst [V.non]) = H11 at sb6 eb6
    have et1 := sb6 _ _ et1
    have eb1 := sb6 _ _ eb1
    have eb2 := sb6 _ _ eb2
    have eb3 := sb6 _ _ eb3
    have eb4 := sb6 _ _ eb4
    have eb5 := sb6 _ _ eb5
    refine ⟨by show 1 ≤ sizeLine; decide, fun b7 hb7 => ?_⟩
    have sb7 := same_upd (o := .lst [V.int 1]) hb7
    have eb7 : (upd H11 b7 (.lst [V.int 1])) b7 = some (.lst [V.int 1]) := upd_same
    generalize upd H11 b7 (.lst [V.int 1]) = H12 at sb7 eb7
    have et1 := sb7 _ _ et1
    have eb1 := sb7 _ _ eb1
    have eb2 := sb7 _ _ eb2
    have eb3 := sb7 _ _ eb3
    have eb4 := sb7 _ _ eb4
    have eb5 := sb7 _ _ eb5
    have eb6 := sb7 _ _ eb6
    refine ⟨by show 1 ≤ sizeLine; decide, fun b8 hb8 => ?_⟩
    have sb8 := same_upd (o := .lst [V.ref b7]) hb8
    have eb8 : (upd H12 b8 (.lst [V.ref b7])) b8 = some (.lst [V.ref b7]) := upd_same
    generalize upd H12 b8 (.lst [V.ref b7]) = H13 at sb8 eb8
    have et1 := sb8 _ _ et1
    have eb1 := sb8 _ _ eb1
    have eb2 := sb8 _ _ eb2
    have eb3 := sb8 _ _ eb3
    have eb4 := sb8 _ _ eb4
    have eb5 := sb8 _ _ eb5
    have eb6 := sb8 _ _ eb6
    have eb7 := sb8 _ _ eb7
    refine ⟨by show 1 ≤ sizeLine; decide, fun b9 hb9 => ?_⟩
    have sb9 := same_upd (o := .lst [V.int 1]) hb9
    have eb9 : (upd H13 b9 (.lst [V.int 1])) b9 = some (.lst [V.int 1]) := upd_same
    generalize upd H13 b9 (.lst [V.int 1]) = H14 at sb9 eb9
    have et1 := sb9 _ _ et1
    have eb1 := sb9 _ _ eb1
    have eb2 := sb9 _ _ eb2
    have eb3 := sb9 _ _ eb3
    have eb4 := sb9 _ _ eb4
    have eb5 := sb9 _ _ eb5
    have eb6 := sb9 _ _ eb6
    have eb7 := sb9 _ _ eb7
    have eb8 := sb9 _ _ eb8
    refine ⟨b9, 9, _, rfl, rfl, eb9, by decide, by decide, by decide +kernel, fun c1 hc1 => ?_⟩
    have sc1 := same_upd (o := .lst (List.replicate (Int.toNat 9) [V.int 1]).flatten) hc1
    have ec1 : (upd H14 c1 (.lst (List.replicate (Int.toNat 9) [V.int 1]).flatten)) c1 = some (.lst (List.replicate (Int.toNat 9) [V.int 1]).flatten) := upd_same
    generalize upd H14 c1 (.lst (List.replicate (Int.toNat 9) [V.int 1]).flatten) = H15 at sc1 ec1
    have et1 := sc1 _ _ et1
    have eb1 := sc1 _ _ eb1
    have eb2 := sc1 _ _ eb2
    have eb3 := sc1 _ _ eb3
    have eb4 := sc1 _ _ eb4
    have eb5 := sc1 _ _ eb5
    have eb6 := sc1 _ _ eb6
    have eb7 := sc1 _ _ eb7
    have eb8 := sc1 _ _ eb8
    have eb9 := sc1 _ _ eb9
    refine ⟨by show 12 ≤ sizeLine; decide, fun q2 hq2 => ?_⟩
    have sq2 := same_upd (o := .lst [V.non, .ref t1, .str "1", .int 1, .ref b1, .ref b2, .ref b3, .ref b4, .ref b5, .ref b6, .ref b8, .ref c1]) hq2
    have eq2 : (upd H15 q2 (.lst [V.non, .ref t1, .str "1", .int 1, .ref b1, .ref b2, .ref b3, .ref b4, .ref b5, .ref b6, .ref b8, .ref c1])) q2 = some (.lst [V.non, .ref t1, .str "1", .int 1, .ref b1, .ref b2, .ref b3, .ref b4, .ref b5, .ref b6, .ref b8, .ref c1]) := upd_same
    generalize upd H15 q2 (.lst [V.non, .ref t1, .str "1", .int 1, .ref b1, .ref b2, .ref b3, .ref b4, .ref b5, .ref b6, .ref b8, .ref c1]) = H16 at sq2 eq2
    have et1 := sq2 _ _ et1
    have eb1 := sq2 _ _ eb1
    have eb2 := sq2 _ _ eb2
    have eb3 := sq2 _ _ eb3
    have eb4 := sq2 _ _ eb4
    have eb5 := sq2 _ _ eb5
    have eb6 := sq2 _ _ eb6
    have eb7 := sq2 _ _ eb7
    have eb8 := sq2 _ _ eb8
    have eb9 := sq2 _ _ eb9
    have ec1 := sq2 _ _ ec1
    refine ⟨by show 1 ≤ sizeLine; decide, fun p2 hp2 => ?_⟩
    have sp2 := same_upd (o := .lst [V.int 1]) hp2
    have ep2 : (upd H16 p2 (.lst [V.int 1])) p2 = some (.lst [V.int 1]) := upd_same
    generalize upd H16 p2 (.lst [V.int 1]) = H17 at sp2 ep2
    have et1 := sp2 _ _ et1
    have eb1 := sp2 _ _ eb1
    have eb2 := sp2 _ _ eb2
    have eb3 := sp2 _ _ eb3
    have eb4 := sp2 _ _ eb4
    have eb5 := sp2 _ _ eb5
    have eb6 := sp2 _ _ eb6
    have eb7 := sp2 _ _ eb7
    have eb8 := sp2 _ _ eb8
    have eb9 := sp2 _ _ eb9
    have ec1 := sp2 _ _ ec1
    have eq2 := sp2 _ _ eq2
    refine ⟨_, rfl, p2, q2, [1], _, 0, rfl, ep2, eq2, by show 12 ≤ 100; decide, one_door (fa_cons (at1 (.inl .non)) (fa_cons (at1 (.inl (.tup et1))) (fa_cons (at1 (.inl (.str _))) (fa_cons (at1 (.inl (.int _))) (fa_cons (at1 (sw_one eb1 (.int ..) rfl)) (fa_cons (at1 (sw_one eb2 (.int ..) (r_hi (by omega)))) (fa_cons (at1 (sw_one eb3 (.int ..) (r_lo (by omega)))) (fa_cons (at1 (sw_one eb4 (.bl ..) rfl)) (fa_cons (at1 (sw_one eb5 (.str ..) rfl)) (fa_cons (at1 (sw_one eb6 (.non ..) rfl)) (fa_cons (at1 (sw_one eb8 (.lst eb7) rfl)) (fa_cons (at1 (sw_nine ec1)) fa_nil)))))))))))), fun H18 sx => ⟨_, rfl, ?_⟩⟩
    refine iteF ?_
    refine ⟨2, 9, rfl, fun r1 hr1 => ⟨r1, 2, 9, 7, rfl, upd_same, by decide, by decide, by decide, fun p3 hp3 => ?_⟩⟩
    have ep3 : (upd (upd H18 r1 (.ext (RngAt r1 2 9))) p3 (.lst (upTo 2 7))) p3 = some (.lst ([2, 3, 4, 5, 6, 7, 8].map nv)) := upd_same
    generalize upd (upd H18 r1 (.ext (RngAt r1 2 9))) p3 (.lst (upTo 2 7)) = H20 at ep3
    refine ⟨_, rfl, _, _, rfl, rfl, 1, rfl, _, rfl, _, _, rfl, rfl, by show 1 ≤ sizeLine; decide, fun d1 hd1 => ?_⟩
    have sd1 := same_upd (o := .lst [V.int 0]) hd1
    have ed1 : (upd H20 d1 (.lst [V.int 0])) d1 = some (.lst [V.int 0]) := upd_same
    generalize upd H20 d1 (.lst [V.int 0]) = H21 at sd1 ed1
    have ep3 := sd1 _ _ ep3
    refine ⟨by show 7 ≤ sizeLine; decide, fun q3 hq3 => ?_⟩
    have sq3 := same_upd (o := .lst [V.int 8, .int (8 + z % 1000000), .int (-1 - z % 1000000), .bl true, .str "0", .non, .ref d1]) hq3
    have eq3 : (upd H21 q3 (.lst [V.int 8, .int (8 + z % 1000000), .int (-1 - z % 1000000), .bl true, .str "0", .non, .ref d1])) q3 = some (.lst [V.int 8, .int (8 + z % 1000000), .int (-1 - z % 1000000), .bl true, .str "0", .non, .ref d1]) := upd_same
    generalize upd H21 q3 (.lst [V.int 8, .int (8 + z % 1000000), .int (-1 - z % 1000000), .bl true, .str "0", .non, .ref d1]) = H22 at sq3 eq3
    have ep3 := sq3 _ _ ep3
    have ed1 := sq3 _ _ ed1
    have d28 : ∀ d ∈ [2, 3, 4, 5, 6, 7, 8], 2 ≤ d ∧ d ≤ 8 := by decide
    refine ⟨p3, q3, [2, 3, 4, 5, 6, 7, 8], _, 1, rfl, ep3, eq3, by show 7 ≤ 100; decide, fun d hd => (fa_cons (at28 (d28 d hd) (.int ..) rfl) (fa_cons (at28 (d28 d hd) (.int ..) (r_hi (by omega))) (fa_cons (at28 (d28 d hd) (.int ..) (r_lo (by omega))) (fa_cons (at28 (d28 d hd) (.bl ..) rfl) (fa_cons (at28 (d28 d hd) (.str ..) rfl) (fa_cons (at28 (d28 d hd) (.non ..) rfl) (fa_cons (at28 (d28 d hd) (.lst ed1) rfl) fa_nil))))))), fun H23 sx => ⟨_, rfl, ?_⟩⟩
    refine iteF ?_
    refine ⟨by show 1 ≤ sizeLine; decide, fun t2 ht2 => ?_⟩
    have st2 := same_upd (o := .tup [V.int 0]) ht2
    have et2 : (upd H23 t2 (.tup [V.int 0])) t2 = some (.tup [V.int 0]) := upd_same
    generalize upd H23 t2 (.tup [V.int 0]) = H24 at st2 et2
    refine ⟨by show 1 ≤ sizeLine; decide, fun f1 hf1 => ?_⟩
    have sf1 := same_upd (o := .lst [V.int 2]) hf1
    have ef1 : (upd H24 f1 (.lst [V.int 2])) f1 = some (.lst [V.int 2]) := upd_same
    generalize upd H24 f1 (.lst [V.int 2]) = H25 at sf1 ef1
    have et2 := sf1 _ _ et2
    refine ⟨_, rfl, _, _, rfl, rfl, by show 1 ≤ sizeLine; decide, fun f2 hf2 => ?_⟩
    have sf2 := same_upd (o := .lst [V.int (2 + z % 1000000)]) hf2
    have ef2 : (upd H25 f2 (.lst [V.int (2 + z % 1000000)])) f2 = some (.lst [V.int (2 + z % 1000000)]) := upd_same
    generalize upd H25 f2 (.lst [V.int (2 + z % 1000000)]) = H26 at sf2 ef2
    have et2 := sf2 _ _ et2
    have ef1 := sf2 _ _ ef1
    refine ⟨1, rfl, _, rfl, _, _, rfl, rfl, by show 1 ≤ sizeLine; decide, fun f3 hf3 => ?_⟩
    have sf3 := same_upd (o := .lst [V.int (-1 - z % 1000000)]) hf3
    have ef3 : (upd H26 f3 (.lst [V.int (-1 - z % 1000000)])) f3 = some (.lst [V.int (-1 - z % 1000000)]) := upd_same
    generalize upd H26 f3 (.lst [V.int (-1 - z % 1000000)]) = H27 at sf3 ef3
    have et2 := sf3 _ _ et2
    have ef1 := sf3 _ _ ef1
    have ef2 := sf3 _ _ ef2
    refine ⟨by show 1 ≤ sizeLine; decide, fun f4 hf4 => ?_⟩
    have sf4 := same_upd (o := .lst [V.bl true]) hf4
    have ef4 : (upd H27 f4 (.lst [V.bl true])) f4 = some (.lst [V.bl true]) := upd_same
    generalize upd H27 f4 (.lst [V.bl true]) = H28 at sf4 ef4
    have et2 := sf4 _ _ et2
    have ef1 := sf4 _ _ ef1
    have ef2 := sf4 _ _ ef2
    have ef3 := sf4 _ _ ef3
    refine ⟨by show 1 ≤ sizeLine; decide, fun f5 hf5 => ?_⟩
    have sf5 := same_upd (o := .lst [V.str "0"]) hf5
    have ef5 : (upd H28 f5 (.lst [V.str "0"])) f5 = some (.lst [V.str "0"]) := upd_same
    generalize upd H28 f5 (.lst [V.str "0"]) = H29 at sf5 ef5
    have et2 := sf5 _ _ et2
    have ef1 := sf5 _ _ ef1
    have ef2 := sf5 _ _ ef2
    have ef3 := sf5 _ _ ef3
    have ef4 := sf5 _ _ ef4
    refine ⟨by show 1 ≤ sizeLine; decide, fun f6 hf6 => ?_⟩
    have sf6 := same_upd (o := .lst [V.non]) hf6
    have ef6 : (upd H29 f6 (.lst [V.non])) f6 = some (.lst [V.non]) := upd_same
    generalize upd H29 f6 (.lst [V.non]) = H30 at sf6 ef6
    have et2 := sf6 _ _ et2
    have ef1 := sf6 _ _ ef1
    have ef2 := sf6 _ _ ef2
    have ef3 := sf6 _ _ ef3
    have ef4 := sf6 _ _ ef4
    have ef5 := sf6 _ _ ef5
    refine ⟨by show 2 ≤ sizeLine; decide, fun f7 hf7 => ?_⟩
    have sf7 := same_upd (o := .lst [V.int 1, .int 0]) hf7
    have ef7 : (upd H30 f7 (.lst [V.int 1, .int 0])) f7 = some (.lst [V.int 1, .int 0]) := upd_same
    generalize upd H30 f7 (.lst [V.int 1, .int 0]) = H31 at sf7 ef7
    have et2 := sf7 _ _ et2
    have ef1 := sf7 _ _ ef1
    have ef2 := sf7 _ _ ef2
    have ef3 := sf7 _ _ ef3
    have ef4 := sf7 _ _ ef4
    have ef5 := sf7 _ _ ef5
    have ef6 := sf7 _ _ ef6
    refine ⟨by show 2 ≤ sizeLine; decide, fun f8 hf8 => ?_⟩
    have sf8 := same_upd (o := .lst [V.int 0, .int 0]) hf8
    have ef8 : (upd H31 f8 (.lst [V.int 0, .int 0])) f8 = some (.lst [V.int 0, .int 0]) := upd_same
    generalize upd H31 f8 (.lst [V.int 0, .int 0]) = H32 at sf8 ef8
    have et2 := sf8 _ _ et2
    have ef1 := sf8 _ _ ef1
    have ef2 := sf8 _ _ ef2
    have ef3 := sf8 _ _ ef3
    have ef4 := sf8 _ _ ef4
    have ef5 := sf8 _ _ ef5
    have ef6 := sf8 _ _ ef6
    have ef7 := sf8 _ _ ef7
    refine ⟨by show 3 ≤ sizeLine; decide, fun f9 hf9 => ?_⟩
    have sf9 := same_upd (o := .lst [V.int 0, .int 1, .int 2]) hf9
    have ef9 : (upd H32 f9 (.lst [V.int 0, .int 1, .int 2])) f9 = some (.lst [V.int 0, .int 1, .int 2]) := upd_same
    generalize upd H32 f9 (.lst [V.int 0, .int 1, .int 2]) = H33 at sf9 ef9
    have et2 := sf9 _ _ et2
    have ef1 := sf9 _ _ ef1
    have ef2 := sf9 _ _ ef2
    have ef3 := sf9 _ _ ef3
    have ef4 := sf9 _ _ ef4
    have ef5 := sf9 _ _ ef5
    have ef6 := sf9 _ _ ef6
    have ef7 := sf9 _ _ ef7
    have ef8 := sf9 _ _ ef8
    refine ⟨by show 13 ≤ sizeLine; decide, fun q4 hq4 => ?_⟩
    have sq4 := same_upd (o := .lst [V.non, .ref t2, .str "0", .int 0, .ref f1, .ref f2, .ref f3, .ref f4, .ref f5, .ref f6, .ref f7, .ref f8, .ref f9]) hq4
    have eq4 : (upd H33 q4 (.lst [V.non, .ref t2, .str "0", .int 0, .ref f1, .ref f2, .ref f3, .ref f4, .ref f5, .ref f6, .ref f7, .ref f8, .ref f9])) q4 = some (.lst [V.non, .ref t2, .str "0", .int 0, .ref f1, .ref f2, .ref f3, .ref f4, .ref f5, .ref f6, .ref f7, .ref f8, .ref f9]) := upd_same
    generalize upd H33 q4 (.lst [V.non, .ref t2, .str "0", .int 0, .ref f1, .ref f2, .ref f3, .ref f4, .ref f5, .ref f6, .ref f7, .ref f8, .ref f9]) = H34 at sq4 eq4
    have et2 := sq4 _ _ et2
    have ef1 := sq4 _ _ ef1
    have ef2 := sq4 _ _ ef2
    have ef3 := sq4 _ _ ef3
    have ef4 := sq4 _ _ ef4
    have ef5 := sq4 _ _ ef5
    have ef6 := sq4 _ _ ef6
    have ef7 := sq4 _ _ ef7
    have ef8 := sq4 _ _ ef8
    have ef9 := sq4 _ _ ef9
    refine ⟨by show 1 ≤ sizeLine; decide, fun p4 hp4 => ?_⟩
    have sp4 := same_upd (o := .lst [V.int 9]) hp4
    have ep4 : (upd H34 p4 (.lst [V.int 9])) p4 = some (.lst [V.int 9]) := upd_same
    generalize upd H34 p4 (.lst [V.int 9]) = H35 at sp4 ep4
    have et2 := sp4 _ _ et2
    have ef1 := sp4 _ _ ef1
    have ef2 := sp4 _ _ ef2
    have ef3 := sp4 _ _ ef3
    have ef4 := sp4 _ _ ef4
    have ef5 := sp4 _ _ ef5
    have ef6 := sp4 _ _ ef6
    have ef7 := sp4 _ _ ef7
    have ef8 := sp4 _ _ ef8
    have ef9 := sp4 _ _ ef9
    have eq4 := sp4 _ _ eq4
    refine ⟨_, rfl, p4, q4, [9], _, 2, rfl, ep4, eq4, by show 13 ≤ 100; decide, one_door (fa_cons (at9 (.inl .non)) (fa_cons (at9 (.inl (.tup et2))) (fa_cons (at9 (.inl (.str _))) (fa_cons (at9 (.inl (.int _))) (fa_cons (at9 (pr_one ef1 (.int ..) rfl)) (fa_cons (at9 (pr_one ef2 (.int ..) (pr_hi (by omega)))) (fa_cons (at9 (pr_one ef3 (.int ..) (pr_lo (by omega)))) (fa_cons (at9 (pr_one ef4 (.bl ..) rfl)) (fa_cons (at9 (pr_one ef5 (.str ..) rfl)) (fa_cons (at9 (pr_one ef6 (.non ..) rfl)) (fa_cons (at9 (pr_of ef7 (by decide) (fa_cons (.int ..) (fa_cons (.int ..) fa_nil)) rfl)) (fa_cons (at9 (pr_of ef8 (by decide) (fa_cons (.int ..) (fa_cons (.int ..) fa_nil)) rfl)) (fa_cons (at9 (pr_of ef9 (by decide) (fa_cons (.int ..) (fa_cons (.int ..) (fa_cons (.int ..) fa_nil))) rfl)) fa_nil))))))))))))), fun H36 sx => ⟨_, rfl, ?_⟩⟩
    refine iteF ?_
    refine ⟨by show 1 ≤ sizeLine; decide, fun p5 hp5 => ?_⟩
    have sp5 := same_upd (o := .lst [V.int 10]) hp5
    have ep5 : (upd H36 p5 (.lst [V.int 10])) p5 = some (.lst [V.int 10]) := upd_same
    generalize upd H36 p5 (.lst [V.int 10]) = H37 at sp5 ep5
    refine ⟨_, rfl, _, _, rfl, rfl, 1, rfl, _, rfl, _, _, rfl, rfl, by show 6 ≤ sizeLine; decide, fun q5 hq5 => ?_⟩
    have sq5 := same_upd (o := .lst [V.int 2, .int (2 + z % 1000000), .int (-1 - z % 1000000), .bl true, .str "0", .non]) hq5
    have eq5 : (upd H37 q5 (.lst [V.int 2, .int (2 + z % 1000000), .int (-1 - z % 1000000), .bl true, .str "0", .non])) q5 = some (.lst [V.int 2, .int (2 + z % 1000000), .int (-1 - z % 1000000), .bl true, .str "0", .non]) := upd_same
    generalize upd H37 q5 (.lst [V.int 2, .int (2 + z % 1000000), .int (-1 - z % 1000000), .bl true, .str "0", .non]) = H38 at sq5 eq5
    have ep5 := sq5 _ _ ep5
    refine ⟨p5, q5, [10], _, 3, rfl, ep5, eq5, by show 6 ≤ 100; decide, one_door (fa_cons (at10 (.int ..) rfl) (fa_cons (at10 (.int ..) (r_hi (by omega))) (fa_cons (at10 (.int ..) (r_lo (by omega))) (fa_cons (at10 (.bl ..) rfl) (fa_cons (at10 (.str ..) rfl) (fa_cons (at10 (.non ..) rfl) fa_nil)))))), fun H39 sx => ⟨_, rfl, ?_⟩⟩
    refine iteF ?_
    clear hS
    refine ⟨_, rfl, by omega, by omega, fun acc hacc => comp_range (fun i ys Hc => i ≤ 8 ∧ ys = (pows i).map nv ∧ Hc acc = some (.lst ys)) ⟨Nat.zero_le _, rfl, upd_same⟩ ?_ ?_ ?_⟩
    · rintro i ys Hc ⟨hi, _⟩
      exact hi
    · rintro i ys Hc hi ⟨_, rfl, hac⟩
      have hi8 : i < 8 := hi
      have e0 : (0 : Int) + (i : Int) = ((i : Nat) : Int) := by omega
      rw [e0]
      refine tTrue_mk ?_
      refine iteT ?_
      refine ⟨_, rfl, i, rfl, rfl, by omega, hac, ?_, hi8, ?_, upd_same⟩
      · rw [List.length_map, pows_len]
        exact small1000 (by omega)
      · rw [pows_succ, List.map_append]
        rfl
    · rintro ys Hc ⟨_, rfl, hac⟩ g dg ng ndg neg
      refine make_house (n := 10) (sw := gsw) ng ndg neg hac good_gsw fun Ha hh sa => ⟨rfl, ?_⟩
      refine ⟨_, rfl, 8, rfl, fun r2 hr2 => ⟨r2, 0, 8, 8, rfl, upd_same, by decide, by decide, by decide, fun l1 hl1 => ?_⟩⟩
      have s1 : Same Ha (upd (upd Ha r2 (.ext (RngAt r2 0 8))) l1 (.lst (upTo 0 8))) := (same_upd hr2).trans (same_upd hl1)
      have e1 : (upd (upd Ha r2 (.ext (RngAt r2 0 8))) l1 (.lst (upTo 0 8))) l1 = some (.lst (all8.map nv)) := upd_same
      generalize upd (upd Ha r2 (.ext (RngAt r2 0 8))) l1 (.lst (upTo 0 8)) = Hb at s1 e1
      have hh1 := hh.same s1
      refine ⟨g, l1, 10, gsw, all8, 1023, rfl, hh1, good_gsw, by decide, e1, press8, fun Hd s2 => ⟨rfl, _, rfl, ?_⟩⟩
      have hh2 := hh1.same s2
      refine iteNS (by rw [turned_gsw]; rfl) ?_
      refine ⟨_, rfl, g, 10, gsw, rfl, hh2, by decide, fun He s3 => ⟨rfl, _, rfl, ?_⟩⟩
      have hh3 := hh2.same s3
      refine iteNS (by rw [rk_gsw]; rfl) ?_
      refine ⟨_, rfl, g, 10, gsw, rfl, hh3, by decide, fun q6 ks Hf s4 nq6 eq6 few => ?_⟩
      obtain rfl := few_gsw few
      refine ⟨8, rfl, fun r3 hr3 => ⟨r3, 0, 8, 8, rfl, upd_same, by decide, by decide, by decide, fun l2 hl2 => ?_⟩⟩
      have s5 : Same Hf (upd (upd Hf r3 (.ext (RngAt r3 0 8))) l2 (.lst (upTo 0 8))) := (same_upd hr3).trans (same_upd hl2)
      have e2 : (upd (upd Hf r3 (.ext (RngAt r3 0 8))) l2 (.lst (upTo 0 8))) l2 = some (.lst (all8.map nv)) := upd_same
      generalize upd (upd Hf r3 (.ext (RngAt r3 0 8))) l2 (.lst (upTo 0 8)) = Hg at s5 e2
      refine ⟨q6, l2, all8.map nv, all8.map nv, rfl, rfl, SqL.of (s5 _ _ eq6), SqL.of e2, nv_flat _, nv_flat _, _, rfl, ?_⟩
      refine iteB (by rw [if_pos rfl, nv_eqVs]; rfl) ?_
      clear hh hh1 hh2 hh3 s1 s2 s3 s4 s5 e1 e2 eq6 sa hac
      refine ⟨Nat.zero_le _, fun n1 hn1 x dx nx ndx nex => make_house (n := 1) (sw := []) nx ndx nex upd_same ⟨by decide, by decide, by decide, by decide⟩ fun Hh hhx sx => ⟨rfl, ?_⟩⟩
      refine ⟨x, 1, rfl, hhx, fun q7 ea Hi s6 eq7 hea => ?_⟩
      refine ⟨Nat.zero_le _, fun n2 hn2 => ⟨by show 1 ≤ sizeLine; decide, fun n3 hn3 => ?_⟩⟩
      have s7 := same_upd (o := .lst []) hn2
      have s8 := same_upd (o := .lst [V.ref n2]) hn3
      refine ⟨q7, n3, [(ea, [])], [(n2, [])], rfl, rfl, SqL.of (s8 _ _ (s7 _ _ eq7)), SqL.of upd_same, fun e he => ?_, fun e he => ?_, _, rfl, ?_⟩
      · rw [List.mem_singleton.mp he]
        exact SqL.of (s8 _ _ (s7 _ _ hea))
      · rw [List.mem_singleton.mp he]
        exact SqL.of (s8 _ _ upd_same)
      refine iteT ?_
      refine ⟨by show 1 ≤ sizeLine; decide, fun n4 hn4 y dy ny ndy ney => make_house (n := 1) (sw := [1]) ny ndy ney upd_same ⟨by decide, by decide, by decide, by decide⟩ fun Hj hhy sy => ⟨rfl, ?_⟩⟩
      refine ⟨by show 1 ≤ sizeLine; decide, fun n5 hn5 => ?_⟩
      refine ⟨y, n5, 1, [1], [0], 0, rfl, hhy.same (same_upd hn5), ⟨by decide, by decide, by decide, by decide⟩, by decide, upd_same, ⟨by decide, by decide⟩, fun Hk s9 => ⟨rfl, _, rfl, ?_⟩⟩
      refine iteP rfl ?_
      refine ⟨by show 1 ≤ sizeLine; decide, fun n6 hn6 => ⟨n6, 8, _, rfl, rfl, upd_same, by decide, by decide, by decide +kernel, fun n7 hn7 u du nu ndu neu => make_house (n := 10) (sw := List.replicate 8 1023) nu ndu neu upd_same ⟨by decide, by decide, by decide, by decide⟩ fun Hm hhu su => ⟨rfl, ?_⟩⟩⟩
      obtain ⟨dx0, u0, h10, _⟩ := hhu.ob
      exact ⟨u, C, dx0, _, _, rfl, h10, T.cl, T.nL, flds_lamps 10 u0, rfl, q _⟩
end
end Sw
namespace Sw
open PySem L2
theorem cls_some {K : PySem.W.Frag} {B : Addr} (hm : PySem.W.mroIn K B (.type "object") = some true) : (PySem.W.clsIn K B).isSome = true := by
  unfold PySem.W.mroIn at hm
  cases e : PySem.W.clsIn K B with
  | none => rw [e] at hm; cases hm
  | some cd => rfl
theorem kit_sub {K : PySem.W.Frag} {A B : Addr} {b : Bool} (hm : PySem.W.mroIn K B (.type "object") = some true) (ht : PySem.W.typeIn K (.ref B) = some (.type "type")) (hs : PySem.W.subIn K (.ref A) (.ref B) = some b) : PySem.W.kitCls K (.ref A) (.ref B) = some b := by
  show (if ((PySem.W.clsIn K B).isSome && PySem.W.typeIn K (.ref B) == some (.type "type")) = true then PySem.W.subIn K (.ref A) (.ref B) else none) = some b
  rw [cls_some hm, ht, if_pos (by decide)]
  exact hs
theorem kit_t {K : PySem.W.Frag} {A B : Addr} (hm : PySem.W.mroIn K B (.type "object") = some true) (ht : PySem.W.typeIn K (.ref B) = some (.type "type")) (hs : PySem.W.subIn K (.ref A) (.ref B) = some true) : PySem.W.kitOne K (.ref A) (.ref B) = some true := by
  unfold PySem.W.kitOne
  split
  · rfl
  · exact kit_sub hm ht hs
theorem kit_f {K : PySem.W.Frag} {A B : Addr} (hm : PySem.W.mroIn K B (.type "object") = some true) (ht : PySem.W.typeIn K (.ref B) = some (.type "type")) (hs : PySem.W.subIn K (.ref A) (.ref B) = some false) (hss : PySem.W.subIn K (.ref A) (.ref A) = some true) : PySem.W.kitOne K (.ref A) (.ref B) = some false := by
  unfold PySem.W.kitOne
  split
  · rename_i h
    have e : Value.ref A = Value.ref B := eq_of_beq h
    rw [← e, hss] at hs
    cases hs
  · exact kit_sub hm ht hs
theorem exm_t {K : PySem.W.Frag} {A B : Addr} {b : Bool} (hb : PySem.W.subIn K (.ref B) (.type "BaseException") = some true) (h : PySem.W.kitCls K (.ref A) (.ref B) = some b) : PySem.W.exmOne K (.ref A) (.ref B) = some b := by
  unfold PySem.W.exmOne
  rw [hb, if_pos (by decide)]
  exact h
theorem kit_ty {K : PySem.W.Frag} {A : Addr} {T : String} {b : Bool} (hT : PySem.W.kitMeta T = true) (h : PySem.W.subIn K (.ref A) (.type T) = some b) : PySem.W.kitOne K (.ref A) (.type T) = some b := by
  unfold PySem.W.kitOne
  split
  · rename_i e
    exact nomatch (eq_of_beq e : Value.ref A = Value.type T)
  · show (if PySem.W.kitMeta T = true then PySem.W.subIn K (.ref A) (.type T) else none) = some b
    rw [if_pos hT]
    exact h
end Sw
namespace Sw
open PySem L2
theorem all_mk {l : PySem.W.OpenLaw} {w : World} {K : PySem.W.Frag} {h : Heap} {mg : Str → Option Value} {fa : Addr} {C C0 CH CL CP CN CT f1 f2 f3 f4 f5 f6 f7 f8 f9 f10 f11 f12 f13 f14 f15 f16 f17 f18 f19 f20 f21 : Addr} {tk0 tk1 : Tok}
    {od1 an1 od2 an2 od3 an3 od4 an4 od5 an5 od6 an6 od7 an7 od8 an8 od9 an9 od10 an10 od11 an11 od12 an12 od13 an13 od14 an14 od15 an15 od16 an16 od17 an17 od18 an18 od19 an19 od20 an20 od21 an21 : Option Addr} {sl1 sl2 sl3 sl4 sl5 sl6 sl7 sl8 sl9 sl10 sl11 sl12 sl13 sl14 sl15 sl16 sl17 sl18 sl19 sl20 sl21 : Array (Option Value)} {oc1 kV1 dc1 pm1 cd1 ct1 oc2 kV2 dc2 pm2 cd2 ct2 oc3 kV3 dc3 pm3 cd3 ct3 oc4 kV4 dc4 pm4 cd4 ct4 oc5 kV5 dc5 pm5 cd5 ct5 oc6 kV6 dc6 pm6 cd6 ct6 oc7 kV7 dc7 pm7 cd7 ct7 oc8 kV8 dc8 pm8 cd8 ct8 oc9 kV9 dc9 pm9 cd9 ct9 oc10 kV10 dc10 pm10 cd10 ct10 oc11 kV11 dc11 pm11 cd11 ct11 oc12 kV12 dc12 pm12 cd12 ct12 oc13 kV13 dc13 pm13 cd13 ct13 oc14 kV14 dc14 pm14 cd14 ct14 oc15 kV15 dc15 pm15 cd15 ct15 oc16 kV16 dc16 pm16 cd16 ct16 oc17 kV17 dc17 pm17 cd17 ct17 oc18 kV18 dc18 pm18 cd18 ct18 oc19 kV19 dc19 pm19 cd19 ct19 oc20 kV20 dc20 pm20 cd20 ct20 oc21 kV21 dc21 pm21 cd21 ct21 : Value}
  (X : K.In h) (G : h.Ns mainGlobals mg) (hfa : mg "law" = some (.ref fa))
    (aC : PySem.W.nsIn K mainGlobals "House" = some (some (.ref C)))
    (aC0 : PySem.W.nsIn K mainGlobals "LampError" = some (some (.ref C0)))
    (aCH : PySem.W.nsIn K mainGlobals "BadHouse" = some (some (.ref CH)))
    (aCL : PySem.W.nsIn K mainGlobals "BadLamps" = some (some (.ref CL)))
    (aCP : PySem.W.nsIn K mainGlobals "BadPress" = some (some (.ref CP)))
    (aCN : PySem.W.nsIn K mainGlobals "NoSwitch" = some (some (.ref CN)))
    (aCT : PySem.W.nsIn K mainGlobals "BadText" = some (some (.ref CT)))
    (a1 : PySem.W.findIn K (.ref C) "__init__" = some (some (.ref f1))) (i1 : PySem.W.isFn K (.ref f1) = true)
    (l1 : K.lookup f1 = some ⟨oc1, od1, .func (PySem.W.fnOf "__init__" "House.__init__" (defArgs sInit) (defBody sInit) (defScope sInit) .none kV1 dc1 pm1 an1 cd1 ct1), sl1⟩) (c1 : PySem.W.codeIn K cd1 "House.__init__" = true) (k1 : PySem.W.keepIn K (.ref f1) = true)
    (a2 : PySem.W.findIn K (.ref C) "switches" = some (some (.ref f2))) (i2 : PySem.W.isFn K (.ref f2) = true)
    (l2 : K.lookup f2 = some ⟨oc2, od2, .func (PySem.W.fnOf "switches" "House.switches" (defArgs sSwitches) (defBody sSwitches) (defScope sSwitches) .none kV2 dc2 pm2 an2 cd2 ct2), sl2⟩) (c2 : PySem.W.codeIn K cd2 "House.switches" = true) (k2 : PySem.W.keepIn K (.ref f2) = true)
    (a3 : PySem.W.nsIn K mainGlobals "is_number" = some (some (.ref f3)))
    (l3 : K.lookup f3 = some ⟨oc3, od3, .func (PySem.W.fnOf "is_number" "is_number" (defArgs sIsNumber) (defBody sIsNumber) (defScope sIsNumber) .none kV3 dc3 pm3 an3 cd3 ct3), sl3⟩) (c3 : PySem.W.codeIn K cd3 "is_number" = true) (k3 : PySem.W.keepIn K (.ref f3) = true)
    (a4 : PySem.W.nsIn K mainGlobals "are_lamps" = some (some (.ref f4)))
    (l4 : K.lookup f4 = some ⟨oc4, od4, .func (PySem.W.fnOf "are_lamps" "are_lamps" (defArgs sAreLamps) (defBody sAreLamps) (defScope sAreLamps) .none kV4 dc4 pm4 an4 cd4 ct4), sl4⟩) (c4 : PySem.W.codeIn K cd4 "are_lamps" = true) (k4 : PySem.W.keepIn K (.ref f4) = true)
    (a5 : PySem.W.nsIn K mainGlobals "is_press" = some (some (.ref f5)))
    (l5 : K.lookup f5 = some ⟨oc5, od5, .func (PySem.W.fnOf "is_press" "is_press" (defArgs sIsPress) (defBody sIsPress) (defScope sIsPress) .none kV5 dc5 pm5 an5 cd5 ct5), sl5⟩) (c5 : PySem.W.codeIn K cd5 "is_press" = true) (k5 : PySem.W.keepIn K (.ref f5) = true)
    (a6 : PySem.W.nsIn K mainGlobals "turned_by" = some (some (.ref f6)))
    (l6 : K.lookup f6 = some ⟨oc6, od6, .func (PySem.W.fnOf "turned_by" "turned_by" (defArgs sTurnedBy) (defBody sTurnedBy) (defScope sTurnedBy) .none kV6 dc6 pm6 an6 cd6 ct6), sl6⟩) (c6 : PySem.W.codeIn K cd6 "turned_by" = true) (k6 : PySem.W.keepIn K (.ref f6) = true)
    (a7 : PySem.W.nsIn K mainGlobals "pressed" = some (some (.ref f7)))
    (l7 : K.lookup f7 = some ⟨oc7, od7, .func (PySem.W.fnOf "pressed" "pressed" (defArgs sPressed) (defBody sPressed) (defScope sPressed) .none kV7 dc7 pm7 an7 cd7 ct7), sl7⟩) (c7 : PySem.W.codeIn K cd7 "pressed" = true) (k7 : PySem.W.keepIn K (.ref f7) = true)
    (a8 : PySem.W.nsIn K mainGlobals "refuse_wrong_lamps" = some (some (.ref f8)))
    (l8 : K.lookup f8 = some ⟨oc8, od8, .func (PySem.W.fnOf "refuse_wrong_lamps" "refuse_wrong_lamps" (defArgs sRefuse) (defBody sRefuse) (defScope sRefuse) .none kV8 dc8 pm8 an8 cd8 ct8), sl8⟩) (c8 : PySem.W.codeIn K cd8 "refuse_wrong_lamps" = true) (k8 : PySem.W.keepIn K (.ref f8) = true)
    (a9 : PySem.W.nsIn K mainGlobals "presses_of" = some (some (.ref f9)))
    (l9 : K.lookup f9 = some ⟨oc9, od9, .func (PySem.W.fnOf "presses_of" "presses_of" (defArgs sPressesOf) (defBody sPressesOf) (defScope sPressesOf) .none kV9 dc9 pm9 an9 cd9 ct9), sl9⟩) (c9 : PySem.W.codeIn K cd9 "presses_of" = true) (k9 : PySem.W.keepIn K (.ref f9) = true)
    (a10 : PySem.W.nsIn K mainGlobals "all_presses" = some (some (.ref f10)))
    (l10 : K.lookup f10 = some ⟨oc10, od10, .func (PySem.W.fnOf "all_presses" "all_presses" (defArgs sAll) (defBody sAll) (defScope sAll) .none kV10 dc10 pm10 an10 cd10 ct10), sl10⟩) (c10 : PySem.W.codeIn K cd10 "all_presses" = true) (k10 : PySem.W.keepIn K (.ref f10) = true)
    (a11 : PySem.W.nsIn K mainGlobals "telling" = some (some (.ref f11)))
    (l11 : K.lookup f11 = some ⟨oc11, od11, .func (PySem.W.fnOf "telling" "telling" (defArgs sTelling) (defBody sTelling) (defScope sTelling) .none kV11 dc11 pm11 an11 cd11 ct11), sl11⟩) (c11 : PySem.W.codeIn K cd11 "telling" = true) (k11 : PySem.W.keepIn K (.ref f11) = true)
    (a12 : PySem.W.nsIn K mainGlobals "quiet" = some (some (.ref f12)))
    (l12 : K.lookup f12 = some ⟨oc12, od12, .func (PySem.W.fnOf "quiet" "quiet" (defArgs sQuiet) (defBody sQuiet) (defScope sQuiet) .none kV12 dc12 pm12 an12 cd12 ct12), sl12⟩) (c12 : PySem.W.codeIn K cd12 "quiet" = true) (k12 : PySem.W.keepIn K (.ref f12) = true)
    (a13 : PySem.W.nsIn K mainGlobals "enough" = some (some (.ref f13)))
    (l13 : K.lookup f13 = some ⟨oc13, od13, .func (PySem.W.fnOf "enough" "enough" (defArgs sEnough) (defBody sEnough) (defScope sEnough) .none kV13 dc13 pm13 an13 cd13 ct13), sl13⟩) (c13 : PySem.W.codeIn K cd13 "enough" = true) (k13 : PySem.W.keepIn K (.ref f13) = true)
    (a14 : PySem.W.nsIn K mainGlobals "rank" = some (some (.ref f14)))
    (l14 : K.lookup f14 = some ⟨oc14, od14, .func (PySem.W.fnOf "rank" "rank" (defArgs sRank) (defBody sRank) (defScope sRank) .none kV14 dc14 pm14 an14 cd14 ct14), sl14⟩) (c14 : PySem.W.codeIn K cd14 "rank" = true) (k14 : PySem.W.keepIn K (.ref f14) = true)
    (a15 : PySem.W.nsIn K mainGlobals "done_by" = some (some (.ref f15)))
    (l15 : K.lookup f15 = some ⟨oc15, od15, .func (PySem.W.fnOf "done_by" "done_by" (defArgs sDoneBy) (defBody sDoneBy) (defScope sDoneBy) .none kV15 dc15 pm15 an15 cd15 ct15), sl15⟩) (c15 : PySem.W.codeIn K cd15 "done_by" = true) (k15 : PySem.W.keepIn K (.ref f15) = true)
    (a16 : PySem.W.nsIn K mainGlobals "_law_cell_at" = some (some (.ref f16)))
    (l16 : K.lookup f16 = some ⟨oc16, od16, .func (PySem.W.fnOf "_law_cell_at" "_law_cell_at" (defArgs sCellAt) (defBody sCellAt) (defScope sCellAt) .none kV16 dc16 pm16 an16 cd16 ct16), sl16⟩) (c16 : PySem.W.codeIn K cd16 "_law_cell_at" = true) (k16 : PySem.W.keepIn K (.ref f16) = true)
    (a17 : PySem.W.nsIn K mainGlobals "_law_sort" = some (some (.ref f17)))
    (l17 : K.lookup f17 = some ⟨oc17, od17, .func (PySem.W.fnOf "_law_sort" "_law_sort" (defArgs sSort) (defBody sSort) (defScope sSort) .none kV17 dc17 pm17 an17 cd17 ct17), sl17⟩) (c17 : PySem.W.codeIn K cd17 "_law_sort" = true) (k17 : PySem.W.keepIn K (.ref f17) = true)
    (a18 : PySem.W.nsIn K mainGlobals "_law_ask" = some (some (.ref f18)))
    (l18 : K.lookup f18 = some ⟨oc18, od18, .func (PySem.W.fnOf "_law_ask" "_law_ask" (defArgs sAsk) (defBody sAsk) (defScope sAsk) .none kV18 dc18 pm18 an18 cd18 ct18), sl18⟩) (c18 : PySem.W.codeIn K cd18 "_law_ask" = true) (k18 : PySem.W.keepIn K (.ref f18) = true)
    (a19 : PySem.W.nsIn K mainGlobals "_law_asked" = some (some (.ref f19)))
    (l19 : K.lookup f19 = some ⟨oc19, od19, .func (PySem.W.fnOf "_law_asked" "_law_asked" (defArgs sAsked) (defBody sAsked) (defScope sAsked) .none kV19 dc19 pm19 an19 cd19 ct19), sl19⟩) (c19 : PySem.W.codeIn K cd19 "_law_asked" = true) (k19 : PySem.W.keepIn K (.ref f19) = true)
    (a20 : PySem.W.nsIn K mainGlobals "_law_all" = some (some (.ref f20)))
    (l20 : K.lookup f20 = some ⟨oc20, od20, .func (PySem.W.fnOf "_law_all" "_law_all" (defArgs sLAll) (defBody sLAll) (defScope sLAll) .none kV20 dc20 pm20 an20 cd20 ct20), sl20⟩) (c20 : PySem.W.codeIn K cd20 "_law_all" = true) (k20 : PySem.W.keepIn K (.ref f20) = true)
    (a21 : PySem.W.nsIn K mainGlobals "law" = some (some (.ref f21)))
    (l21 : K.lookup f21 = some ⟨oc21, od21, .func (PySem.W.fnOf "law" "law" (defArgs sLaw) (defBody sLaw) (defScope sLaw) .none kV21 dc21 pm21 an21 cd21 ct21), sl21⟩) (c21 : PySem.W.codeIn K cd21 "law" = true) (k21 : PySem.W.keepIn K (.ref f21) = true)
    (pgC : PySem.W.plainGet K C Str.empty = true) (hdC : PySem.W.hasDictIn K C = true) (poC : PySem.W.plainOver K C = true) (saC : PySem.W.findIn K (.ref C) "__setattr__" = some (some (.builtin "object.__setattr__"))) (mkC : PySem.W.makesIn K C = true) (kcC : PySem.W.keepIn K (.ref C) = true)
    (na0 : PySem.W.findIn K (.ref C) "lamps" = some none)
    (na1 : PySem.W.findIn K (.ref C) "wiring" = some none)
    (co0 : PySem.W.nsIn K mainGlobals "MOST_LAMPS" = some (some (.int 10 tk0)))
    (co1 : PySem.W.nsIn K mainGlobals "MOST_SWITCHES" = some (some (.int 8 tk1)))
    (z_len : PySem.W.nsIn K mainGlobals "len" = some none)
    (z_range : PySem.W.nsIn K mainGlobals "range" = some none)
    (z_isinstance : PySem.W.nsIn K mainGlobals "isinstance" = some none)
    (z_int : PySem.W.nsIn K mainGlobals "int" = some none)
    (z_bool : PySem.W.nsIn K mainGlobals "bool" = some none)
    (z_list : PySem.W.nsIn K mainGlobals "list" = some none)
    (z_tuple : PySem.W.nsIn K mainGlobals "tuple" = some none)
    (z_all : PySem.W.nsIn K mainGlobals "all" = some none)
    (z_sorted : PySem.W.nsIn K mainGlobals "sorted" = some none)
    (z_enumerate : PySem.W.nsIn K mainGlobals "enumerate" = some none)
    (z_ValueError : PySem.W.nsIn K mainGlobals "ValueError" = some none)
    (exCH : PySem.W.excIn K CH [.type "ValueError", .type "Exception", .type "BaseException", .type "object"] "ValueError.__new__" = true)
    (gaCH : PySem.W.findIn K (.ref CH) "__getattribute__" = some (some (.builtin "BaseException.__getattribute__")))
    (grCH : PySem.W.findIn K (.ref CH) "__getattr__" = some none)
    (clCH : PySem.W.findIn K (.ref CH) "__class__" = some (some (.builtin "object.__class__")))
    (mbCH : PySem.W.mroIn K CH (.type "BaseException") = some true)
    (svCH : PySem.W.subIn K (.ref CH) (.type "ValueError") = some true)
    (exCL : PySem.W.excIn K CL [.type "ValueError", .type "Exception", .type "BaseException", .type "object"] "ValueError.__new__" = true)
    (gaCL : PySem.W.findIn K (.ref CL) "__getattribute__" = some (some (.builtin "BaseException.__getattribute__")))
    (grCL : PySem.W.findIn K (.ref CL) "__getattr__" = some none)
    (clCL : PySem.W.findIn K (.ref CL) "__class__" = some (some (.builtin "object.__class__")))
    (mbCL : PySem.W.mroIn K CL (.type "BaseException") = some true)
    (svCL : PySem.W.subIn K (.ref CL) (.type "ValueError") = some true)
    (exCP : PySem.W.excIn K CP [.type "ValueError", .type "Exception", .type "BaseException", .type "object"] "ValueError.__new__" = true)
    (gaCP : PySem.W.findIn K (.ref CP) "__getattribute__" = some (some (.builtin "BaseException.__getattribute__")))
    (grCP : PySem.W.findIn K (.ref CP) "__getattr__" = some none)
    (clCP : PySem.W.findIn K (.ref CP) "__class__" = some (some (.builtin "object.__class__")))
    (mbCP : PySem.W.mroIn K CP (.type "BaseException") = some true)
    (svCP : PySem.W.subIn K (.ref CP) (.type "ValueError") = some true)
    (exCN : PySem.W.excIn K CN [.type "ValueError", .type "Exception", .type "BaseException", .type "object"] "ValueError.__new__" = true)
    (gaCN : PySem.W.findIn K (.ref CN) "__getattribute__" = some (some (.builtin "BaseException.__getattribute__")))
    (grCN : PySem.W.findIn K (.ref CN) "__getattr__" = some none)
    (clCN : PySem.W.findIn K (.ref CN) "__class__" = some (some (.builtin "object.__class__")))
    (mbCN : PySem.W.mroIn K CN (.type "BaseException") = some true)
    (svCN : PySem.W.subIn K (.ref CN) (.type "ValueError") = some true)
    (cg : PySem.W.specialIn K (.builtin "object.__class__") "__get__" = some (some (.builtin "getset_descriptor.__get__")))
    (ct : PySem.W.takesIn K (.builtin "object.__class__") = some true)
    (mrC0 : PySem.W.mroIn K C0 (.type "object") = some true)
    (tyC0 : PySem.W.typeIn K (.ref C0) = some (.type "type"))
    (mrCH : PySem.W.mroIn K CH (.type "object") = some true)
    (tyCH : PySem.W.typeIn K (.ref CH) = some (.type "type"))
    (mrCL : PySem.W.mroIn K CL (.type "object") = some true)
    (tyCL : PySem.W.typeIn K (.ref CL) = some (.type "type"))
    (mrCP : PySem.W.mroIn K CP (.type "object") = some true)
    (tyCP : PySem.W.typeIn K (.ref CP) = some (.type "type"))
    (mrCN : PySem.W.mroIn K CN (.type "object") = some true)
    (tyCN : PySem.W.typeIn K (.ref CN) = some (.type "type"))
    (mrCT : PySem.W.mroIn K CT (.type "object") = some true)
    (tyCT : PySem.W.typeIn K (.ref CT) = some (.type "type"))
    (suCHC0 : PySem.W.subIn K (.ref CH) (.ref C0) = some true)
    (suCHCH : PySem.W.subIn K (.ref CH) (.ref CH) = some true)
    (suCHCL : PySem.W.subIn K (.ref CH) (.ref CL) = some false)
    (suCHCP : PySem.W.subIn K (.ref CH) (.ref CP) = some false)
    (suCHCN : PySem.W.subIn K (.ref CH) (.ref CN) = some false)
    (suCHCT : PySem.W.subIn K (.ref CH) (.ref CT) = some false)
    (suCLC0 : PySem.W.subIn K (.ref CL) (.ref C0) = some true)
    (suCLCH : PySem.W.subIn K (.ref CL) (.ref CH) = some false)
    (suCLCL : PySem.W.subIn K (.ref CL) (.ref CL) = some true)
    (suCLCP : PySem.W.subIn K (.ref CL) (.ref CP) = some false)
    (suCLCN : PySem.W.subIn K (.ref CL) (.ref CN) = some false)
    (suCLCT : PySem.W.subIn K (.ref CL) (.ref CT) = some false)
    (suCPC0 : PySem.W.subIn K (.ref CP) (.ref C0) = some true)
    (suCPCH : PySem.W.subIn K (.ref CP) (.ref CH) = some false)
    (suCPCL : PySem.W.subIn K (.ref CP) (.ref CL) = some false)
    (suCPCP : PySem.W.subIn K (.ref CP) (.ref CP) = some true)
    (suCPCN : PySem.W.subIn K (.ref CP) (.ref CN) = some false)
    (suCPCT : PySem.W.subIn K (.ref CP) (.ref CT) = some false)
    (suCNC0 : PySem.W.subIn K (.ref CN) (.ref C0) = some true)
    (suCNCH : PySem.W.subIn K (.ref CN) (.ref CH) = some false)
    (suCNCL : PySem.W.subIn K (.ref CN) (.ref CL) = some false)
    (suCNCP : PySem.W.subIn K (.ref CN) (.ref CP) = some false)
    (suCNCN : PySem.W.subIn K (.ref CN) (.ref CN) = some true)
    (suCNCT : PySem.W.subIn K (.ref CN) (.ref CT) = some false)
    (sb0 : PySem.W.subIn K (.ref C0) (.type "BaseException") = some true) :
    ∃ fd : FuncData, (∀ (s : Shared) (v : Value), BindsTo s fd ⟨[v], []⟩ [("_law_script", v)]) ∧ ∀ base : Heap, K.In base → base.Ns mainGlobals mg → FnOk l.prog w K mg base CX0 9 fa fd ["_law_script"] (spLaw K) := by
  have e := hfa.symm.trans (PySem.W.mg_of X G a21)
  cases e
  have F1 := fun_mk (st := sInit) l1 c1 k1
  have b1 := F1.binds (ps := ["self", "lamps", "switches"]) fun _ _ _ _ _ _ us hl => match us, hl with | [_, _, _], _ => rfl
  have F2 := fun_mk (st := sSwitches) l2 c2 k2
  have b2 := F2.binds (ps := ["self"]) fun _ _ _ _ _ _ us hl => match us, hl with | [_], _ => rfl
  have F3 := fun_mk (st := sIsNumber) l3 c3 k3
  have b3 := F3.binds (ps := ["value"]) fun _ _ _ _ _ _ us hl => match us, hl with | [_], _ => rfl
  have F4 := fun_mk (st := sAreLamps) l4 c4 k4
  have b4 := F4.binds (ps := ["count", "value"]) fun _ _ _ _ _ _ us hl => match us, hl with | [_, _], _ => rfl
  have F5 := fun_mk (st := sIsPress) l5 c5 k5
  have b5 := F5.binds (ps := ["house", "value"]) fun _ _ _ _ _ _ us hl => match us, hl with | [_, _], _ => rfl
  have F6 := fun_mk (st := sTurnedBy) l6 c6 k6
  have b6 := F6.binds (ps := ["house", "press"]) fun _ _ _ _ _ _ us hl => match us, hl with | [_, _], _ => rfl
  have F7 := fun_mk (st := sPressed) l7 c7 k7
  have b7 := F7.binds (ps := ["house", "state", "press"]) fun _ _ _ _ _ _ us hl => match us, hl with | [_, _, _], _ => rfl
  have F8 := fun_mk (st := sRefuse) l8 c8 k8
  have b8 := F8.binds (ps := ["house", "state", "wish", "asked"]) fun _ _ _ _ _ _ us hl => match us, hl with | [_, _, _, _], _ => rfl
  have F9 := fun_mk (st := sPressesOf) l9 c9 k9
  have b9 := F9.binds (ps := ["house"]) fun _ _ _ _ _ _ us hl => match us, hl with | [_], _ => rfl
  have F10 := fun_mk (st := sAll) l10 c10 k10
  have b10 := F10.binds (ps := ["house", "state", "wish", "asked"]) fun _ _ _ _ _ _ us hl => match us, hl with | [_, _, _, _], _ => rfl
  have F11 := fun_mk (st := sTelling) l11 c11 k11
  have b11 := F11.binds (ps := ["house", "state", "wish", "asked"]) fun _ _ _ _ _ _ us hl => match us, hl with | [_, _, _, _], _ => rfl
  have F12 := fun_mk (st := sQuiet) l12 c12 k12
  have b12 := F12.binds (ps := ["house"]) fun _ _ _ _ _ _ us hl => match us, hl with | [_], _ => rfl
  have F13 := fun_mk (st := sEnough) l13 c13 k13
  have b13 := F13.binds (ps := ["house"]) fun _ _ _ _ _ _ us hl => match us, hl with | [_], _ => rfl
  have F14 := fun_mk (st := sRank) l14 c14 k14
  have b14 := F14.binds (ps := ["house"]) fun _ _ _ _ _ _ us hl => match us, hl with | [_], _ => rfl
  have F15 := fun_mk (st := sDoneBy) l15 c15 k15
  have b15 := F15.binds (ps := ["house", "at"]) fun _ _ _ _ _ _ us hl => match us, hl with | [_, _], _ => rfl
  have F16 := fun_mk (st := sCellAt) l16 c16 k16
  have b16 := F16.binds (ps := ["_law_script", "_law_k"]) fun _ _ _ _ _ _ us hl => match us, hl with | [_, _], _ => rfl
  have F17 := fun_mk (st := sSort) l17 c17 k17
  have b17 := F17.binds (ps := ["_law_error"]) fun _ _ _ _ _ _ us hl => match us, hl with | [_], _ => rfl
  have F18 := fun_mk (st := sAsk) l18 c18 k18
  have b18 := F18.binds (ps := ["_law_door", "_law_thing"]) fun _ _ _ _ _ _ us hl => match us, hl with | [_, _], _ => rfl
  have F19 := fun_mk (st := sAsked) l19 c19 k19
  have b19 := F19.binds (ps := ["_law_door", "_law_thing"]) fun _ _ _ _ _ _ us hl => match us, hl with | [_, _], _ => rfl
  have F20 := fun_mk (st := sLAll) l20 c20 k20
  have b20 := F20.binds (ps := ["_law_doors", "_law_things", "_law_due"]) fun _ _ _ _ _ _ us hl => match us, hl with | [_, _, _], _ => rfl
  have F21 := fun_mk (st := sLaw) l21 c21 k21
  have b21 := F21.binds (ps := ["_law_script"]) fun _ _ _ _ _ _ us hl => match us, hl with | [_], _ => rfl
  refine ⟨PySem.W.fnOf "law" "law" (defArgs sLaw) (defBody sLaw) (defScope sLaw) .none kV21 dc21 pm21 an21 cd21 ct21, fun s v => .of_eq rfl, fun base _ _ => ?_⟩
  have T : Txt K mg C := ⟨⟨pgC, hdC, poC, saC⟩, na0, na1, PySem.W.mg_of X G aC, ⟨_, PySem.W.mg_of X G co0⟩, ⟨_, PySem.W.mg_of X G co1⟩, PySem.W.mg_none_of X G z_len, PySem.W.mg_none_of X G z_range, PySem.W.mg_none_of X G z_isinstance, PySem.W.mg_none_of X G z_int, PySem.W.mg_none_of X G z_bool, PySem.W.mg_none_of X G z_list, PySem.W.mg_none_of X G z_tuple, PySem.W.mg_none_of X G z_all⟩
  have FN : FnAt l.prog w K mg base "is_number" 1 ["value"] (spIsNumber K) := ⟨_, _, PySem.W.mg_of X G a3, k3, b3, ok_isNumber F3 T⟩
  have FAL : FnAt l.prog w K mg base "are_lamps" 2 ["count", "value"] (spAreLamps K) := ⟨_, _, PySem.W.mg_of X G a4, k4, b4, ok_areLamps F4 FN⟩
  have MH : MkAt l.prog w K mg base "House" C 3 ["self", "lamps", "switches"] (spInit K C) := ⟨_, _, PySem.W.mg_of X G aC, ⟨mkC, a1, i1, kcC⟩, b1, ok_init F1 T FN FAL⟩
  have FS : FSw l.prog w K mg base C := ⟨_, _, ⟨a2, i2, k2⟩, b2, ok_switches F2 T⟩
  have FIP : FnAt l.prog w K mg base "is_press" 2 ["house", "value"] (spIsPress C) := ⟨_, _, PySem.W.mg_of X G a5, k5, b5, ok_isPress F5 T FN FS⟩
  have FTB : FnAt l.prog w K mg base "turned_by" 2 ["house", "press"] (spTurnedBy C) := ⟨_, _, PySem.W.mg_of X G a6, k6, b6, ok_turnedBy F6 T FS⟩
  have Z9 : Tx9 K mg C0 CH CL CP CN CT := ⟨PySem.W.mg_of X G aC0, PySem.W.mg_of X G aCH, PySem.W.mg_of X G aCL, PySem.W.mg_of X G aCP, PySem.W.mg_of X G aCN, PySem.W.mg_of X G aCT, ⟨⟨exCH, gaCH, grCH, clCH, cg, ct, mrCH, mbCH⟩, exm_t sb0 (kit_sub mrC0 tyC0 suCHC0), (kit_t mrCH tyCH suCHCH), (kit_f mrCL tyCL suCHCL suCHCH), (kit_f mrCP tyCP suCHCP suCHCH), (kit_f mrCN tyCN suCHCN suCHCH), (kit_f mrCT tyCT suCHCT suCHCH), kit_ty rfl svCH⟩, ⟨⟨exCL, gaCL, grCL, clCL, cg, ct, mrCL, mbCL⟩, exm_t sb0 (kit_sub mrC0 tyC0 suCLC0), (kit_f mrCH tyCH suCLCH suCLCL), (kit_t mrCL tyCL suCLCL), (kit_f mrCP tyCP suCLCP suCLCL), (kit_f mrCN tyCN suCLCN suCLCL), (kit_f mrCT tyCT suCLCT suCLCL), kit_ty rfl svCL⟩, ⟨⟨exCP, gaCP, grCP, clCP, cg, ct, mrCP, mbCP⟩, exm_t sb0 (kit_sub mrC0 tyC0 suCPC0), (kit_f mrCH tyCH suCPCH suCPCP), (kit_f mrCL tyCL suCPCL suCPCP), (kit_t mrCP tyCP suCPCP), (kit_f mrCN tyCN suCPCN suCPCP), (kit_f mrCT tyCT suCPCT suCPCP), kit_ty rfl svCP⟩, ⟨⟨exCN, gaCN, grCN, clCN, cg, ct, mrCN, mbCN⟩, exm_t sb0 (kit_sub mrC0 tyC0 suCNC0), (kit_f mrCH tyCH suCNCH suCNCN), (kit_f mrCL tyCL suCNCL suCNCN), (kit_f mrCP tyCP suCNCP suCNCN), (kit_t mrCN tyCN suCNCN), (kit_f mrCT tyCT suCNCT suCNCN), kit_ty rfl svCN⟩, PySem.W.mg_none_of X G z_ValueError⟩
  have MX : MkAtE l.prog w K mg base "House" C 3 ["self", "lamps", "switches"] (spInitX K CH) := ⟨_, _, PySem.W.mg_of X G aC, ⟨mkC, a1, i1, kcC⟩, b1, ok_initX F1 T Z9 FN FAL⟩
  have FIG : FnAt l.prog w K mg base "is_press" 2 ["house", "value"] (spIsPressG K C) := ⟨_, _, PySem.W.mg_of X G a5, k5, b5, ok_isPressG F5 T FN FS⟩
  have FRX : FnAtE l.prog w K mg base "refuse_wrong_lamps" 3 ["house", "state", "wish", "asked"] (spRefuseX K C CL) := ⟨_, _, PySem.W.mg_of X G a8, k8, b8, ok_refuseX F8 T Z9 FAL⟩
  have FAX : FnAtE l.prog w K mg base "all_presses" 4 ["house", "state", "wish", "asked"] (spRefuseX K C CL) := ⟨_, _, PySem.W.mg_of X G a10, k10, b10, ok_allX F10 FRX⟩
  have FTX : FnAtE l.prog w K mg base "telling" 5 ["house", "state", "wish", "asked"] (spRefuseX K C CL) := ⟨_, _, PySem.W.mg_of X G a11, k11, b11, ok_tellingX F11 FAX⟩
  have FPX : FnAtE l.prog w K mg base "pressed" 3 ["house", "state", "press"] (spPressedX K C CL CP) := ⟨_, _, PySem.W.mg_of X G a7, k7, b7, ok_pressedX F7 T Z9 FAL FIG⟩
  have FDX : FnAtE l.prog w K mg base "done_by" 2 ["house", "at"] (spDoneX K C CN) := ⟨_, _, PySem.W.mg_of X G a15, k15, b15, ok_doneX F15 T Z9 FN FS⟩
  have FK : FnAtE l.prog w K mg base "_law_ask" 6 ["_law_door", "_law_thing"] (spAskX K CH CL CP CN) := ⟨_, _, PySem.W.mg_of X G a18, k18, b18, ok_ask F18 MH MX FTX FAX FPX FDX⟩
  have FSo : FnAtH l.prog w K mg base "_law_sort" 1 ["_law_error"] (spSort K C0 CH CL CP CN CT) := ⟨_, _, PySem.W.mg_of X G a17, k17, b17, ok_sort F17 T Z9⟩
  have FAs : FnAt l.prog w K mg base "_law_asked" 7 ["_law_door", "_law_thing"] (spAsked K) := ⟨_, _, PySem.W.mg_of X G a19, k19, b19, ok_asked F19 Z9 FK FSo⟩
  have FLA : FnAt l.prog w K mg base "_law_all" 8 ["_law_doors", "_law_things", "_law_due"] (spLAll K) := ⟨_, _, PySem.W.mg_of X G a20, k20, b20, ok_lall F20 T FAs⟩
  have FPr : FnAt l.prog w K mg base "pressed" 3 ["house", "state", "press"] (spPressed C) := ⟨_, _, PySem.W.mg_of X G a7, k7, b7, ok_pressed F7 T FAL FIP FTB⟩
  have FPO : FnAt l.prog w K mg base "presses_of" 2 ["house"] (spNone C) := ⟨_, _, PySem.W.mg_of X G a9, k9, b9, ok_pressesOf0 F9 T FS (PySem.W.mg_none_of X G z_sorted)⟩
  have FQ : FnAt l.prog w K mg base "quiet" 3 ["house"] (spNone C) := ⟨_, _, PySem.W.mg_of X G a12, k12, b12, ok_quiet0 F12 FPO FTB⟩
  have FE : FnAt l.prog w K mg base "enough" 2 ["house"] (spEnough C) := ⟨_, _, PySem.W.mg_of X G a13, k13, b13, ok_enough F13 T FS (PySem.W.mg_none_of X G z_enumerate)⟩
  have FRk : FnAt l.prog w K mg base "rank" 3 ["house"] (spRank C) := ⟨_, _, PySem.W.mg_of X G a14, k14, b14, ok_rank F14 T FE⟩
  have FC : FCell l.prog w K mg base := ⟨_, _, PySem.W.mg_of X G a16, k16, b16, ok_cellAt F16 T.len⟩
  exact ok_law F21 T MH FC FLA FPr FRk FE FQ
theorem walk {l : PySem.W.OpenLaw} {q : Program} {loose : List Str} {XP : (Str → Option Value) → Heap → Prop} {YP : World → Heap → Prop} {d : DefRec} {K : Params → PySem.W.Frag} (hn : l.most = some 63) (hdf : d.params.defaults = [])
    (hY : ∀ (w : World) (h : Heap), YP w h → (K w.params).In h)
    (F : ∀ (w : World) (mg : Str → Option Value) (fa : Addr) (h : Heap), (K w.params).In h → h.Ns mainGlobals mg → mg d.name = some (.ref fa) →
      ∃ fd : FuncData, (∀ (s : Shared) (u : Value), BindsTo s fd ⟨[u], []⟩ [("_law_script", u)]) ∧ ∀ base : Heap, (K w.params).In base → base.Ns mainGlobals mg → FnOk l.prog w (K w.params) mg base CX0 9 fa fd ["_law_script"] (spLaw (K w.params))) :
    PySem.W.WalkO q loose XP YP l.row.toRowW d [] (fun f vs => PySem.call f vs) :=
  L2.walk_of (n := 63) (k := 9) (x := "_law_script") (CX := fun _ => CX0) (sp := fun w => spLaw (K w.params)) hn (by decide) hdf ⟨rfl, by decide, by decide⟩ hY F (fun _ _ a ns hl _ hS => ⟨a, ns, rfl, hS, hl, fun _ => rfl⟩) fun _ _ _ _ _ z => z
end Sw
open PySem PySem.W PyProof.Rows
set_option maxRecDepth 100000 in
set_option maxHeartbeats 0 in
theorem PySem.Challenge.cw_switchlamps_k09_refused_holds : PySem.Challenge.rw_switchlamps_k09_refused.Holds := by
  w_on; o_law; k_head; (case hw => w_witness2)
  k_fill
  refine Sw.walk (l := PySem.Challenge.rw_switchlamps_k09_refused) rfl rfl (fun w h Y => PySem.W.kIn_of Y) ?F
  case F =>
    intro w mg fa h KX G hmg
    refine' Sw.all_mk KX G hmg ?aC ?aC0 ?aCH ?aCL ?aCP ?aCN ?aCT ?a1 ?i1 ?l1 ?c1 ?k1 ?a2 ?i2 ?l2 ?c2 ?k2 ?a3 ?l3 ?c3 ?k3 ?a4 ?l4 ?c4 ?k4 ?a5 ?l5 ?c5 ?k5 ?a6 ?l6 ?c6 ?k6 ?a7 ?l7 ?c7 ?k7 ?a8 ?l8 ?c8 ?k8 ?a9 ?l9 ?c9 ?k9 ?a10 ?l10 ?c10 ?k10 ?a11 ?l11 ?c11 ?k11 ?a12 ?l12 ?c12 ?k12 ?a13 ?l13 ?c13 ?k13 ?a14 ?l14 ?c14 ?k14 ?a15 ?l15 ?c15 ?k15 ?a16 ?l16 ?c16 ?k16 ?a17 ?l17 ?c17 ?k17 ?a18 ?l18 ?c18 ?k18 ?a19 ?l19 ?c19 ?k19 ?a20 ?l20 ?c20 ?k20 ?a21 ?l21 ?c21 ?k21 ?pgC ?hdC ?poC ?saC ?mkC ?kcC ?na0 ?na1 ?co0 ?co1 ?z_len ?z_range ?z_isinstance ?z_int ?z_bool ?z_list ?z_tuple ?z_all ?z_sorted ?z_enumerate ?z_ValueError ?exCH ?gaCH ?grCH ?clCH ?mbCH ?svCH ?exCL ?gaCL ?grCL ?clCL ?mbCL ?svCL ?exCP ?gaCP ?grCP ?clCP ?mbCP ?svCP ?exCN ?gaCN ?grCN ?clCN ?mbCN ?svCN ?cg ?ct ?mrC0 ?tyC0 ?mrCH ?tyCH ?mrCL ?tyCL ?mrCP ?tyCP ?mrCN ?tyCN ?mrCT ?tyCT ?suCHC0 ?suCHCH ?suCHCL ?suCHCP ?suCHCN ?suCHCT ?suCLC0 ?suCLCH ?suCLCL ?suCLCP ?suCLCN ?suCLCT ?suCPC0 ?suCPCH ?suCPCL ?suCPCP ?suCPCN ?suCPCT ?suCNC0 ?suCNCH ?suCNCL ?suCNCP ?suCNCN ?suCNCT ?sb0
    (case aC => k_is)
    (case aC0 => k_is)
    (case aCH => k_is)
    (case aCL => k_is)
    (case aCP => k_is)
    (case aCN => k_is)
    (case aCT => k_is)
    (case a1 => k_is)
    (case i1 => k_is)
    (case l1 => k_is)
    (case c1 => k_is)
    (case k1 => k_is)
    (case a2 => k_is)
    (case i2 => k_is)
    (case l2 => k_is)
    (case c2 => k_is)
    (case k2 => k_is)
    (case a3 => k_is)
    (case l3 => k_is)
    (case c3 => k_is)
    (case k3 => k_is)
    (case a4 => k_is)
    (case l4 => k_is)
    (case c4 => k_is)
    (case k4 => k_is)
    (case a5 => k_is)
    (case l5 => k_is)
    (case c5 => k_is)
    (case k5 => k_is)
    (case a6 => k_is)
    (case l6 => k_is)
    (case c6 => k_is)
    (case k6 => k_is)
    (case a7 => k_is)
    (case l7 => k_is)
    (case c7 => k_is)
    (case k7 => k_is)
    (case a8 => k_is)
    (case l8 => k_is)
    (case c8 => k_is)
    (case k8 => k_is)
    (case a9 => k_is)
    (case l9 => k_is)
    (case c9 => k_is)
    (case k9 => k_is)
    (case a10 => k_is)
    (case l10 => k_is)
    (case c10 => k_is)
    (case k10 => k_is)
    (case a11 => k_is)
    (case l11 => k_is)
    (case c11 => k_is)
    (case k11 => k_is)
    (case a12 => k_is)
    (case l12 => k_is)
    (case c12 => k_is)
    (case k12 => k_is)
    (case a13 => k_is)
    (case l13 => k_is)
    (case c13 => k_is)
    (case k13 => k_is)
    (case a14 => k_is)
    (case l14 => k_is)
    (case c14 => k_is)
    (case k14 => k_is)
    (case a15 => k_is)
    (case l15 => k_is)
    (case c15 => k_is)
    (case k15 => k_is)
    (case a16 => k_is)
    (case l16 => k_is)
    (case c16 => k_is)
    (case k16 => k_is)
    (case a17 => k_is)
    (case l17 => k_is)
    (case c17 => k_is)
    (case k17 => k_is)
    (case a18 => k_is)
    (case l18 => k_is)
    (case c18 => k_is)
    (case k18 => k_is)
    (case a19 => k_is)
    (case l19 => k_is)
    (case c19 => k_is)
    (case k19 => k_is)
    (case a20 => k_is)
    (case l20 => k_is)
    (case c20 => k_is)
    (case k20 => k_is)
    (case a21 => k_is)
    (case l21 => k_is)
    (case c21 => k_is)
    (case k21 => k_is)
    (case pgC => k_is)
    (case hdC => k_is)
    (case poC => k_is)
    (case saC => k_is)
    (case mkC => k_is)
    (case kcC => k_is)
    (case na0 => k_is)
    (case na1 => k_is)
    (case co0 => k_is)
    (case co1 => k_is)
    (case z_len => k_is)
    (case z_range => k_is)
    (case z_isinstance => k_is)
    (case z_int => k_is)
    (case z_bool => k_is)
    (case z_list => k_is)
    (case z_tuple => k_is)
    (case z_all => k_is)
    (case z_sorted => k_is)
    (case z_enumerate => k_is)
    (case z_ValueError => k_is)
    (case exCH => k_exc)
    (case gaCH => k_is)
    (case grCH => k_is)
    (case clCH => k_is)
    (case mbCH => k_is)
    (case svCH => k_is)
    (case exCL => k_exc)
    (case gaCL => k_is)
    (case grCL => k_is)
    (case clCL => k_is)
    (case mbCL => k_is)
    (case svCL => k_is)
    (case exCP => k_exc)
    (case gaCP => k_is)
    (case grCP => k_is)
    (case clCP => k_is)
    (case mbCP => k_is)
    (case svCP => k_is)
    (case exCN => k_exc)
    (case gaCN => k_is)
    (case grCN => k_is)
    (case clCN => k_is)
    (case mbCN => k_is)
    (case svCN => k_is)
    (case cg => k_is)
    (case ct => k_is)
    (case mrC0 => k_is)
    (case tyC0 => k_is)
    (case mrCH => k_is)
    (case tyCH => k_is)
    (case mrCL => k_is)
    (case tyCL => k_is)
    (case mrCP => k_is)
    (case tyCP => k_is)
    (case mrCN => k_is)
    (case tyCN => k_is)
    (case mrCT => k_is)
    (case tyCT => k_is)
    (case suCHC0 => k_is)
    (case suCHCH => k_is)
    (case suCHCL => k_is)
    (case suCHCP => k_is)
    (case suCHCN => k_is)
    (case suCHCT => k_is)
    (case suCLC0 => k_is)
    (case suCLCH => k_is)
    (case suCLCL => k_is)
    (case suCLCP => k_is)
    (case suCLCN => k_is)
    (case suCLCT => k_is)
    (case suCPC0 => k_is)
    (case suCPCH => k_is)
    (case suCPCL => k_is)
    (case suCPCP => k_is)
    (case suCPCN => k_is)
    (case suCPCT => k_is)
    (case suCNC0 => k_is)
    (case suCNCH => k_is)
    (case suCNCL => k_is)
    (case suCNCP => k_is)
    (case suCNCN => k_is)
    (case suCNCT => k_is)
    (case sb0 => k_is)
