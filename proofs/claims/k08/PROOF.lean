import PyProof.Rows.All
import Wide.All
import OpenK.AllK
import Wide.FinOn
import Lean
import PyProof.EqAt
import PyProof.EqKinds
import PyProof.TupleCall
import KE.KMinBuiltin
import KE.KTryMore
import PyProof.ExcAttrAll.ValueError
import PySem.Challenge.RW_switchlamps_k08_texts_misread
set_option Elab.async false
set_option linter.all false
set_option maxRecDepth 100000
namespace L2
open PySem PySem.Spec PyProof.Rows
abbrev Key := Sum Int Str
def keyIs : Key → Value → Bool
  | .inl k, v => Value.isInt k v
  | .inr x, v => Value.isStrOf x v
def keyH (w : World) : Key → Int
  | .inl k => hashInt k
  | .inr x => hashStr w x
theorem keyIs_shape : ∀ {k : Key} {v : Value}, keyIs k v = true → (∃ i t, k = Sum.inl i ∧ v = Value.int i t) ∨ (∃ x t, k = Sum.inr x ∧ v = Value.str x t)
  | .inl i, v, h => by
    obtain ⟨t, e⟩ := Value.isInt_shape (k := i) (v := v) h
    exact .inl ⟨i, t, rfl, e⟩
  | .inr x, v, h => by
    obtain ⟨t, e⟩ := Value.isStrOf_shape (x := x) (v := v) h
    exact .inr ⟨x, t, rfl, e⟩
theorem key_ll (a b : Int) : decide ((Sum.inl a : Key) = Sum.inl b) = (a == b) := by
  by_cases e : a = b
  · subst e; simp
  · have h : ¬ (Sum.inl a : Key) = Sum.inl b := fun q => e (Sum.inl.inj q)
    rw [decide_eq_false h]
    exact (beq_eq_false_iff_ne.mpr e).symm
theorem key_rr (a b : Str) : decide ((Sum.inr a : Key) = Sum.inr b) = decide (a = b) := by
  by_cases e : a = b
  · subst e; simp
  · have h : ¬ (Sum.inr a : Key) = Sum.inr b := fun q => e (Sum.inr.inj q)
    rw [decide_eq_false h, decide_eq_false e]
theorem key_lr (a : Int) (b : Str) : decide ((Sum.inl a : Key) = Sum.inr b) = false := decide_eq_false (fun q => nomatch q)
theorem key_rl (a : Str) (b : Int) : decide ((Sum.inr a : Key) = Sum.inl b) = false := decide_eq_false (fun q => nomatch q)
def mixKind (prog : Program) (w : World) : PySem.KeyKind prog w Key where
  is := keyIs
  hash := keyH w
  inj := fun v a b ha hb => by
    rcases keyIs_shape ha with ⟨i, t, rfl, rfl⟩ | ⟨x, t, rfl, rfl⟩
    · rcases keyIs_shape hb with ⟨j, u, rfl, e⟩ | ⟨y, u, rfl, e⟩
      · injection e with e1 _; rw [e1]
      · exact nomatch e
    · rcases keyIs_shape hb with ⟨j, u, rfl, e⟩ | ⟨y, u, rfl, e⟩
      · exact nomatch e
      · injection e with e1 _; rw [e1]
  byValue := fun k v h => by
    rcases keyIs_shape h with ⟨i, t, rfl, rfl⟩ | ⟨x, t, rfl, rfl⟩ <;> rfl
  pyHash := fun hv h => by
    rcases keyIs_shape hv with ⟨i, t, rfl, rfl⟩ | ⟨x, t, rfl, rfl⟩
    · exact wpAny_pyHash_int h
    · exact wpAny_pyHash_str h
  eqBool := fun hu hv h => by
    rcases keyIs_shape hu with ⟨i, t, rfl, rfl⟩ | ⟨x, t, rfl, rfl⟩
    · rcases keyIs_shape hv with ⟨j, u, rfl, rfl⟩ | ⟨y, u, rfl, rfl⟩
      · rw [key_ll] at h; exact wpAny_eqBool_int h
      · rw [key_lr] at h; exact SeqAt.EqAt.int_str i t y u _ _ _ _ h
    · rcases keyIs_shape hv with ⟨j, u, rfl, rfl⟩ | ⟨y, u, rfl, rfl⟩
      · rw [key_rl] at h; exact SeqAt.EqAt.str_int x t j u _ _ _ _ h
      · rw [key_rr] at h; exact wpAny_eqBool_str h
  «strs» := fun k x t v h => by
    rcases keyIs_shape h with ⟨i, u, rfl, e⟩ | ⟨y, u, rfl, e⟩
    · exact nomatch e
    · injection e with e1 _
      subst e1
      cases v <;> rfl
end L2
namespace L2
open PySem PySem.Spec PyProof.Rows
inductive V where
  | non | bl (b : Bool) | int (i : Int) | str (x : Str) | byt (b : Array UInt8) | flt (b : UInt64) | ref (a : Addr) | ty (n : String)
  deriving DecidableEq
def RelV : V → Value → Prop
  | .non, u => u = Value.none
  | .bl b, u => u = Value.bool b
  | .int i, u => ∃ t, u = Value.int i t
  | .str x, u => ∃ t, u = Value.str x t
  | .byt b, u => ∃ t, u = Value.bytes b t
  | .flt b, u => ∃ t, u = Value.float b t
  | .ref a, u => u = Value.ref a
  | .ty n, u => u = Value.type n
abbrev Vals : List V → List Value → Prop := Paired RelV
theorem Vals.length {xs : List V} {us : List Value} (r : Vals xs us) : xs.length = us.length := Paired.length r
theorem Vals.get : ∀ {xs : List V} {us : List Value} {i : Nat} {x : V}, Vals xs us → xs[i]? = some x → ∃ u, us[i]? = some u ∧ RelV x u
  | _, _, _, _, .nil, e => by simp at e
  | _, _, 0, _, .cons r _, e => by simp at e; subst e; exact ⟨_, rfl, r⟩
  | _, _, i + 1, x, .cons _ t, e => by
    obtain ⟨u, h1, h2⟩ := Vals.get (i := i) (x := x) t (by simpa using e)
    exact ⟨u, by simpa using h1, h2⟩
theorem Vals.append : ∀ {xs ys : List V} {us ws : List Value}, Vals xs us → Vals ys ws → Vals (xs ++ ys) (us ++ ws)
  | _, _, _, _, .nil, s => s
  | _, _, _, _, .cons r t, s => .cons r (Vals.append t s)
theorem Vals.take : ∀ {xs : List V} {us : List Value} (n : Nat), Vals xs us → Vals (xs.take n) (us.take n)
  | _, _, 0, _ => .nil
  | _, _, _ + 1, .nil => .nil
  | _, _, n + 1, .cons r t => .cons r (Vals.take n t)
theorem Vals.drop : ∀ {xs : List V} {us : List Value} (n : Nat), Vals xs us → Vals (xs.drop n) (us.drop n)
  | _, _, 0, r => r
  | _, _, _ + 1, .nil => .nil
  | _, _, n + 1, .cons _ t => Vals.drop n t
def RelO : Option V → Option Value → Prop
  | some v, some u => RelV v u
  | none, none => True
  | _, _ => False
def KV {κ : Type} : List (κ × V) → List (κ × Value) → Prop := Paired fun (p : κ × V) (q : κ × Value) => p.1 = q.1 ∧ RelV p.2 q.2
def kV : Key → V
  | .inl i => .int i
  | .inr x => .str x
inductive HO where
  | lst (xs : List V)
  | tup (xs : List V)
  | dK (kvs : List (Key × V)) | dT (kvs : List (List Key × V))
  | set (S : Int → Bool) (n : Nat)
  | ins (C dx : Addr) (fs : List (Str × V))
  | own (x : Addr)
  | xd (fs : List (Str × V))
  | met (f x : Addr)
  | rng (lo hi : Int)
  | frz (o : Obj) (u : HO)
  | tbl (ps : Array Value)
  | ext (φ : Heap → Prop)
abbrev Hp := Addr → Option HO
def upd (H : Hp) (a : Addr) (o : HO) : Hp := fun b => if b = a then some o else H b
theorem upd_same {H : Hp} {a : Addr} {o : HO} : upd H a o a = some o := by unfold upd; rw [if_pos rfl]
theorem upd_ne {H : Hp} {a b : Addr} {o : HO} (h : b ≠ a) : upd H a o b = H b := by unfold upd; rw [if_neg h]
theorem upd_upd {H : Hp} {a : Addr} {o u : HO} : upd (upd H a o) a u = upd H a u := by
  funext b; unfold upd; split <;> rfl
theorem ne_of {H : Hp} {a b : Addr} {o u : HO} (h : H a = some o) (h' : H b = some u) (d : o ≠ u) : a ≠ b := by
  intro e; subst e; rw [h] at h'; exact d (Option.some.inj h')
theorem ne_of_none {H : Hp} {a b : Addr} {o : HO} (h : H a = some o) (h' : H b = none) : a ≠ b := by
  intro e; subst e; rw [h] at h'; cases h'
section
variable (P : Program) (w : World)
def ObjOk (H : Hp) (h : Heap) (a : Addr) : HO → Prop
  | .lst xs => xs.length ≤ sizeLine ∧ ∃ (its : List Value) (n : Nat), Vals xs its ∧ h.get? a = some { cls := .type "list", data := .seq its.toArray n }
  | .tup xs => xs.length ≤ sizeLine ∧ ∃ its : List Value, Vals xs its ∧ IsTup h a its.toArray
  | .dK kvs => kvs.length ≤ sizeLine ∧ (a == sysModules) = false ∧ ∃ vs, KV kvs vs ∧ h.DictOf (mixKind P w) a vs
  | .dT kvs => kvs.length ≤ sizeLine ∧ (a == sysModules) = false ∧ ∃ xs : List (List Key × Addr × Value),
      Paired (fun (p : List Key × V) (q : List Key × Addr × Value) => p.1 = q.1 ∧ H q.2.1 = some (.tup (p.1.map kV)) ∧ RelV p.2 q.2.2) kvs xs ∧
      ∃ o es ep, h.get? a = some o ∧ o.ExactDict ∧ o.data = .dict es ep ∧ es.toList = xs.map (entryOfKey (tupleKind (mixKind P w))) ∧ (xs.map (·.1)).Nodup
  | .set S n => h.SetOf (intKind P w) a S n
  | .ins C dx fs => H dx = some (.own a) ∧ fs.length ≤ 1000 ∧ dx ≠ a ∧ h.get? a = some (PySem.W.instObj C dx) ∧
      ∃ mA, h.Ns1 dx mA ∧ (∀ f, RelO (fs.lookup f) (mA f)) ∧ PySem.Within mA (fs.map (·.1))
  | .own _ => ∃ o, h.get? a = some o
  | .xd fs => ∃ mA, h.Ns1 a mA ∧ ∀ f, RelO (fs.lookup f) (mA f)
  | .rng lo hi => ∃ t u v, h.get? a = some { cls := .type "range", data := .fields #[.int lo t, .int hi u, .int 1 v] }
  | .frz o u => h.get? a = some o ∧ ObjOk H h a u
  | .tbl ps => h.get? a = some { cls := .none, data := .fields ps }
  | .met f x => h.get? a = some (PySem.W.methodObj (.ref f) (.ref x))
  | .ext φ => φ h ∧ (∃ o, h.get? a = some o) ∧ ∀ h1 h2 : Heap, φ h1 → (∀ o, h1.get? a = some o → h2.get? a = some o) → φ h2
def HOk (H : Hp) (h : Heap) : Prop := ∀ a o, H a = some o → ObjOk P w H h a o
end
section
variable {P : Program} {w : World} {H H' : Hp} {h h' : Heap} {a : Addr} {o : HO}
theorem ObjOk.lt (x : ObjOk P w H h a o) : a < h.objs.size := by
  cases o with
  | lst xs => obtain ⟨_, _, _, _, e⟩ := x; exact Heap.lt_size e
  | tup xs => obtain ⟨_, _, _, p⟩ := x; exact p.lt
  | dK kvs => obtain ⟨_, _, _, _, o, _, _, e, _⟩ := x; exact Heap.lt_size e
  | dT kvs => obtain ⟨_, _, _, _, o, _, _, e, _⟩ := x; exact Heap.lt_size e
  | set S n => obtain ⟨o, _, _, _, e, _⟩ := x; exact Heap.lt_size e
  | ins C dx fs => obtain ⟨_, _, _, e, _⟩ := x; exact Heap.lt_size e
  | own y => obtain ⟨_, e⟩ := x; exact Heap.lt_size e
  | xd fs => obtain ⟨_, ⟨_, _, _, e, _⟩, _⟩ := x; exact Heap.lt_size e
  | rng lo hi => obtain ⟨_, _, _, e⟩ := x; exact Heap.lt_size e
  | frz ob u => obtain ⟨e, _⟩ := x; exact Heap.lt_size e
  | tbl ps => exact Heap.lt_size (show h.get? a = some _ from x)
  | met f y => exact Heap.lt_size (show h.get? a = some _ from x)
  | ext φ => obtain ⟨_, ⟨_, e⟩, _⟩ := x; exact Heap.lt_size e
theorem Paired.mapP {α β : Type} {F G : α → β → Prop} : ∀ {l₁ : List α} {l₂ : List β}, Paired F l₁ l₂ → (∀ a b, F a b → G a b) → Paired G l₁ l₂
  | _, _, .nil, _ => .nil
  | _, _, .cons r t, f => .cons (f _ _ r) (Paired.mapP t f)
theorem ObjOk.stay (x : ObjOk P w H h a o) (k : ∀ b u, (b = a ∨ H b = some (.own a)) → h.get? b = some u → h'.get? b = some u)
    (ho : ∀ b, H b = some (.own a) → H' b = some (.own a)) (ht : ∀ b xs, H b = some (.tup xs) → H' b = some (.tup xs)) : ObjOk P w H' h' a o := by
  induction o with
  | lst xs => obtain ⟨z, its, n, r, e⟩ := x; exact ⟨z, its, n, r, k _ _ (.inl rfl) e⟩
  | tup xs => obtain ⟨z, its, r, ob, e, c⟩ := x; exact ⟨z, its, r, ob, k _ _ (.inl rfl) e, c⟩
  | dK kvs => obtain ⟨z, y, vs, r, ob, es, ep, e, c⟩ := x; exact ⟨z, y, vs, r, ob, es, ep, k _ _ (.inl rfl) e, c⟩
  | dT kvs =>
    obtain ⟨z, y, xs, r, ob, es, ep, e, c⟩ := x
    exact ⟨z, y, xs, Paired.mapP r fun p q z => ⟨z.1, ht _ _ z.2.1, z.2.2⟩, ob, es, ep, k _ _ (.inl rfl) e, c⟩
  | set S n => obtain ⟨ob, es, ep, t, e, c⟩ := x; exact ⟨ob, es, ep, t, k _ _ (.inl rfl) e, c⟩
  | ins C dx fs =>
    obtain ⟨d, z, ne, e, mA, ⟨od, es, ep, e2, c⟩, r⟩ := x
    exact ⟨ho _ d, z, ne, k _ _ (.inl rfl) e, mA, ⟨od, es, ep, k _ _ (.inr d) e2, c⟩, r⟩
  | own y => obtain ⟨ob, e⟩ := x; exact ⟨ob, k _ _ (.inl rfl) e⟩
  | xd fs => obtain ⟨mA, ⟨od, es, ep, e, c⟩, r⟩ := x; exact ⟨mA, ⟨od, es, ep, k _ _ (.inl rfl) e, c⟩, r⟩
  | rng lo hi => obtain ⟨t, u, v, e⟩ := x; exact ⟨t, u, v, k _ _ (.inl rfl) e⟩
  | frz ob u ih => obtain ⟨e, q⟩ := x; exact ⟨k _ _ (.inl rfl) e, ih q⟩
  | tbl ps =>
    have e : h.get? a = some { cls := .none, data := .fields ps } := x
    show h'.get? a = some { cls := .none, data := .fields ps }
    exact k a _ (.inl rfl) e
  | met f y =>
    have e : h.get? a = some (PySem.W.methodObj (.ref f) (.ref y)) := x
    show h'.get? a = some (PySem.W.methodObj (.ref f) (.ref y))
    exact k a _ (.inl rfl) e
  | ext φ => obtain ⟨p, ⟨o, e⟩, st⟩ := x; exact ⟨st _ _ p fun o q => k _ _ (.inl rfl) q, ⟨o, k _ _ (.inl rfl) e⟩, st⟩
theorem HOk.lt (x : HOk P w H h) (e : H a = some o) : a < h.objs.size := (x a o e).lt
theorem HOk.fresh (x : HOk P w H h) (e : h.objs.size ≤ a) : H a = none := by
  cases q : H a with
  | none => rfl
  | some u => exact absurd (Nat.lt_of_lt_of_le (x.lt q) e) (Nat.lt_irrefl _)
theorem HOk.kept (x : HOk P w H h) (k : ∀ b u, h.get? b = some u → h'.get? b = some u) : HOk P w H h' := fun a o e =>
  (x a o e).stay (fun b u _ q => k b u q) (fun _ q => q) fun _ _ q => q
theorem HOk.laid (x : HOk P w H h) (k : ∀ b u, h.get? b = some u → h'.get? b = some u) (hp : h.objs.size ≤ a) (new : ObjOk P w (upd H a o) h' a o) : HOk P w (upd H a o) h' := fun b u e => by
  have hn := x.fresh hp
  by_cases hb : b = a
  · subst hb; rw [upd_same] at e; cases e; exact new
  · rw [upd_ne hb] at e
    exact (x b u e).stay (fun c v _ q => k c v q) (fun c q => by rw [upd_ne (ne_of_none q hn)]; exact q) fun c xs q => by rw [upd_ne (ne_of_none q hn)]; exact q
end
def Rd (H : Hp) (a : Addr) (u : HO) : Prop := H a = some u ∨ ∃ o, H a = some (.frz o u)
theorem Rd.ok {P : Program} {w : World} {H : Hp} {h : Heap} {a : Addr} {u : HO} (r : Rd H a u) (x : HOk P w H h) : ObjOk P w H h a u := by
  rcases r with r | ⟨o, r⟩
  · exact x a u r
  · obtain ⟨_, q⟩ := x a _ r
    exact q
def Mut : Option HO → Prop
  | some (.lst _) => True
  | some (.dK _) => True
  | some (.dT _) => True
  | some (.set _ _) => True
  | some (.ins _ _ _) => True
  | some (.ext _) => True
  | _ => False
section
variable {P : Program} {w : World} {H : Hp} {h h' : Heap} {x e : Addr} {o' : HO}
theorem HOk.write (ok : HOk P w H h) (mu : Mut (H x)) (he : e = x ∨ H e = some (.own x)) (k : ∀ b u, b ≠ e → h.get? b = some u → h'.get? b = some u) (heo : ∃ u, h'.get? e = some u)
    (new : ObjOk P w (upd H x o') h' x o') : HOk P w (upd H x o') h' := fun b u q => by
  have nown : ∀ c y, H c = some (.own y) → c ≠ x := fun c y r z => by subst z; rw [r] at mu; exact mu
  have ntup : ∀ c xs, H c = some (.tup xs) → c ≠ x := fun c xs r z => by subst z; rw [r] at mu; exact mu
  by_cases hb : b = x
  · subst hb; rw [upd_same] at q; cases q; exact new
  · rw [upd_ne hb] at q
    by_cases hbe : b = e
    · have q' : H b = some (.own x) := by
        rcases he with z | z
        · exact absurd (hbe.trans z) hb
        · rw [hbe]; exact z
      rw [q] at q'; cases q'
      obtain ⟨v, hv⟩ := heo
      exact ⟨v, by rw [hbe]; exact hv⟩
    · refine (ok b u q).stay (fun c v hc r => k c v ?_ r) (fun c r => by rw [upd_ne (nown c b r)]; exact r) fun c xs r => by rw [upd_ne (ntup c xs r)]; exact r
      rcases hc with rfl | hc
      · exact hbe
      · rintro rfl
        rcases he with z | z
        · exact nown c b hc z
        · rw [hc] at z; cases z; exact hb rfl
end
structure Un (fs ex : List Addr) (H H' : Hp) (h h' : Heap) : Prop where
  keep : ∀ b o, h.get? b = some o → H b = none → b ∉ fs → b ∉ ex → h'.get? b = some o
  slot : ∀ b o, h.get? b = some o → H b = none → b ∈ fs → b ∉ ex → ∃ sl, h'.get? b = some { o with slots := sl }
  free : ∀ b o, h.get? b = some o → H b = none → b ∉ ex → H' b = none
  there : ∀ b o, h.get? b = some o → b ∉ ex → ∃ o', h'.get? b = some o'
  tups : ∀ b xs, H b = some (.tup xs) → H' b = some (.tup xs)
  frzs : ∀ b o u, H b = some (.frz o u) → H' b = some (.frz o u)
  tbls : ∀ b ps, H b = some (.tbl ps) → ∃ more, H' b = some (.tbl (ps ++ more))
section
variable {fs fs' ex ex' : List Addr} {H H1 H2 : Hp} {h h1 h2 h' : Heap} {a x e : Addr} {o : HO}
theorem Un.any (u : Un fs ex H H1 h h1) {b : Addr} {ob : Obj} (q : h.get? b = some ob) (n : H b = none) (hx : b ∉ ex) : ∃ sl, h1.get? b = some { ob with slots := sl } := by
  by_cases hb : b ∈ fs
  · exact u.slot b ob q n hb hx
  · exact ⟨ob.slots, u.keep b ob q n hb hx⟩
theorem Un.kept (k : ∀ b u, h.get? b = some u → h'.get? b = some u) : Un fs ex H H h h' :=
  ⟨fun b ob q _ _ _ => k b ob q, fun b ob q _ _ _ => ⟨ob.slots, k b ob q⟩, fun _ _ _ n _ => n, fun b ob q _ => ⟨ob, k b ob q⟩, fun _ _ q => q, fun _ _ _ q => q, fun _ ps q => ⟨#[], by rw [q]; simp⟩⟩
theorem Un.refl : Un fs ex H H h h := Un.kept fun _ _ q => q
theorem Un.laid (k : ∀ b u, h.get? b = some u → h'.get? b = some u) (hp : h.objs.size ≤ a) (hn : H a = none) : Un fs ex H (upd H a o) h h' where
  keep := fun b u q _ _ _ => k b u q
  slot := fun b u q _ _ _ => ⟨u.slots, k b u q⟩
  free := fun b u q n _ => by rw [upd_ne (Nat.ne_of_lt (Nat.lt_of_lt_of_le (Heap.lt_size q) hp))]; exact n
  there := fun b u q _ => ⟨u, k b u q⟩
  tups := fun b xs q => by rw [upd_ne (ne_of_none q hn)]; exact q
  frzs := fun b u xs q => by rw [upd_ne (ne_of_none q hn)]; exact q
  tbls := fun b ps q => ⟨#[], by rw [upd_ne (ne_of_none q hn), q]; simp⟩
theorem Un.write (mu : Mut (H x)) (he : e = x ∨ H e = some (.own x)) (k : ∀ b u, b ≠ e → h.get? b = some u → h'.get? b = some u) (heo : ∃ u, h'.get? e = some u) : Un fs ex H (upd H x o) h h' := by
  have hx : ∀ b, H b = none → b ≠ x := fun b n z => by subst z; rw [n] at mu; exact mu
  have hb : ∀ b, H b = none → b ≠ e := fun b n z => by
    subst z
    rcases he with r | r
    · exact hx b n r
    · rw [n] at r; cases r
  have hm : ∀ b u, H b = some u → ¬ Mut (some u) → b ≠ x := fun b u q nm z => by subst z; rw [q] at mu; exact nm mu
  refine ⟨fun b u q n _ _ => k b u (hb b n) q, fun b u q n _ _ => ⟨u.slots, k b u (hb b n) q⟩, fun b u q n _ => by rw [upd_ne (hx b n)]; exact n, fun b u q _ => ?_,
    fun b xs q => by rw [upd_ne (hm b _ q fun z => z)]; exact q, fun b u xs q => by rw [upd_ne (hm b _ q fun z => z)]; exact q, fun b ps q => ⟨#[], by rw [upd_ne (hm b _ q fun z => z), q]; simp⟩⟩
  by_cases hbe : b = e
  · subst hbe; exact heo
  · exact ⟨u, k b u hbe q⟩
end
def trk (h : Heap) (H : Hp) : List Addr := (List.range h.objs.size).filter fun a => (H a).isSome
def hidT (h : Heap) (H : Hp) : Heap := PySem.W.hideAll h (trk h H)
theorem hidT_size (h : Heap) (H : Hp) : (hidT h H).objs.size = h.objs.size := PySem.W.hideAll_size _ _
theorem hidT_get {h : Heap} {H : Hp} {b : Addr} {o : Obj} (e : h.get? b = some o) (n : H b = none) : (hidT h H).get? b = some o :=
  PySem.W.hideAll_get _ e fun hm => by
    have q : (H b).isSome = true := (List.mem_filter.mp hm).2
    rw [n] at q; simp at q
theorem of_hidT {h : Heap} {H : Hp} {b : Addr} {o : Obj} (e : (hidT h H).get? b = some o) : h.get? b = some o ∧ H b = none := by
  have e' : h.get? b = some o := PySem.W.of_hideAll (trk h H) e
  refine ⟨e', ?_⟩
  cases q : H b with
  | none => rfl
  | some x =>
    have hm : b ∈ trk h H := List.mem_filter.mpr ⟨List.mem_range.mpr (Heap.lt_size e'), by simp [q]⟩
    have z : (hidT h H).get? b = none := PySem.W.hideAll_none (trk h H) hm
    rw [z] at e; cases e
def allNews (g h : Heap) (L : Addr) : List (Addr × Obj) := (List.range h.objs.size).filterMap fun a => if a = L ∨ (g.get? a).isSome = true then none else (h.get? a).map fun o => (a, o)
def rest (g h : Heap) (L d : Addr) : List (Addr × Obj) := (allNews g h L).filter fun p => decide (p.1 ≠ d)
end L2
namespace L2
open PySem PySem.Spec PyProof.Rows
structure Mod (K : PySem.W.Frag) (mg : Str → Option Value) (base : Heap) : Prop where
  kin : K.In base
  glob : base.Ns mainGlobals mg
  blt : ∃ mb, base.Ns builtinsNs mb ∧ ∀ x : Str, x ≠ "__name__" → mb x = bootBuiltins x
  nolimit : base.NoLimit
structure Cx where
  prog : Program
  w : World
  K : PySem.W.Frag
  mg : Str → Option Value
  base : Heap
  A : Around
  N : List Str
  s₀ : Shared
  H₀ : Hp
  env : Env
  outer : List Env
  stack : List Env
  ex : List Addr
  fn : Str → Bool
  calm : Bool
  pn : List (Addr × Obj)
  xe : Value → Shared → Prop
def frs (l : List Env) : List Addr := l.filterMap (·.frame)
abbrev Cx.fs (X : Cx) : List Addr := frs X.outer
def Vis (sc : Scope) (x : Str) : Prop := sc.names.lookup x = some .local ∨ sc.names.lookup x = some .cell ∨ sc.names.lookup x = some .free
def Loc (sc : Scope) (x : Str) : Prop := sc.names.lookup x = some .local ∨ sc.names.lookup x = some .cell
def Look (env : Env) (h : Heap) (m : Str → Option Value) (x : Str) (u : Value) : Prop :=
  (env.kindOf x = some .local ∧ m x = some u) ∨ ((env.kindOf x = some .cell ∨ env.kindOf x = some .free) ∧ ∃ c, env.cells.lookup x = some c ∧ h.IsCell c (some u))
structure Cx.Ok (X : Cx) : Prop where
  mod : Mod X.K X.mg X.base
  kind : X.env.scope.kind = .function
  glob : X.env.globals = mainGlobals
  blt : X.env.builtins = builtinsNs
  above : X.s₀.heap.objs.size ≤ X.env.locals
  inj : ∀ x y c, X.env.cells.lookup x = some c → X.env.cells.lookup y = some c → x = y
  has : ∀ x, (X.env.kindOf x = some .cell ∨ X.env.kindOf x = some .free) → ∃ c, X.env.cells.lookup x = some c
  cab : ∀ x c, X.fn x = true → X.env.cells.lookup x = some c → X.s₀.heap.objs.size ≤ c
  hd : X.calm = true → X.A.handled = none
  frames : X.A.frames = some X.stack
  stk : X.stack = X.outer ∨ (X.stack = X.env :: X.outer ∧ X.env.frame = some X.env.locals)
  exf : ∀ b ∈ X.ex, b ≠ X.env.locals ∧ ∀ x c, X.env.cells.lookup x = some c → c ≠ b
  bs : ∀ b o, X.base.get? b = some o → X.s₀.heap.get? b = some o ∧ X.H₀ b = none
  bsz : X.base.objs.size ≤ X.s₀.heap.objs.size
  noex : ∀ b o, X.base.get? b = some o → b ∉ X.ex
  exfs : ∀ b ∈ X.ex, b ∉ X.fs
  funs : X.s₀.heap.FunFrames X.base X.outer
  frf : ∀ b ∈ X.fs, X.H₀ b = none
structure Inv (X : Cx) (pins : List (Addr × Obj)) (σ : List (Option V)) (H : Hp) (s : Shared) : Prop where
  ok : X.Ok
  os : s.os = X.s₀.os
  bare : AllBare s.gens
  base : Un X.fs X.ex X.H₀ H X.s₀.heap s.heap
  loc : ∃ m, s.heap.Ns X.env.locals m ∧ ∀ (i : Nat) (x : Str) (v : V), X.N[i]? = some x → σ[i]? = some (some v) → Vis X.env.scope x → ∃ u, RelV v u ∧ Look X.env s.heap m x u
  cell : ∀ x c, X.env.cells.lookup x = some c → ∃ v, s.heap.IsCell c v
  free : H X.env.locals = none
  freeC : ∀ x c, X.env.cells.lookup x = some c → H c = none
  pin : ∀ p ∈ X.pn ++ pins, s.heap.get? p.1 = some p.2 ∧ H p.1 = none ∧ p.1 ≠ X.env.locals ∧ p.1 ∉ X.fs ∧ ∀ v, p.2.data ≠ .cell v
  hok : HOk X.prog X.w H s.heap
  len : σ.length = X.N.length
section
variable {X : Cx} {pins : List (Addr × Obj)} {σ : List (Option V)} {H H' : Hp} {s : Shared} {h' : Heap}
theorem Cx.Ok.nofr (ok : X.Ok) {b : Addr} {o : Obj} (e : X.base.get? b = some o) : b ∉ X.fs := fun hb => by
  have := (ok.funs.mem hb).1
  rw [e] at this; cases this
theorem Inv.bs (I : Inv X pins σ H s) : ∀ b o, X.base.get? b = some o → s.heap.get? b = some o ∧ H b = none := fun b o e =>
  ⟨I.base.keep b o (I.ok.bs b o e).1 (I.ok.bs b o e).2 (I.ok.nofr e) (I.ok.noex b o e), I.base.free b o (I.ok.bs b o e).1 (I.ok.bs b o e).2 (I.ok.noex b o e)⟩
theorem Inv.bk (I : Inv X pins σ H s) : ∀ b o, X.base.get? b = some o → s.heap.get? b = some o := fun b o e => (I.bs b o e).1
theorem Inv.mod (I : Inv X pins σ H s) : Mod X.K X.mg X.base := I.ok.mod
theorem Inv.kIn (I : Inv X pins σ H s) : X.K.In s.heap := I.ok.mod.kin.keeps I.bk
theorem Inv.lt (I : Inv X pins σ H s) : X.env.locals < s.heap.objs.size := let ⟨_, hn, _⟩ := I.loc; hn.lt
theorem Inv.sz (I : Inv X pins σ H s) : X.s₀.heap.objs.size ≤ s.heap.objs.size := Nat.le_trans I.ok.above (Nat.le_of_lt I.lt)
theorem Inv.nofs (I : Inv X pins σ H s) {a : Addr} (h : s.heap.objs.size ≤ a) : a ∉ X.fs := fun hb => by
  obtain ⟨_, o, ho, _⟩ := I.ok.funs.mem hb
  exact absurd (Nat.lt_of_lt_of_le (Heap.lt_size ho) (Nat.le_trans I.sz h)) (Nat.lt_irrefl _)
theorem Inv.cne (I : Inv X pins σ H s) : ∀ x c, X.env.cells.lookup x = some c → c ≠ X.env.locals := fun x c e z => by
  obtain ⟨v, o, ho, hd⟩ := I.cell x c e
  obtain ⟨m, ⟨o', es, ep, ho', hd', _⟩, _⟩ := I.loc
  rw [z, ho'] at ho; cases ho; rw [hd'] at hd; cases hd
theorem Inv.funs (I : Inv X pins σ H s) : s.heap.FunFrames X.base X.outer := by
  have all : ∀ (l : List Env), (∀ b ∈ frs l, b ∈ X.fs) → X.s₀.heap.FunFrames X.base l → s.heap.FunFrames X.base l := by
    intro l
    induction l with
    | nil => intro _ _; trivial
    | cons env r ih =>
      intro hs hl
      obtain ⟨hk, ⟨L, o, hf, hn, ho, hd⟩, hr⟩ := hl
      have hL : L ∈ X.fs := hs L (by unfold frs; rw [List.filterMap_cons, hf]; exact List.mem_cons_self)
      obtain ⟨sl, e⟩ := I.base.slot L o ho (I.ok.frf L hL) hL fun z => I.ok.exfs L z hL
      exact ⟨hk, ⟨L, _, hf, hn, e, hd⟩, ih (fun b hb => hs b (by unfold frs; rw [List.filterMap_cons, hf]; exact List.mem_cons_of_mem _ hb)) hr⟩
  exact all X.outer (fun _ hb => hb) I.ok.funs
theorem Inv.stack (I : Inv X pins σ H s) : s.heap.FunFrames X.base X.stack := by
  rcases I.ok.stk with e | ⟨e, hf⟩
  · rw [e]; exact I.funs
  · rw [e]
    obtain ⟨m, hn, _⟩ := I.loc
    refine .cons (by rw [I.ok.kind]; decide) hf hn ?_ I.funs
    exact Heap.get?_none_of_le (Nat.le_trans I.ok.bsz I.ok.above)
theorem Inv.stkSub (I : Inv X pins σ H s) : ∀ b ∈ frs X.stack, b ∈ X.env.locals :: X.fs := fun b hb => by
  rcases I.ok.stk with e | ⟨e, hf⟩
  · rw [e] at hb; exact List.mem_cons_of_mem _ hb
  · rw [e] at hb
    unfold frs at hb
    rw [List.filterMap_cons, hf] at hb
    exact hb
theorem Inv.stkFree (I : Inv X pins σ H s) : ∀ b ∈ frs X.stack, H b = none := fun b hb => by
  rcases List.mem_cons.mp (I.stkSub b hb) with e | hb
  · rw [e]; exact I.free
  · obtain ⟨_, o, ho, _⟩ := I.ok.funs.mem hb
    exact I.base.free b o ho (I.ok.frf b hb) fun z => I.ok.exfs b z hb
theorem Inv.step {g' : Array GenState} {t' : Nat} {d' : Drawn} {ch : List Addr} (I : Inv X pins σ H s)
    (hch : ∀ b ∈ ch, (b ∈ X.ex ∨ X.s₀.heap.objs.size ≤ b) ∧ b ≠ X.env.locals ∧ (∀ x c, X.env.cells.lookup x = some c → c ≠ b) ∧ ∀ p ∈ X.pn ++ pins, p.1 ≠ b)
    (keep : ∀ b o, b ≠ X.env.locals → b ∉ X.fs → b ∉ ch → s.heap.get? b = some o → H b = none → h'.get? b = some o)
    (slot : ∀ b o, b ≠ X.env.locals → b ∈ X.fs → b ∉ ch → s.heap.get? b = some o → H b = none → ∃ sl, h'.get? b = some { o with slots := sl }) (free : ∀ b o, b ∉ ch → s.heap.get? b = some o → H b = none → H' b = none)
    (there : ∀ b o, b ∉ ch → s.heap.get? b = some o → ∃ o', h'.get? b = some o')
    (tups : ∀ b xs, H b = some (.tup xs) → H' b = some (.tup xs)) (frzs : ∀ b o u, H b = some (.frz o u) → H' b = some (.frz o u)) (tbls : ∀ b ps, H b = some (.tbl ps) → ∃ more, H' b = some (.tbl (ps ++ more)))
    (ns : ∀ m, s.heap.Ns X.env.locals m → h'.Ns X.env.locals m) (hok : HOk X.prog X.w H' h') (hg : AllBare g') :
    Inv X pins σ H' { s with heap := h', gens := g', drawn := d', toks := t' } := by
  have neL : ∀ b o, X.s₀.heap.get? b = some o → b ≠ X.env.locals := fun b o e => Nat.ne_of_lt (Nat.lt_of_lt_of_le (Heap.lt_size e) I.ok.above)
  have neC : ∀ b o, X.s₀.heap.get? b = some o → b ∉ X.ex → b ∉ ch := fun b o e hx hb => by
    rcases (hch b hb).1 with z | z
    · exact hx z
    · exact absurd (Nat.lt_of_lt_of_le (Heap.lt_size e) z) (Nat.lt_irrefl _)
  have cellK : ∀ x c, X.env.cells.lookup x = some c → ∀ v, s.heap.IsCell c v → h'.IsCell c v := fun x c e v ⟨o, ho, hd⟩ => by
    have nch : c ∉ ch := fun z => (hch c z).2.2.1 x c e rfl
    by_cases hc : c ∈ X.fs
    · obtain ⟨sl, q⟩ := slot c o (I.cne x c e) hc nch ho (I.freeC x c e)
      exact ⟨_, q, hd⟩
    · exact ⟨o, keep c o (I.cne x c e) hc nch ho (I.freeC x c e), hd⟩
  refine ⟨I.ok, I.os, hg, ⟨fun b o e n hb hx => ?_, fun b o e n hb hx => ?_, fun b o e n hx => ?_, fun b o e hx => ?_, fun b xs e => tups b xs (I.base.tups b xs e), fun b o xs e => frzs b o xs (I.base.frzs b o xs e), fun b ps e => ?_⟩, ?_, fun x c e => ?_, ?_, fun x c e => ?_, fun p hp => ?_, hok, I.len⟩
  · exact keep b o (neL b o e) hb (neC b o e hx) (I.base.keep b o e n hb hx) (I.base.free b o e n hx)
  · obtain ⟨sl, e1⟩ := I.base.slot b o e n hb hx
    obtain ⟨sl', e2⟩ := slot b _ (neL b o e) hb (neC b o e hx) e1 (I.base.free b o e n hx)
    exact ⟨sl', e2⟩
  · obtain ⟨o', e1⟩ := I.base.there b o e hx
    exact free b o' (neC b o e hx) e1 (I.base.free b o e n hx)
  · obtain ⟨o', e1⟩ := I.base.there b o e hx
    exact there b o' (neC b o e hx) e1
  · obtain ⟨m1, e1⟩ := I.base.tbls b ps e
    obtain ⟨m2, e2⟩ := tbls b _ e1
    exact ⟨m1 ++ m2, by rw [e2, Array.append_assoc]⟩
  · obtain ⟨m, hn, hl⟩ := I.loc
    refine ⟨m, ns m hn, fun i x v e1 e2 e3 => ?_⟩
    obtain ⟨u, r, l⟩ := hl i x v e1 e2 e3
    refine ⟨u, r, ?_⟩
    rcases l with l | ⟨k, c, e, z⟩
    · exact .inl l
    · exact .inr ⟨k, c, e, cellK x c e _ z⟩
  · obtain ⟨v, z⟩ := I.cell x c e
    exact ⟨v, cellK x c e v z⟩
  · obtain ⟨m, ⟨o, _, _, ho, _⟩, _⟩ := I.loc
    exact free _ o (fun z => (hch _ z).2.1 rfl) ho I.free
  · obtain ⟨v, o, ho, hd⟩ := I.cell x c e
    exact free c o (fun z => (hch c z).2.2.1 x c e rfl) ho (I.freeC x c e)
  · obtain ⟨e, n, ne, nf, d⟩ := I.pin p hp
    have nch : p.1 ∉ ch := fun z => (hch p.1 z).2.2.2 p hp rfl
    exact ⟨keep p.1 p.2 ne nf nch e n, free p.1 p.2 nch e n, ne, nf, d⟩
theorem Inv.un {t' : Nat} (I : Inv X pins σ H s) (u : Un X.fs [] H H' s.heap h') (hok : HOk X.prog X.w H' h') : Inv X pins σ H' { s with heap := h', toks := t' } := by
  obtain ⟨m, ⟨o, es, ep, ho, r⟩, _⟩ := id I.loc
  obtain ⟨sl, hL⟩ := u.any ho I.free (by simp)
  exact I.step (g' := s.gens) (d' := s.drawn) (ch := []) (fun _ z => nomatch z) (fun b o _ hb _ e n => u.keep b o e n hb (by simp)) (fun b o _ hb _ e n => u.slot b o e n hb (by simp)) (fun b o _ e n => u.free b o e n (by simp)) (fun b o _ e => u.there b o e (by simp)) u.tups u.frzs u.tbls (fun m' hm => by
    obtain ⟨o', es', ep', ho', r'⟩ := hm
    rw [ho] at ho'; cases ho'
    exact ⟨_, es', ep', hL, r'⟩) hok I.bare
theorem Inv.call {g' : Array GenState} {t' : Nat} {d' : Drawn} {ch : List Addr} (I : Inv X pins σ H s) (u : Un (frs X.stack) ch H H' s.heap h') (hok : HOk X.prog X.w H' h') (hg : AllBare g')
    (hch : ∀ b ∈ ch, (b ∈ X.ex ∨ X.s₀.heap.objs.size ≤ b) ∧ b ≠ X.env.locals ∧ (∀ x c, X.env.cells.lookup x = some c → c ≠ b) ∧ ∀ p ∈ X.pn ++ pins, p.1 ≠ b) :
    Inv X pins σ H' { s with heap := h', gens := g', drawn := d', toks := t' } := by
  obtain ⟨m, ⟨o, es, ep, ho, r⟩, _⟩ := id I.loc
  obtain ⟨sl, hL⟩ := u.any ho I.free fun z => (hch _ z).2.1 rfl
  exact I.step (ch := ch) hch (fun b o hL hb hc e n => u.keep b o e n (fun z => (List.mem_cons.mp (I.stkSub b z)).elim hL hb) hc) (fun b o _ _ hc e n => u.any e n hc) (fun b o hc e n => u.free b o e n hc) (fun b o hc e => u.there b o e hc) u.tups u.frzs u.tbls (fun m' hm => by
    obtain ⟨o', es', ep', ho', r'⟩ := hm
    rw [ho] at ho'; cases ho'
    exact ⟨_, es', ep', hL, r'⟩) hok hg
theorem Inv.turned {t' : Nat} {it : Addr} (I : Inv X pins σ H s) (k : ∀ b o, b ≠ it → s.heap.get? b = some o → h'.get? b = some o) (hn : H it = none) (hL : it ≠ X.env.locals)
    (h1 : it ∈ X.ex ∨ X.s₀.heap.objs.size ≤ it) (h2 : ∀ x c, X.env.cells.lookup x = some c → c ≠ it) (h3 : ∀ p ∈ X.pn ++ pins, p.1 ≠ it) : Inv X pins σ H { s with heap := h', toks := t' } := by
  have nit : ∀ b u, H b = some u → b ≠ it := fun b u e z => by rw [z, hn] at e; cases e
  refine I.step (g' := s.gens) (d' := s.drawn) (ch := [it]) (fun b hb => ?_) (fun b o _ _ hc e _ => k b o (fun z => hc (by simp [z])) e) (fun b o _ _ hc e _ => ⟨o.slots, k b o (fun z => hc (by simp [z])) e⟩) (fun _ _ _ _ n => n)
    (fun b o hc e => ⟨o, k b o (fun z => hc (by simp [z])) e⟩) (fun _ _ e => e) (fun _ _ _ e => e) (fun b ps e => ⟨#[], by rw [e]; simp⟩) (fun m hm => ?_) (fun b u e => ?_) I.bare
  · have e : b = it := by simpa using hb
    subst e
    exact ⟨h1, hL, h2, h3⟩
  · obtain ⟨o, es, ep, ho, r⟩ := hm
    exact ⟨o, es, ep, k _ o (Ne.symm hL) ho, r⟩
  · refine (I.hok b u e).stay (fun c v hc q => k c v ?_ q) (fun _ q => q) fun _ _ q => q
    rcases hc with z | z
    · rw [z]; exact nit b u e
    · exact nit c _ z
theorem Inv.tok (I : Inv X pins σ H s) (t : Nat) : Inv X pins σ H { s with toks := t } := I.un (h' := s.heap) (t' := t) Un.refl I.hok
theorem Inv.kept {t' : Nat} (I : Inv X pins σ H s) (k : ∀ b u, s.heap.get? b = some u → h'.get? b = some u) : Inv X pins σ H { s with heap := h', toks := t' } := I.un (Un.kept k) (I.hok.kept k)
theorem Inv.laid {a : Addr} {o : HO} {t' : Nat} (I : Inv X pins σ H s) (k : ∀ b u, s.heap.get? b = some u → h'.get? b = some u) (hp : s.heap.objs.size ≤ a) (new : ObjOk X.prog X.w (upd H a o) h' a o) :
    Inv X pins σ (upd H a o) { s with heap := h', toks := t' } := I.un (Un.laid k hp (I.hok.fresh hp)) (I.hok.laid k hp new)
theorem Inv.write {x e : Addr} {o : HO} {t' : Nat} (I : Inv X pins σ H s) (mu : Mut (H x)) (he : e = x ∨ H e = some (.own x)) (k : ∀ b u, b ≠ e → s.heap.get? b = some u → h'.get? b = some u) (heo : ∃ u, h'.get? e = some u)
    (new : ObjOk X.prog X.w (upd H x o) h' x o) : Inv X pins σ (upd H x o) { s with heap := h', toks := t' } := I.un (Un.write mu he k heo) (I.hok.write mu he k heo new)
theorem Inv.pins_of {pins' : List (Addr × Obj)} (I : Inv X pins σ H s) (h : ∀ p ∈ pins', s.heap.get? p.1 = some p.2 ∧ H p.1 = none ∧ p.1 ≠ X.env.locals ∧ p.1 ∉ X.fs ∧ ∀ v, p.2.data ≠ .cell v) : Inv X pins' σ H s :=
  ⟨I.ok, I.os, I.bare, I.base, I.loc, I.cell, I.free, I.freeC, fun p hp => (List.mem_append.mp hp).elim (fun z => I.pin p (List.mem_append_left _ z)) (h p), I.hok, I.len⟩
theorem nodup_ix {N : List Str} (hN : N.Nodup) {i j : Nat} {x : Str} (a : N[i]? = some x) (b : N[j]? = some x) : i = j := by
  obtain ⟨h1, e1⟩ := List.getElem?_eq_some_iff.mp a
  obtain ⟨h2, e2⟩ := List.getElem?_eq_some_iff.mp b
  exact (List.getElem_inj hN).mp (e1.trans e2.symm)
theorem store_ok2 {M : Model} {A : Around} {E : Value → Shared → Prop} {i : Nat} {x : Str} {v : V} {u : Value} {Q : Unit → Shared → Prop} (I : Inv X pins σ H s) (hN : X.N.Nodup) (hi : X.N[i]? = some x) (hx : Loc X.env.scope x) (r : RelV v u)
    (h : ∀ s', Inv X pins (σ.set i (some v)) H s' → (∃ a, Heap.SameBut a s.heap s'.heap ∧ (a = X.env.locals ∨ X.env.cells.lookup x = some a)) → Q () s') (hf : X.fn x = true ∨ X.env.scope.names.lookup x = some .local := by first | exact .inl rfl | exact .inr rfl | assumption) : wpAny M A (storeName X.env x u) Q E s := by
  obtain ⟨m, hn, hl⟩ := id I.loc
  have hcls : (X.env.scope.kind == .class || (X.env.scope.kind == .module && X.env.locals != X.env.globals)) = false := by rw [I.ok.kind]; rfl
  have hiσ : i < σ.length := by rw [I.len]; exact (List.getElem?_eq_some_iff.mp hi).1
  have cne := I.cne
  have tracked : ∀ {a : Addr} {h' : Heap}, (∃ o, s.heap.get? a = some o ∧ H a = none) → Heap.SameBut a s.heap h' → HOk X.prog X.w H h' := fun {a h'} ha hs b ob e => by
    obtain ⟨_, _, hfree⟩ := ha
    refine (I.hok b ob e).stay (fun c w' hc q => (hs.2 c ?_).trans q) (fun _ q => q) fun _ _ q => q
    rintro rfl
    rcases hc with rfl | hc
    · rw [hfree] at e; cases e
    · rw [hfree] at hc; cases hc
  rcases hx with hk | hk
  · refine wpAny_storeName_local hk hn (fun h' hn' hs => ?_) hcls
    obtain ⟨oL, _, _, hoL, _⟩ := id hn
    refine h _ ⟨I.ok, I.os, I.bare, ⟨fun b o e n hb hx => ?_, fun b o e n hb hx => ?_, I.base.free, fun b o e hx => ?_, I.base.tups, I.base.frzs, I.base.tbls⟩, ⟨_, hn', fun j y v' e1 e2 e3 => ?_⟩, fun y c e => ?_, I.free, I.freeC, fun p hp => ?_, tracked ⟨oL, hoL, I.free⟩ hs, by simpa using I.len⟩ ⟨_, hs, .inl rfl⟩
    · exact (hs.2 b (Nat.ne_of_lt (Nat.lt_of_lt_of_le (Heap.lt_size e) I.ok.above))).trans (I.base.keep b o e n hb hx)
    · obtain ⟨sl, e1⟩ := I.base.slot b o e n hb hx
      exact ⟨sl, (hs.2 b (Nat.ne_of_lt (Nat.lt_of_lt_of_le (Heap.lt_size e) I.ok.above))).trans e1⟩
    · obtain ⟨o', e1⟩ := I.base.there b o e hx
      exact ⟨o', (hs.2 b (Nat.ne_of_lt (Nat.lt_of_lt_of_le (Heap.lt_size e) I.ok.above))).trans e1⟩
    · by_cases hj : j = i
      · subst hj
        rw [hi] at e1; cases e1
        rw [List.getElem?_set_self hiσ] at e2
        cases e2
        exact ⟨u, r, .inl ⟨hk, by simp⟩⟩
      · rw [List.getElem?_set_ne (Ne.symm hj)] at e2
        obtain ⟨u', r', q⟩ := hl j y v' e1 e2 e3
        refine ⟨u', r', ?_⟩
        rcases q with ⟨k, e⟩ | ⟨k, c, e, z⟩
        · refine .inl ⟨k, ?_⟩
          have : y ≠ x := fun e => hj (nodup_ix hN e1 (e ▸ hi))
          simp [this, e]
        · exact .inr ⟨k, c, e, z.sameBut hs (cne y c e)⟩
    · obtain ⟨w', z⟩ := I.cell y c e
      exact ⟨w', z.sameBut hs (cne y c e)⟩
    · obtain ⟨e, n, ne, nf, d⟩ := I.pin p hp
      exact ⟨(hs.2 p.1 ne).trans e, n, ne, nf, d⟩
  · have hfn : X.fn x = true := by
      rcases hf with z | z
      · exact z
      · rw [z] at hk; cases hk
    obtain ⟨c, hc⟩ := I.ok.has x (.inl hk)
    obtain ⟨w', z⟩ := I.cell x c hc
    refine wpAny_storeName_cell I.ok.kind hk hc z (fun h' hc' hs => ?_)
    obtain ⟨oc, hoc, hocd⟩ := id z
    refine h { s with heap := h' } ⟨I.ok, I.os, I.bare, ⟨fun b o e n hb hx => ?_, fun b o e n hb hx => ?_, I.base.free, fun b o e hx => ?_, I.base.tups, I.base.frzs, I.base.tbls⟩, ⟨m, hn.sameBut hs (Ne.symm (cne x c hc)), fun j y v' e1 e2 e3 => ?_⟩, fun y c' e => ?_, I.free, I.freeC, fun p hp => ?_, tracked ⟨oc, hoc, I.freeC x c hc⟩ hs, by simpa using I.len⟩ ⟨c, hs, .inr hc⟩
    · exact (hs.2 b (Nat.ne_of_lt (Nat.lt_of_lt_of_le (Heap.lt_size e) (I.ok.cab x c hfn hc)))).trans (I.base.keep b o e n hb hx)
    · obtain ⟨sl, e1⟩ := I.base.slot b o e n hb hx
      exact ⟨sl, (hs.2 b (Nat.ne_of_lt (Nat.lt_of_lt_of_le (Heap.lt_size e) (I.ok.cab x c hfn hc)))).trans e1⟩
    · obtain ⟨o', e1⟩ := I.base.there b o e hx
      exact ⟨o', (hs.2 b (Nat.ne_of_lt (Nat.lt_of_lt_of_le (Heap.lt_size e) (I.ok.cab x c hfn hc)))).trans e1⟩
    · by_cases hj : j = i
      · subst hj
        rw [hi] at e1; cases e1
        rw [List.getElem?_set_self hiσ] at e2
        cases e2
        exact ⟨u, r, .inr ⟨.inl hk, c, hc, hc'⟩⟩
      · rw [List.getElem?_set_ne (Ne.symm hj)] at e2
        obtain ⟨u', r', q⟩ := hl j y v' e1 e2 e3
        refine ⟨u', r', ?_⟩
        rcases q with q | ⟨k, c', e, z'⟩
        · exact .inl q
        · refine .inr ⟨k, c', e, z'.sameBut hs ?_⟩
          rintro rfl
          exact hj (nodup_ix hN e1 (I.ok.inj _ _ _ e hc ▸ hi))
    · by_cases hcc : c' = c
      · subst hcc; exact ⟨_, hc'⟩
      · obtain ⟨w2, z2⟩ := I.cell y c' e
        exact ⟨w2, z2.sameBut hs hcc⟩
    · obtain ⟨e, n, ne, nf, d⟩ := I.pin p hp
      refine ⟨(hs.2 p.1 ?_).trans e, n, ne, nf, d⟩
      intro q
      rw [q, hoc] at e
      have q' : oc = p.2 := Option.some.inj e
      exact d w' (by rw [← q']; exact hocd)
theorem store_ok {M : Model} {A : Around} {E : Value → Shared → Prop} {i : Nat} {x : Str} {v : V} {u : Value} {Q : Unit → Shared → Prop} (I : Inv X pins σ H s) (hN : X.N.Nodup) (hi : X.N[i]? = some x) (hx : Loc X.env.scope x) (r : RelV v u)
    (h : ∀ s', Inv X pins (σ.set i (some v)) H s' → Q () s') (hf : X.fn x = true ∨ X.env.scope.names.lookup x = some .local := by first | exact .inl rfl | exact .inr rfl | assumption) : wpAny M A (storeName X.env x u) Q E s :=
  store_ok2 I hN hi hx r (fun s' I' _ => h s' I') hf
theorem Inv.call' {s' : Shared} {ch : List Addr} (I : Inv X pins σ H s) (ho : s'.os = s.os) (u : Un (frs X.stack) ch H H' s.heap s'.heap) (hok : HOk X.prog X.w H' s'.heap) (hg : AllBare s'.gens)
    (hch : ∀ b ∈ ch, (b ∈ X.ex ∨ X.s₀.heap.objs.size ≤ b) ∧ b ≠ X.env.locals ∧ (∀ x c, X.env.cells.lookup x = some c → c ≠ b) ∧ ∀ p ∈ X.pn ++ pins, p.1 ≠ b) : Inv X pins σ H' s' := by
  obtain ⟨h', g', d', t', o'⟩ := s'
  have e : o' = s.os := ho
  subst e
  exact I.call (g' := g') (t' := t') (d' := d') u hok hg hch
end
abbrev XK := Value → Option Addr → Hp → Prop
abbrev St := List (Option V)
abbrev VK := V → Hp → Prop
abbrev TE := St → Hp → VK → Prop
abbrev TT := St → Hp → (Bool → Hp → Prop) → Prop
abbrev TA := St → Hp → (List V → Hp → Prop) → Prop
structure Ends where
  nx : St → Hp → Prop
  rt : VK
  bk : St → Hp → Prop := fun _ _ => False
  ct : St → Hp → Prop := fun _ _ => False
abbrev TS := Ends → St → Hp → Prop
def EP (X : Cx) (pins : List (Addr × Obj)) (σ : St) (Q : VK) (u : Value) (s' : Shared) : Prop := ∃ v H', Inv X pins σ H' s' ∧ RelV v u ∧ Q v H'
def TP (X : Cx) (pins : List (Addr × Obj)) (σ : St) (Q : Bool → Hp → Prop) (b : Bool) (s' : Shared) : Prop := ∃ H', Inv X pins σ H' s' ∧ Q b H'
def AP (X : Cx) (pins : List (Addr × Obj)) (σ : St) (Q : List V → Hp → Prop) (us : List Value) (s' : Shared) : Prop := ∃ vs H', Inv X pins σ H' s' ∧ Vals vs us ∧ Q vs H'
def SP (X : Cx) (pins : List (Addr × Obj)) (D : Ends) (f : Flow) (s' : Shared) : Prop :=
  match f with
  | .next => ∃ σ' H', Inv X pins σ' H' s' ∧ D.nx σ' H'
  | .brk => ∃ σ' H', Inv X pins σ' H' s' ∧ D.bk σ' H'
  | .cont => ∃ σ' H', Inv X pins σ' H' s' ∧ D.ct σ' H'
  | .ret u => ∃ v σ' H', Inv X pins σ' H' s' ∧ RelV v u ∧ D.rt v H'
def PE (X : Cx) (e : Expr) (t : TE) : Prop :=
  ∀ (pins : List (Addr × Obj)) (s : Shared) (σ : St) (H : Hp) (Q : VK), Inv X pins σ H s → t σ H Q → wpAny (model X.prog X.w) X.A (eval e X.env) (EP X pins σ Q) X.xe s
def PT (X : Cx) (e : Expr) (t : TT) : Prop :=
  ∀ (pins : List (Addr × Obj)) (s : Shared) (σ : St) (H : Hp) (Q : Bool → Hp → Prop), Inv X pins σ H s → t σ H Q → wpAny (model X.prog X.w) X.A (isTrue e X.env (eval e X.env)) (TP X pins σ Q) X.xe s
def PW (X : Cx) (e : Expr) (t : TT) : Prop :=
  ∀ (whole : Sem Value) (pins : List (Addr × Obj)) (s : Shared) (σ : St) (H : Hp) (Q : Bool → Hp → Prop), Inv X pins σ H s → t σ H Q → wpAny (model X.prog X.w) X.A (isTrue e X.env whole) (TP X pins σ Q) X.xe s
theorem PW.pt {X : Cx} {e : Expr} {t : TT} (h : PW X e t) : PT X e t := h _
def PA (X : Cx) (es : List Expr) (t : TA) : Prop :=
  ∀ (pos : Pos) (pins : List (Addr × Obj)) (s : Shared) (σ : St) (H : Hp) (Q : List V → Hp → Prop), Inv X pins σ H s → t σ H Q → wpAny (model X.prog X.w) X.A (spliced (backTo pos (starEach es X.env))) (AP X pins σ Q) X.xe s
def PS (X : Cx) (st : Stmt) (t : TS) : Prop :=
  ∀ (pins : List (Addr × Obj)) (s : Shared) (σ : St) (H : Hp) (D : Ends), Inv X pins σ H s → t D σ H → wpAny (model X.prog X.w) X.A (exec st X.env) (SP X pins D) X.xe s
def PSs (X : Cx) (st : List Stmt) (t : TS) : Prop :=
  ∀ (pins : List (Addr × Obj)) (s : Shared) (σ : St) (H : Hp) (D : Ends), Inv X pins σ H s → t D σ H → wpAny (model X.prog X.w) X.A (execs st X.env) (SP X pins D) X.xe s
theorem thn {α : Type} {t : Sem α} {Q Q' : α → Shared → Prop} {M : Model} {A : Around} {E : Value → Shared → Prop} {s : Shared} (h : wpAny M A t Q E s) (hQ : ∀ a s, Q a s → Q' a s) : wpAny M A t Q' E s := wpAny_mono h hQ fun _ _ x => x
end L2
namespace L2
open PySem PySem.Spec PyProof.Rows
section
variable {X : Cx}
theorem bin {a b : Expr} {ta tb : TE} (ha : PE X a ta) (hb : PE X b tb) {pins : List (Addr × Obj)} {s : Shared} {σ : St} {H : Hp} {R : V → V → Hp → Prop} (I : Inv X pins σ H s) (h : ta σ H fun x H1 => tb σ H1 fun y H2 => R x y H2)
    {α : Type} {Q : α → Shared → Prop} {f : Value → Value → Sem α}
    (hf : ∀ v u s2 x y H2, Inv X pins σ H2 s2 → RelV x v → RelV y u → R x y H2 → wpAny (model X.prog X.w) X.A (f v u) Q X.xe s2) :
    wpAny (model X.prog X.w) X.A (eval a X.env) (fun v s₁ => wpAny (model X.prog X.w) X.A (eval b X.env) (fun u s₂ => wpAny (model X.prog X.w) X.A (f v u) Q X.xe s₂) X.xe s₁) X.xe s := by
  refine thn (ha pins s σ H _ I h) fun v s1 ⟨x, H1, I1, r1, q1⟩ => ?_
  refine thn (hb pins s1 σ H1 _ I1 q1) fun u s2 ⟨y, H2, I2, r2, q2⟩ => ?_
  exact hf v u s2 x y H2 I2 r1 r2 q2
def tVar (i : Nat) : TE := fun σ H Q => ∃ v, σ[i]? = some (some v) ∧ Q v H
def tC (v : V) : TE := fun _ H Q => Q v H
theorem pe_var {i : Nat} {x : Str} {pos : Pos} (hN : X.N[i]? = some x) (hv : Vis X.env.scope x) (hd : (x == ("__debug__" : Str)) = false := by decide) (hcd : (x == ("__classdict__" : Str)) = false := by decide) : PE X (.Name x pos) (tVar i) := by
  intro pins s σ H Q I h
  obtain ⟨v, e, h⟩ := h
  obtain ⟨m, hn, hl⟩ := I.loc
  obtain ⟨u, r, l⟩ := hl i x v hN e hv
  have fin : EP X pins σ Q u s := ⟨v, H, I, r, h⟩
  rcases l with ⟨hk, hm⟩ | ⟨hk, c, hc, hcell⟩
  · exact wpAny_Name (wpAny_loadName_local I.ok.kind hk hn hm fin) hd
  · rcases hk with hk | hk
    · exact wpAny_Name (wpAny_loadName_cell I.ok.kind hk hc hcell fin) hd
    · exact wpAny_Name (wpAny_loadName_free I.ok.kind hk hc hcell fin hcd) hd
theorem pe_int {i j pos} : PE X (.Constant (.int i) j pos) (tC (.int i)) := fun _ _ _ H _ I h => wpAny_Constant_int ⟨.int i, H, I.tok _, ⟨_, rfl⟩, h⟩
theorem pe_bl {b j pos} : PE X (.Constant (.bool b) j pos) (tC (.bl b)) := fun _ _ _ H _ I h => Constant_bool ⟨.bl b, H, I, rfl, h⟩
theorem pe_non {j pos} : PE X (.Constant .none j pos) (tC .non) := fun _ _ _ H _ I h => Constant_none ⟨.non, H, I, rfl, h⟩
theorem pe_str {x j pos} : PE X (.Constant (.str x) j pos) (tC (.str x)) := fun _ _ _ H _ I h => Calls.Constant_str ⟨.str x, H, I.tok _, ⟨_, rfl⟩, h⟩
def Gl (X : Cx) (x : Str) : Prop := X.env.kindOf x = some .globalImplicit
theorem ld_glob {E : Value → Shared → Prop} {pins : List (Addr × Obj)} {s : Shared} {σ : St} {H : Hp} {x : Str} {u : Value} {pos : Pos} {Q : Value → Shared → Prop} (I : Inv X pins σ H s) (hg : Gl X x) (hm : X.mg x = some u) (h : Q u s)
    (hd : (x == ("__debug__" : Str)) = false := by decide) : wpAny (model X.prog X.w) X.A (eval (.Name x pos) X.env) Q E s :=
  Calls.Name_function_global I.ok.kind hg (Calls.loadGlobal_global (by rw [I.ok.glob]; exact I.mod.glob.keeps I.bk) hm h) hd
theorem ld_blt {E : Value → Shared → Prop} {pins : List (Addr × Obj)} {s : Shared} {σ : St} {H : Hp} {x : Str} {u : Value} {pos : Pos} {Q : Value → Shared → Prop} (I : Inv X pins σ H s) (hg : Gl X x) (hm : X.mg x = none) (hv : bootBuiltins x = some u) (h : Q u s)
    (hn : x ≠ "__name__" := by decide) (hd : (x == ("__debug__" : Str)) = false := by decide) : wpAny (model X.prog X.w) X.A (eval (.Name x pos) X.env) Q E s := by
  obtain ⟨mb, h1, h2⟩ := I.mod.blt
  exact Calls.Name_function_global I.ok.kind hg (Calls.loadGlobal_builtin (by rw [I.ok.glob]; exact I.mod.glob.keeps I.bk) hm (by rw [I.ok.blt]; exact h1.keeps I.bk) ((h2 x hn).trans hv) h) hd
theorem pe_glob {x : Str} {v : V} {u : Value} {pos : Pos} (hg : Gl X x) (hm : X.mg x = some u) (r : RelV v u) (hd : (x == ("__debug__" : Str)) = false := by decide) : PE X (.Name x pos) (tC v) :=
  fun _ _ _ H _ I h => ld_glob I hg hm ⟨v, H, I, r, h⟩ hd
theorem pe_bltn {x : Str} {v : V} {u : Value} {pos : Pos} (hg : Gl X x) (hm : X.mg x = none) (hv : bootBuiltins x = some u) (r : RelV v u) (hn : x ≠ "__name__" := by decide) (hd : (x == ("__debug__" : Str)) = false := by decide) : PE X (.Name x pos) (tC v) :=
  fun _ _ _ H _ I h => ld_blt I hg hm hv ⟨v, H, I, r, h⟩ hn hd
def t2I (ta tb : TE) (k : Int → Int → Hp → Prop) : St → Hp → Prop := fun σ H => ta σ H fun x H1 => tb σ H1 fun y H2 => ∃ i j, x = .int i ∧ y = .int j ∧ k i j H2
def tAdd (ta tb : TE) : TE := fun σ H Q => t2I ta tb (fun i j H2 => Q (.int (i + j)) H2) σ H
def tSub (ta tb : TE) : TE := fun σ H Q => t2I ta tb (fun i j H2 => Q (.int (i - j)) H2) σ H
def tMul (ta tb : TE) : TE := fun σ H Q => t2I ta tb (fun i j H2 => (-(2 ^ 64) < i ∧ i < 2 ^ 64) ∧ Q (.int (i * j)) H2) σ H
variable {a b : Expr} {ta tb : TE} {pos : Pos}
def PC (X : Cx) (op : CmpOp) (a b : Expr) (t : TE) : Prop :=
  ∀ (pins : List (Addr × Obj)) (s : Shared) (σ : St) (H : Hp) (Q : VK), Inv X pins σ H s → t σ H Q →
    wpAny (model X.prog X.w) X.A (eval a X.env) (fun v s₁ => wpAny (model X.prog X.w) X.A (eval b X.env) (fun u s₂ => wpAny (model X.prog X.w) X.A (compareOp op v u) (EP X pins σ Q) X.xe s₂) X.xe s₁) X.xe s
def tCmp (p : Int → Int → Bool) (ta tb : TE) : TE := fun σ H Q => t2I ta tb (fun i j H2 => Q (.bl (p i j)) H2) σ H
abbrev tLt : TE → TE → TE := tCmp fun i j => decide (i < j)
abbrev tLe : TE → TE → TE := tCmp fun i j => decide (i ≤ j)
abbrev tGt : TE → TE → TE := tCmp fun i j => decide (j < i)
abbrev tGe : TE → TE → TE := tCmp fun i j => decide (j ≤ i)
abbrev tEqI : TE → TE → TE := tCmp fun i j => decide (i = j)
abbrev tNeI : TE → TE → TE := tCmp fun i j => !decide (i = j)
def tIsN (ta : TE) : TE := fun σ H Q => ta σ H fun x H1 => Q (.bl (decide (x = .non))) H1
def tNotN (ta : TE) : TE := fun σ H Q => ta σ H fun x H1 => Q (.bl (!decide (x = .non))) H1
def tB (t : TE) : TT := fun σ H Q => t σ H fun x H1 => ∃ c, x = .bl c ∧ Q c H1
theorem pt_cmp {op : CmpOp} {t : TE} (h : PC X op a b t) (h1 : behindInMarks op b = false := by first | exact nobehind _ (by decide) (by decide) | rfl) : PT X (.Compare a [op] [b] pos) (tB t) := by
  intro pins s σ H Q I hw
  refine wpAny_isTrue_Compare1 (thn (h pins s σ H _ I hw) fun v s1 h1 => thn h1 fun u s2 h2 => thn h2 fun c s3 ⟨x, H1, I1, r1, q1⟩ => ?_) h1
  obtain ⟨d, rfl, q⟩ := q1
  cases r1
  exact wpAny_truthy_bool ⟨H1, I1, q⟩
theorem pt_val {e : Expr} {t : TE} (h : PE X e t) (he : ∀ whole, isTrue e X.env whole = (do let v ← whole; standAt e.pos; holding [v] (truthy v)) := by intro _; rfl) : PT X e (tB t) := by
  intro pins s σ H Q I hw
  refine isTrue_plain (thn (h pins s σ H _ I hw) fun v s1 ⟨x, H1, I1, r1, q1⟩ => ?_) (he _)
  obtain ⟨d, rfl, q⟩ := q1
  cases r1
  exact wpAny_truthy_bool ⟨H1, I1, q⟩
variable {tA tB' : TT} {rest : List Expr}
def tAnd (t u : TT) : TT := fun σ H Q => t σ H fun c H1 => if c = true then u σ H1 Q else Q false H1
def tOr (t u : TT) : TT := fun σ H Q => t σ H fun c H1 => if c = true then Q true H1 else u σ H1 Q
def tNot (t : TT) : TT := fun σ H Q => t σ H fun c H1 => Q (!c) H1
theorem pw_and1 (ha : PT X a tA) : PW X (.BoolOp .And [a] pos) tA := by
  intro wh pins s σ H Q I h
  refine isTrue_and (thn (ha pins s σ H Q I h) fun c s1 e => ?_)
  cases c with
  | true => exact isTrue_and_nil e
  | false => exact e
theorem pw_or1 (ha : PT X a tA) : PW X (.BoolOp .Or [a] pos) tA := by
  intro wh pins s σ H Q I h
  refine isTrue_or (thn (ha pins s σ H Q I h) fun c s1 e => ?_)
  cases c with
  | false => exact isTrue_or_nil e
  | true => exact e
theorem pw_and (ha : PT X a tA) (hb : PW X (.BoolOp .And (b :: rest) pos) tB') : PW X (.BoolOp .And (a :: b :: rest) pos) (tAnd tA tB') := by
  intro wh pins s σ H Q I h
  refine isTrue_and (thn (ha pins s σ H _ I h) fun c s1 ⟨H1, I1, q1⟩ => ?_)
  cases c with
  | true => exact hb wh pins s1 σ H1 Q I1 q1
  | false => exact ⟨H1, I1, q1⟩
theorem pw_or (ha : PT X a tA) (hb : PW X (.BoolOp .Or (b :: rest) pos) tB') : PW X (.BoolOp .Or (a :: b :: rest) pos) (tOr tA tB') := by
  intro wh pins s σ H Q I h
  refine isTrue_or (thn (ha pins s σ H _ I h) fun c s1 ⟨H1, I1, q1⟩ => ?_)
  cases c with
  | true => exact ⟨H1, I1, q1⟩
  | false => exact hb wh pins s1 σ H1 Q I1 q1
theorem pt_not (ha : PT X a tA) : PT X (.UnaryOp .Not a pos) (tNot tA) := by
  intro pins s σ H Q I h
  exact isTrue_not (ha pins s σ H (fun c H1 => Q (!c) H1) I h)
def tAndV (ta tb : TE) : TE := fun σ H Q => ta σ H fun x H1 => ∃ c, x = .bl c ∧ if c = true then tb σ H1 Q else Q (.bl false) H1
def tOrV (ta tb : TE) : TE := fun σ H Q => ta σ H fun x H1 => ∃ c, x = .bl c ∧ if c = true then Q (.bl true) H1 else tb σ H1 Q
def tNotV (ta : TE) : TE := fun σ H Q => ta σ H fun x H1 => ∃ c, x = .bl c ∧ Q (.bl (!c)) H1
theorem pe_one {op} {t : TE} (h : PE X a t) : PE X (.BoolOp op [a] pos) t := fun pins s σ H Q I hw => BoolOp_one (h pins s σ H Q I hw)
theorem pe_and (ha : PE X a ta) (hb : PE X (.BoolOp .And (b :: rest) pos) tb) : PE X (.BoolOp .And (a :: b :: rest) pos) (tAndV ta tb) := by
  intro pins s σ H Q I h
  refine BoolOp_and (thn (ha pins s σ H _ I h) fun v s1 ⟨x, H1, I1, r1, q1⟩ => ?_)
  obtain ⟨c, rfl, q1⟩ := q1
  cases r1
  refine wpAny_truthy_bool ?_
  cases c with
  | true => exact hb pins s1 σ H1 Q I1 q1
  | false => exact ⟨.bl false, H1, I1, rfl, q1⟩
theorem pe_or (ha : PE X a ta) (hb : PE X (.BoolOp .Or (b :: rest) pos) tb) : PE X (.BoolOp .Or (a :: b :: rest) pos) (tOrV ta tb) := by
  intro pins s σ H Q I h
  refine BoolOp_or (thn (ha pins s σ H _ I h) fun v s1 ⟨x, H1, I1, r1, q1⟩ => ?_)
  obtain ⟨c, rfl, q1⟩ := q1
  cases r1
  refine wpAny_truthy_bool ?_
  cases c with
  | false => exact hb pins s1 σ H1 Q I1 q1
  | true => exact ⟨.bl true, H1, I1, rfl, q1⟩
theorem pe_not (ha : PE X a ta) : PE X (.UnaryOp .Not a pos) (tNotV ta) := by
  intro pins s σ H Q I h
  refine UnaryOp_ (thn (ha pins s σ H _ I h) fun v s1 ⟨x, H1, I1, r1, q1⟩ => ?_)
  obtain ⟨c, rfl, q1⟩ := q1
  cases r1
  exact not_of (wpAny_truthy_bool ⟨.bl (!c), H1, I1, rfl, q1⟩)
def tIf (t : TT) (ta tb : TE) : TE := fun σ H Q => t σ H fun c H1 => if c = true then ta σ H1 Q else tb σ H1 Q
theorem pe_ifExp {c : Expr} (hc : PT X c tA) (ha : PE X a ta) (hb : PE X b tb) : PE X (.IfExp c a b pos) (tIf tA ta tb) := by
  intro pins s σ H Q I h
  refine wpAny_IfExp (thn (hc pins s σ H _ I h) fun d s1 ⟨H1, I1, q1⟩ => ?_)
  cases d with
  | true => exact ha pins s1 σ H1 Q I1 q1
  | false => exact hb pins s1 σ H1 Q I1 q1
end
end L2
namespace L2
open PySem PySem.Spec PyProof.Rows
def SqL (K : PySem.W.Frag) (H : Hp) (a : Addr) (xs : List V) : Prop :=
  Rd H a (.lst xs) ∨
    ∃ (o : Obj) (its : Array Value) (n : Nat), K.lookup a = some o ∧ o.cls = .type "list" ∧ o.dict = none ∧ o.data = .seq its n ∧ its.size ≤ sizeLine ∧ Vals xs its.toList
def SqT (K : PySem.W.Frag) (H : Hp) (a : Addr) (xs : List V) : Prop :=
  Rd H a (.tup xs) ∨
    ∃ (o : Obj) (its : Array Value) (n : Nat), K.lookup a = some o ∧ o.cls = .type "tuple" ∧ o.data = .seq its n ∧ its.size ≤ sizeLine ∧ Vals xs its.toList
def absV : Value → Option V
  | .none => some .non
  | .bool b => some (.bl b)
  | .int i _ => some (.int i)
  | .str x _ => some (.str x)
  | .bytes b _ => some (.byt b)
  | .float b _ => some (.flt b)
  | .ref a => some (.ref a)
  | .type n => some (.ty n)
  | _ => none
theorem RelV.abs {x : V} {u : Value} (r : RelV x u) : absV u = some x := by
  cases x with
  | non => cases r; rfl
  | bl _ => cases r; rfl
  | int _ => obtain ⟨t, rfl⟩ := r; rfl
  | str _ => obtain ⟨t, rfl⟩ := r; rfl
  | byt _ => obtain ⟨t, rfl⟩ := r; rfl
  | flt _ => obtain ⟨t, rfl⟩ := r; rfl
  | ref _ => cases r; rfl
  | ty _ => cases r; rfl
theorem RelV.inj {x y : V} {u : Value} (r : RelV x u) (q : RelV y u) : x = y := Option.some.inj (r.abs.symm.trans q.abs)
theorem Vals.inj : ∀ {xs ys : List V} {us : List Value}, Vals xs us → Vals ys us → xs = ys
  | _, _, _, .nil, .nil => rfl
  | _, _, _, .cons r t, .cons r' t' => by rw [r.inj r', Vals.inj t t']
section
variable {X : Cx} {pins : List (Addr × Obj)} {σ : St} {H : Hp} {s : Shared} {a : Addr} {xs ys : List V}
theorem SqL.of {K : PySem.W.Frag} (h : H a = some (.lst xs)) : SqL K H a xs := .inl (.inl h)
theorem SqT.of {K : PySem.W.Frag} (h : H a = some (.tup xs)) : SqT K H a xs := .inl (.inl h)
theorem Inv.list (I : Inv X pins σ H s) (h : SqL X.K H a xs) : ∃ its : List Value, Vals xs its ∧ PlainL s.heap a its.toArray ∧ xs.length ≤ sizeLine := by
  rcases h with h | ⟨o, its, n, hk, hc, hd, hs, hz, r⟩
  · obtain ⟨z, its, n, r, e⟩ := h.ok I.hok
    exact ⟨its, r, ⟨_, n, e, rfl, rfl, rfl⟩, z⟩
  · refine ⟨its.toList, r, ⟨o, n, I.kIn a o hk, hc, hd, by simpa using hs⟩, ?_⟩
    have e := r.length
    simp only [Array.length_toList] at e
    omega
theorem Inv.tuple (I : Inv X pins σ H s) (h : SqT X.K H a xs) : ∃ its : List Value, Vals xs its ∧ IsTup s.heap a its.toArray ∧ xs.length ≤ sizeLine := by
  rcases h with h | ⟨o, its, n, hk, hc, hs, hz, r⟩
  · obtain ⟨z, its, r, p⟩ := h.ok I.hok
    exact ⟨its, r, p, z⟩
  · refine ⟨its.toList, r, ⟨o, I.kIn a o hk, hc, n, by simpa using hs⟩, ?_⟩
    have e := r.length
    simp only [Array.length_toList] at e
    omega
theorem Inv.list_inj (I : Inv X pins σ H s) (h : SqL X.K H a xs) (h' : SqL X.K H a ys) : xs = ys := by
  obtain ⟨its, r, ⟨o, n, e, _, _, d⟩, _⟩ := I.list h
  obtain ⟨its', r', ⟨o', n', e', _, _, d'⟩, _⟩ := I.list h'
  rw [e] at e'; cases e'
  rw [d] at d'
  injection d' with d1 _
  have : its = its' := by simpa using congrArg Array.toList d1
  subst this
  exact r.inj r'
end
abbrev Cx.wish (X : Cx) (E : Value → Shared → Prop) : Cx := { X with xe := E }
abbrev Cx.nox (X : Cx) : Cx := X.wish fun _ _ => False
theorem Cx.Ok.wish {X : Cx} (ok : X.Ok) (E : Value → Shared → Prop) : (X.wish E).Ok :=
  ⟨ok.mod, ok.kind, ok.glob, ok.blt, ok.above, ok.inj, ok.has, ok.cab, ok.hd, ok.frames, ok.stk, ok.exf, ok.bs, ok.bsz, ok.noex, ok.exfs, ok.funs, ok.frf⟩
theorem Cx.Ok.unwish {X : Cx} {E : Value → Shared → Prop} (ok : (X.wish E).Ok) : X.Ok :=
  ⟨ok.mod, ok.kind, ok.glob, ok.blt, ok.above, ok.inj, ok.has, ok.cab, ok.hd, ok.frames, ok.stk, ok.exf, ok.bs, ok.bsz, ok.noex, ok.exfs, ok.funs, ok.frf⟩
section
variable {X : Cx} {pins : List (Addr × Obj)} {σ : St} {H : Hp} {s : Shared} {E : Value → Shared → Prop}
theorem Inv.wish (I : Inv X pins σ H s) (E : Value → Shared → Prop) : Inv (X.wish E) pins σ H s := ⟨I.ok.wish E, I.os, I.bare, I.base, I.loc, I.cell, I.free, I.freeC, I.pin, I.hok, I.len⟩
theorem Inv.unwish (I : Inv (X.wish E) pins σ H s) : Inv X pins σ H s := ⟨I.ok.unwish, I.os, I.bare, I.base, I.loc, I.cell, I.free, I.freeC, I.pin, I.hok, I.len⟩
theorem SP.unwish {D : Ends} {f : Flow} {s' : Shared} (h : SP (X.wish E) pins D f s') : SP X pins D f s' := by
  cases f with
  | next => obtain ⟨σ', H', I, q⟩ := h; exact ⟨σ', H', I.unwish, q⟩
  | brk => obtain ⟨σ', H', I, q⟩ := h; exact ⟨σ', H', I.unwish, q⟩
  | cont => obtain ⟨σ', H', I, q⟩ := h; exact ⟨σ', H', I.unwish, q⟩
  | ret u => obtain ⟨v, σ', H', I, r, q⟩ := h; exact ⟨v, σ', H', I.unwish, r, q⟩
theorem PE.nox {e : Expr} {t : TE} (h : PE X.nox e t) : PE X e t := fun pins s σ H Q I hw =>
  wpAny_mono (h pins s σ H Q (I.wish _) hw) (fun _ _ ⟨v, H', I', r, q⟩ => ⟨v, H', I'.unwish, r, q⟩) fun _ _ z => False.elim z
theorem PSs.nox {st : List Stmt} {t : TS} (h : PSs X.nox st t) : PSs X st t := fun pins s σ H D I hw =>
  wpAny_mono (h pins s σ H D (I.wish _) hw) (fun _ _ q => q.unwish) fun _ _ z => False.elim z
end
section
variable {X : Cx} {st : Stmt} {rest : List Stmt} {t u : TS} {e : Expr} {te : TE} {pos : Pos}
def tNext : TS := fun D σ H => D.nx σ H
def tSeq (t u : TS) : TS := fun D σ H => t { D with nx := u D } σ H
theorem pss_nil : PSs X [] tNext := fun _ _ σ H _ I h => wpAny_execs_nil ⟨σ, H, I, h⟩
theorem pss_cons (h1 : PS X st t) (h2 : PSs X rest u) : PSs X (st :: rest) (tSeq t u) := by
  intro pins s σ H D I h
  refine wpAny_execs_cons (thn (h1 pins s σ H { D with nx := u D } I h) fun f s1 q => ?_)
  cases f with
  | next =>
    obtain ⟨σ', H', I', q⟩ := q
    exact h2 pins s1 σ' H' D I' q
  | ret v => exact q
  | brk => exact q
  | cont => exact q
theorem pss_one (h1 : PS X st t) : PSs X [st] t := by
  intro pins s σ H D I h
  refine wpAny_execs_cons (thn (h1 pins s σ H D I h) fun f s1 q => ?_)
  cases f with
  | next => exact wpAny_execs_nil q
  | ret v => exact q
  | brk => exact q
  | cont => exact q
def tBreak : TS := fun D σ H => D.bk σ H
def tCont : TS := fun D σ H => D.ct σ H
theorem Inv.quiet {pins : List (Addr × Obj)} {σ : St} {H : Hp} {s : Shared} (I : Inv X pins σ H s) : interactive X.env = false := by simp [interactive, I.ok.kind]
def tDrop (te : TE) : TS := fun D σ H => te σ H fun _ H1 => D.nx σ H1
theorem ps_expr (he : PE X e te) (hs : swapsWith e none pos.line X.env = pure false := by rfl) : PS X (.Expr e pos) (tDrop te) := by
  intro pins s σ H D I h
  exact wpAny_Expr_any (thn (he pins s σ H _ I h) fun v s1 ⟨x, H1, I1, r1, q1⟩ => ⟨σ, H1, I1, q1⟩) I.quiet hs
def tRet (te : TE) : TS := fun D σ H => te σ H D.rt
theorem ps_ret (he : PE X e te) : PS X (.Return (some e) pos) (tRet te) := by
  intro pins s σ H D I h
  exact wpAny_Return_some (thn (he pins s σ H _ I h) fun v s1 ⟨x, H1, I1, r1, q1⟩ => ⟨x, σ, H1, I1, r1, q1⟩)
def tRetN : TS := fun D _ H => D.rt .non H
def tIfS (c : TT) (t u : TS) : TS := fun D σ H => c σ H fun b H1 => if b = true then t D σ H1 else u D σ H1
theorem ps_if {c : Expr} {a b : List Stmt} {tc : TT} (hc : PT X c tc) (ha : PSs X a t) (hb : PSs X b u) : PS X (.If c a b pos) (tIfS tc t u) := by
  intro pins s σ H D I h
  refine wpAny_If (thn (hc pins s σ H _ I h) fun d s1 ⟨H1, I1, q1⟩ => ?_)
  cases d with
  | true => exact ha pins s1 σ H1 D I1 q1
  | false => exact hb pins s1 σ H1 D I1 q1
def tNever : TS := fun _ _ _ => False
theorem ps_never : PS X st tNever := fun _ _ _ _ _ _ h => h.elim
theorem pss_never {sts : List Stmt} : PSs X sts tNever := fun _ _ _ _ _ _ h => h.elim
end
abbrev TG := V → St → Hp → (St → Hp → Prop) → Prop
abbrev TGs := List V → St → Hp → (St → Hp → Prop) → Prop
def PG (X : Cx) (target : Expr) (t : TG) : Prop :=
  ∀ (pins : List (Addr × Obj)) (s : Shared) (σ : St) (H : Hp) (v : V) (u : Value) (Q : St → Hp → Prop), Inv X pins σ H s → RelV v u → t v σ H Q →
    wpAny (model X.prog X.w) X.A (assign target X.env u) (fun _ s' => ∃ σ' H', Inv X pins σ' H' s' ∧ Q σ' H') X.xe s
def PGs (X : Cx) (ts : List Expr) (t : TGs) : Prop :=
  ∀ (pins : List (Addr × Obj)) (s : Shared) (σ : St) (H : Hp) (vs : List V) (us : List Value) (Q : St → Hp → Prop), Inv X pins σ H s → Vals vs us → t vs σ H Q →
    wpAny (model X.prog X.w) X.A (assignInOrder ((assignEach ts X.env).map (·.2)) us) (fun _ s' => ∃ σ' H', Inv X pins σ' H' s' ∧ Q σ' H') X.xe s
abbrev TSet := V → V → V → Hp → (Hp → Prop) → Prop
def PSet (X : Cx) (t : TSet) : Prop :=
  ∀ (pins : List (Addr × Obj)) (s : Shared) (σ : St) (H : Hp) (o i v : V) (ov iv u : Value) (Q : Hp → Prop), Inv X pins σ H s → RelV o ov → RelV i iv → RelV v u → t o i v H Q →
    wpAny (model X.prog X.w) X.A (setItem ov iv u) (fun _ s' => ∃ H', Inv X pins σ H' s' ∧ Q H') X.xe s
abbrev TIp := V → V → Hp → VK → Prop
def PIp (X : Cx) (op : Operator) (t : TIp) : Prop :=
  ∀ (pins : List (Addr × Obj)) (s : Shared) (σ : St) (H : Hp) (x y : V) (v u : Value) (Q : VK), Inv X pins σ H s → RelV x v → RelV y u → t x y H Q →
    wpAny (model X.prog X.w) X.A (inplaceOp op v u) (EP X pins σ Q) X.xe s
section
variable {X : Cx} {pos : Pos}
def gName (i : Nat) : TG := fun v σ H Q => Q (σ.set i (some v)) H
theorem pg_name {i : Nat} {x : Str} (hN : X.N.Nodup) (hi : X.N[i]? = some x) (hx : Loc X.env.scope x) (hf : X.fn x = true ∨ X.env.scope.names.lookup x = some .local := by first | exact .inl rfl | exact .inr rfl | assumption) : PG X (.Name x pos) (gName i) := by
  intro pins s σ H v u Q I r h
  exact wpAny_assign_Name (store_ok I hN hi hx r (fun s' I' => ⟨_, H, I', h⟩) hf)
def gNil : TGs := fun vs σ H Q => vs = [] ∧ Q σ H
def gCons (t : TG) (u : TGs) : TGs := fun vs σ H Q => ∃ v r, vs = v :: r ∧ t v σ H fun σ' H' => u r σ' H' Q
theorem pgs_nil : PGs X [] gNil := by
  intro pins s σ H vs us Q I r h
  obtain ⟨e, h⟩ := h
  subst e
  cases r
  exact assignInOrder_nil ⟨σ, H, I, h⟩
theorem pgs_cons {e : Expr} {es : List Expr} {t : TG} {u : TGs} (h1 : PG X e t) (h2 : PGs X es u)
    (hs : (assignEach (e :: es) X.env).map (·.2) = assign e X.env :: (assignEach es X.env).map (·.2) := by rfl) : PGs X (e :: es) (gCons t u) := by
  intro pins s σ H vs us Q I r h
  obtain ⟨v, vr, e1, h⟩ := h
  subst e1
  cases r with
  | cons r rr =>
    rw [hs]
    refine assignInOrder_cons (thn (h1 pins s σ H _ _ _ I r h) fun _ s1 ⟨σ1, H1, I1, q1⟩ => ?_)
    exact h2 pins s1 σ1 H1 _ _ Q I1 rr q1
def gTup (K : PySem.W.Frag) (n : Nat) (t : TGs) : TG := fun v σ H Q => ∃ a xs, v = .ref a ∧ SqT K H a xs ∧ xs.length = n ∧ t xs σ H Q
theorem pg_tup {es : List Expr} {k : Nat} {t : TGs} {n : Nat} (hc : X.calm = true) (h : PGs X es t)
    (hn : (assignEach es X.env).length = n := by rfl) (hst : (assignEach es X.env).findIdx? (·.1) = none := by rfl) : PG X (.Tuple es k pos) (gTup X.K n t) := by
  intro pins s σ H v u Q I r hw
  obtain ⟨a, xs, e1, hq, hl, hw⟩ := hw
  subst e1
  cases r
  obtain ⟨its, rv, ht, hz⟩ := I.tuple hq
  refine assign_Tuple_tuple (I.ok.hd hc) ht (by simp [hn, ← hl, rv.length]) hst fun h' hx => ?_
  have I1 : Inv X pins σ H { s with heap := h' } := I.kept (t' := s.toks) fun b o e => hx b o (Nat.ne_of_lt (Heap.lt_size e)) e
  exact h pins _ σ H xs _ Q I1 (by simpa using rv) hw
def gSub (to ti : TE) (t : TSet) : TG := fun v σ H Q => to σ H fun o H1 => ti σ H1 fun i H2 => t o i v H2 fun H3 => Q σ H3
def tAsg (te : TE) (g : TG) : TS := fun D σ H => te σ H fun x H1 => g x σ H1 D.nx
theorem ps_set {i : Nat} {x : Str} {e : Expr} {te : TE} {pos' : Pos} (hN : X.N.Nodup) (hi : X.N[i]? = some x) (hx : Loc X.env.scope x) (he : PE X e te) (hs : swapsWith e (some (.Name x pos')) pos.line X.env = pure false := by rfl) (hf : X.fn x = true ∨ X.env.scope.names.lookup x = some .local := by first | exact .inl rfl | exact .inr rfl | assumption) :
    PS X (.Assign [.Name x pos'] e pos) (tAsg te (gName i)) := by
  intro pins s σ H D I h
  refine wpAny_Assign_Name (thn (he pins s σ H _ I h) fun v s1 ⟨y, H1, I1, r1, q1⟩ => ?_) hs
  exact store_ok I1 hN hi hx r1 (fun s2 I2 => ⟨_, H1, I2, q1⟩) hf
def tPar (i j : Nat) (ta : TA) : TS := fun D σ H => ta σ H fun vs H1 => ∃ v w, vs = [v, w] ∧ D.nx ((σ.set i (some v)).set j (some w)) H1
def tAug (i : Nat) (te : TE) (ti : TIp) : TS := fun D σ H => ∃ x, σ[i]? = some (some x) ∧ te σ H fun y H1 => ti x y H1 fun z H2 => D.nx (σ.set i (some z)) H2
def tAugS (to ti te : TE) (tget : V → V → Hp → VK → Prop) (tip : TIp) (tset : TSet) : TS := fun D σ H => to σ H fun o H1 => ti σ H1 fun i H2 => tget o i H2 fun x H3 => te σ H3 fun y H4 => tip x y H4 fun z H5 => tset o i z H5 fun H6 => D.nx σ H6
def PGet (X : Cx) (t : V → V → Hp → VK → Prop) : Prop :=
  ∀ (pins : List (Addr × Obj)) (s : Shared) (σ : St) (H : Hp) (o i : V) (ov iv : Value) (Q : VK), Inv X pins σ H s → RelV o ov → RelV i iv → t o i H Q →
    wpAny (model X.prog X.w) X.A (getItem ov iv) (EP X pins σ Q) X.xe s
def ipI (f : Int → Int → Int) : TIp := fun x y H Q => ∃ i j, x = .int i ∧ y = .int j ∧ Q (.int (f i j)) H
end
section
variable {X : Cx} {pos : Pos}
def tWhile (c : TT) (tb : TS) : TS := fun D σ H => ∃ W : Nat → St → Hp → Prop, (∃ m, W m σ H) ∧ ∀ m σ H, W m σ H →
  c σ H fun b H1 => if b = true then ∃ N : St → Hp → Prop, (∀ σ' H', N σ' H' → ∃ m', m' < m ∧ W m' σ' H') ∧ tb { D with nx := N, ct := N, bk := D.nx } σ H1 else D.nx σ H1
end
structure It where
  go : Nat → Hp → Prop
  yld : Nat → Hp → V → Hp → Prop
  stop : Nat → Hp → Prop
def FpOk (X : Cx) (pins : List (Addr × Obj)) (H : Hp) (b : Addr) : Prop :=
  H b = none ∧ b ≠ X.env.locals ∧ b ∉ X.fs ∧ (b ∈ X.ex ∨ X.s₀.heap.objs.size ≤ b) ∧ (∀ x c, X.env.cells.lookup x = some c → c ≠ b) ∧ ∀ p ∈ X.pn ++ pins, p.1 ≠ b
theorem Inv.fpOk {X : Cx} {pins : List (Addr × Obj)} {σ : St} {H H' : Hp} {s : Shared} {b : Addr} (I : Inv X pins σ H s) (hb : s.heap.objs.size ≤ b) (hn : H' b = none) : FpOk X pins H' b := by
  refine ⟨hn, Nat.ne_of_gt (Nat.lt_of_lt_of_le I.lt hb), I.nofs hb, .inr (Nat.le_trans I.sz hb), fun x c e z => ?_, fun p hp z => ?_⟩
  · obtain ⟨v, q⟩ := I.cell x c e
    exact absurd (Nat.lt_of_lt_of_le q.lt (by rw [z]; exact hb)) (Nat.lt_irrefl _)
  · exact absurd (Nat.lt_of_lt_of_le (Heap.lt_size (I.pin p hp).1) (by rw [z]; exact hb)) (Nat.lt_irrefl _)
structure Turn (P : Program) (w : World) (K : PySem.W.Frag) (tg : Expr) (J : It) (fp : List Addr) (it : Addr) (tn : Nat → Heap → Prop) : Prop where
  mem : it ∈ fp
  obj : ∀ i h, tn i h → ∀ b ∈ fp, ∃ o, h.get? b = some o ∧ ∀ v, o.data ≠ .cell v
  keep : ∀ i h h', tn i h → (∀ b ∈ fp, ∀ o, h.get? b = some o → h'.get? b = some o) → tn i h'
  item : ∀ (X : Cx), X.prog = P → X.w = w → X.K = K → X.calm = true → ∀ (i : Nat) (pins : List (Addr × Obj)) (s : Shared) (σ : St) (H : Hp) (E : Value → Shared → Prop), Inv X pins σ H s → (∀ b ∈ fp, FpOk X pins H b) → tn i s.heap → J.go i H →
    wpAny (model P w) X.A (pyNext (.ref it)) (fun r s1 => ∃ u, r = some u ∧
      wpAny (model P w) X.A (letOwnedTupleGo tg (.ref it) u) (fun _ s2 => ∃ x H', Inv X pins σ H' s2 ∧ RelV x u ∧ J.yld i H x H' ∧ tn (i + 1) s2.heap ∧ ∀ b ∈ fp, H' b = none) E s1) E s
  done : ∀ (X : Cx), X.prog = P → X.w = w → X.K = K → X.calm = true → ∀ (i : Nat) (pins : List (Addr × Obj)) (s : Shared) (σ : St) (H : Hp) (E : Value → Shared → Prop), Inv X pins σ H s → (∀ b ∈ fp, FpOk X pins H b) → tn i s.heap → J.stop i H →
    wpAny (model P w) X.A (pyNext (.ref it)) (fun r s1 => r = none ∧ Inv X pins σ H s1) E s
  self : ∀ (A : Around) (i : Nat) (s : Shared) (Q : Value → Shared → Prop) (E : Value → Shared → Prop), tn i s.heap → Q (.ref it) s → wpAny (model P w) A (pyIter (.ref it)) Q E s
abbrev TI := St → Hp → (It → Hp → Prop) → Prop
def PIE (X : Cx) (pins : List (Addr × Obj)) (σ : St) (tg : Expr) (R : It → Hp → Prop) (itv : Value) (s2 : Shared) : Prop :=
  ∃ (it : Addr) (fp : List Addr) (tn : Nat → Heap → Prop) (J : It) (H' : Hp), itv = .ref it ∧ Inv X pins σ H' s2 ∧ Turn X.prog X.w X.K tg J fp it tn ∧ tn 0 s2.heap ∧ (∀ b ∈ fp, FpOk X pins H' b) ∧ R J H'
def PI (X : Cx) (tg iter : Expr) (wi : TI) : Prop :=
  ∀ (pins : List (Addr × Obj)) (s : Shared) (σ : St) (H : Hp) (R : It → Hp → Prop), Inv X pins σ H s → wi σ H R →
    wpAny (model X.prog X.w) X.A (eval iter X.env) (fun v s1 => wpAny (model X.prog X.w) X.A (pyIter v) (PIE X pins σ tg R) X.xe s1) X.xe s
theorem go_of {M : Model} {A : Around} {E : Value → Shared → Prop} {s : Shared} {tg : Expr} {it : Addr} {u : Value} {o : Obj} {n : String} {vs : Array Value} {Q : Unit → Shared → Prop} (ho : s.heap.get? it = some o) (hc : o.cls = .type n) (hd : o.data = .fields vs)
    (hn : ["enumerate", "zip", "dict_itemiterator", "dict_reverseitemiterator", "odict_iterator", "itertools.zip_longest", "itertools.pairwise"].contains n = false) (hQ : Q () s) : wpAny M A (letOwnedTupleGo tg (.ref it) u) Q E s := by
  unfold letOwnedTupleGo
  cases tg <;> first
    | exact wpAny_pure hQ
    | (cases u <;> first
        | exact wpAny_pure hQ
        | (refine wpAny_bind (wpAny_load ho ?_)
           rw [hc, hd]
           show wpAny M A (if (["enumerate", "zip", "dict_itemiterator", "dict_reverseitemiterator", "odict_iterator", "itertools.zip_longest", "itertools.pairwise"].contains n && vs[0]? == some (rawInt _)) = true then _ else _) Q E s
           rw [if_neg (by intro h; rw [hn, Bool.false_and] at h; cases h)]
           exact wpAny_pure hQ))
def Itl (K : PySem.W.Frag) (a : Addr) : It :=
  ⟨fun i H => ∃ xs x, SqL K H a xs ∧ xs[i]? = some x, fun i H x H' => H' = H ∧ ∀ xs, SqL K H a xs → xs[i]? = some x, fun i H => ∃ xs, SqL K H a xs ∧ xs.length ≤ i⟩
def Itt (K : PySem.W.Frag) (a : Addr) : It :=
  ⟨fun i H => ∃ xs x, SqT K H a xs ∧ xs[i]? = some x, fun i H x H' => H' = H ∧ ∀ xs, SqT K H a xs → xs[i]? = some x, fun i H => ∃ xs, SqT K H a xs ∧ xs.length ≤ i⟩
def Itr (lo : Int) (n : Nat) : It := ⟨fun i _ => i < n, fun i H x H' => H' = H ∧ x = .int (lo + i), fun i _ => n ≤ i⟩
theorem turn_list {P : Program} {w : World} {K : PySem.W.Frag} {tg : Expr} (a it : Addr) : Turn P w K tg (Itl K a) [it] it (fun i h => h.IsListIter it a i) where
  mem := by simp
  obj := fun i h st b hb => by
    have e : b = it := by simpa using hb
    subst e
    obtain ⟨o, e, c, d⟩ := st
    exact ⟨o, e, fun v z => by rw [d] at z; cases z⟩
  keep := fun i h h' st k => st.at fun o e => k it (by simp) o e
  item := by
    intro X hP hw hK hc i pins s σ H E I hf st hg
    subst hP hw hK
    obtain ⟨xs, x, hq, hx⟩ := hg
    obtain ⟨its, rv, p, hz⟩ := I.list hq
    obtain ⟨u, hu, ru⟩ := rv.get hx
    obtain ⟨f0, f1, f2, f3, f4, f5⟩ := hf it (by simp)
    refine wpAny_pyNext_list_item st p.isList (x := u) (by simpa using hu) fun h' st' sb => ?_
    have I1 : Inv X pins σ H { s with heap := h' } := I.turned (t' := s.toks) (fun b o hb e => (sb.2 b hb).trans e) f0 f1 f3 f4 f5
    obtain ⟨o, e, c, d⟩ := id st'
    exact ⟨u, rfl, go_of (s := { s with heap := h' }) e c d (by decide) ⟨x, H, I1, ru, ⟨rfl, fun ys hy => by rw [I.list_inj hy hq]; exact hx⟩, st', fun b hb => (hf b hb).1⟩⟩
  done := by
    intro X hP hw hK hc i pins s σ H E I hf st hg
    subst hP hw hK
    obtain ⟨xs, hq, hx⟩ := hg
    obtain ⟨its, rv, p, hz⟩ := I.list hq
    obtain ⟨f0, f1, f2, f3, f4, f5⟩ := hf it (by simp)
    have hl := rv.length
    exact wpAny_pyNext_list_end (I.ok.hd hc) st p.isList (by simp; omega) fun h' eb => ⟨rfl, I.turned (t' := s.toks) (fun b o hb e => eb b o hb e) f0 f1 f3 f4 f5⟩
  self := fun _ _ _ _ _ st h => wpAny_pyIter_listiter st h
theorem turn_range {P : Program} {w : World} {K : PySem.W.Frag} {tg : Expr} (it : Addr) (lo : Int) (n : Nat) : Turn P w K tg (Itr lo n) [it] it (fun i h => IsRangeIter h it (lo + (i : Nat) * 1) ((n : Int) - (i : Nat)) 1) where
  mem := by simp
  obj := fun i h st b hb => by
    have e : b = it := by simpa using hb
    subst e
    exact ⟨_, st, fun v z => by
      have z' : Data.fields _ = Data.cell v := z
      cases z'⟩
  keep := fun i h h' st k => k it (by simp) _ st
  item := by
    intro X hP hw hK hc i pins s σ H E I hf st hg
    subst hP hw hK
    obtain ⟨f0, f1, f2, f3, f4, f5⟩ := hf it (by simp)
    have W := Walks.range (prog := X.prog) (w := X.w) (I.ok.hd hc) it lo 1 n
    refine W.item i s _ _ hg st fun v h' tk hv st' kk => ?_
    obtain ⟨t, rfl⟩ := hv
    have I1 : Inv X pins σ H { s with heap := h', toks := tk } := I.turned (fun b o hb e => kk b o (by simpa using hb) e) f0 f1 f3 f4 f5
    refine ⟨_, rfl, go_of (s := { s with heap := h', toks := tk }) (n := "range_iterator") st' rfl rfl (by decide) ⟨.int (lo + i), H, I1, ⟨t, ?_⟩, ⟨rfl, rfl⟩, st', fun b hb => (hf b hb).1⟩⟩
    rw [Int.mul_one]
  done := by
    intro X hP hw hK hc i pins s σ H E I hf st hg
    subst hP hw hK
    obtain ⟨f0, f1, f2, f3, f4, f5⟩ := hf it (by simp)
    exact wpAny_pyNext_range_end (I.ok.hd hc) st (by have : n ≤ i := hg; omega) fun h' eb => ⟨rfl, I.turned (t' := s.toks) (fun b o hb e => eb b o hb e) f0 f1 f3 f4 f5⟩
  self := fun _ _ _ _ _ st h => wpAny_pyIter_rangeiter st h
end L2
namespace L2
open PySem PySem.Spec PyProof.Rows
section
variable {X : Cx} {tg : Expr}
def iList (K : PySem.W.Frag) (tl : TE) : TI := fun σ H R => tl σ H fun x H1 => ∃ a, x = .ref a ∧ (∃ xs, SqL K H1 a xs) ∧ R (Itl K a) H1
def iTup (K : PySem.W.Frag) (tl : TE) : TI := fun σ H R => tl σ H fun x H1 => ∃ a, x = .ref a ∧ (∃ xs, SqT K H1 a xs) ∧ R (Itt K a) H1
theorem pi_list {l : Expr} {tl : TE} (hl : PE X l tl) : PI X tg l (iList X.K tl) := by
  intro pins s σ H R I h
  refine thn (hl pins s σ H _ I h) fun v s1 ⟨x, H1, I1, r1, q1⟩ => ?_
  obtain ⟨a, e, ⟨xs, hq⟩, q⟩ := q1
  subst e
  cases r1
  obtain ⟨its, rv, p, hz⟩ := I1.list hq
  refine wpAny_pyIter_list p.isList ?_
  refine ⟨s1.heap.objs.size, [s1.heap.objs.size], _, _, H1, rfl, I1.kept (t' := s1.toks) fun b o e => Heap.get?_push_of_some _ e, turn_list a _, ⟨_, Heap.get?_push_size _ rfl, rfl, rfl⟩, fun b hb => ?_, q⟩
  have e : b = s1.heap.objs.size := by simpa using hb
  subst e
  exact I1.fpOk (Nat.le_refl _) (I1.hok.fresh (Nat.le_refl _))
theorem range_it {pins : List (Addr × Obj)} {σ : St} {H : Hp} {s : Shared} {R : It → Hp → Prop} {E : Value → Shared → Prop} {lo hi : Int} {t u v : Tok} {tk : Nat} (I : Inv X pins σ H s) (h1 : -(2 ^ 62) ≤ lo) (h2 : lo < 2 ^ 62) (h3 : -(2 ^ 62) ≤ hi) (h4 : hi < 2 ^ 62)
    (q : R (Itr lo (hi - lo).toNat) H) : wpAny (model X.prog X.w) X.A (pyIter (.ref s.heap.objs.size)) (PIE X pins σ tg R) E { s with heap := s.heap.push { cls := .type "range", data := .fields #[.int lo t, .int hi u, .int 1 v] }, toks := tk } := by
  refine wpAny_pyIter_range (IsRange.new ..) (small_one h1 h2 h3 h4) ?_
  have I1 : Inv X pins σ H { s with heap := s.heap.push { cls := .type "range", data := .fields #[.int lo t, .int hi u, .int 1 v] }, toks := tk } := I.kept fun b o e => Heap.get?_push_of_some _ e
  refine ⟨(s.heap.push { cls := .type "range", data := .fields #[.int lo t, .int hi u, .int 1 v] }).objs.size, [(s.heap.push { cls := .type "range", data := .fields #[.int lo t, .int hi u, .int 1 v] }).objs.size], _, _, H, rfl,
    I1.kept (t' := tk) fun b o e => Heap.get?_push_of_some _ e, turn_range _ lo (hi - lo).toNat, ?_, fun b hb => ?_, q⟩
  · have e1 : lo + ((0 : Nat) : Int) * 1 = lo := by simp
    have e2 : (((hi - lo).toNat : Nat) : Int) - ((0 : Nat) : Int) = Builtin.Range.rangeSize lo hi 1 := by rw [rangeSize_one]; split <;> omega
    show IsRangeIter _ _ (lo + ((0 : Nat) : Int) * 1) ((((hi - lo).toNat : Nat) : Int) - ((0 : Nat) : Int)) 1
    rw [e1, e2]
    exact Heap.get?_push_size _ rfl
  · have e : b = (s.heap.push { cls := .type "range", data := .fields #[.int lo t, .int hi u, .int 1 v] }).objs.size := by simpa using hb
    subst e
    exact I1.fpOk (Nat.le_refl _) (I1.hok.fresh (Nat.le_refl _))
def iRng1 (ta : TA) : TI := fun σ H R => ta σ H fun vs H1 => ∃ j : Int, vs = [.int j] ∧ -(2 ^ 62) ≤ j ∧ j < 2 ^ 62 ∧ R (Itr 0 j.toNat) H1
def iRng2 (ta : TA) : TI := fun σ H R => ta σ H fun vs H1 => ∃ i j : Int, vs = [.int i, .int j] ∧ (-(2 ^ 62) ≤ i ∧ i < 2 ^ 62 ∧ -(2 ^ 62) ≤ j ∧ j < 2 ^ 62) ∧ R (Itr i (j - i).toNat) H1
theorem pi_range1 {a : Expr} {ta : TA} {p pos : Pos} (hg : Gl X "range") (hm : X.mg "range" = none) (ha : PA X [a] ta) (hs : starEach [a] X.env = [(false, eval a X.env)] := by rfl) : PI X tg (.Call (.Name "range" p) [a] [] pos) (iRng1 ta) := by
  intro pins s σ H R I h
  refine Call_ (ld_blt I hg hm boot_range (PyProof.Rows.callWith_type1 (thn (ha pos pins s σ H _ I h) fun us s1 ⟨vs, H1, I1, r1, q1⟩ => ?_) hs rfl))
  obtain ⟨j, e, q1, q2, q⟩ := q1
  subst e
  cases r1 with
  | cons r rr =>
    cases rr
    obtain ⟨t, rfl⟩ := r
    exact call_range_1 (range_it I1 (by omega) (by omega) q1 q2 (by simpa using q))
def tFor (wi : TI) (g : TG) (tb : TS) : TS := fun D σ H => wi σ H fun J H1 => ∃ W : Nat → Nat → St → Hp → Prop, (∃ m, W 0 m σ H1) ∧ ∀ i m σ H, W i m σ H →
  (J.stop i H ∧ D.nx σ H) ∨ (J.go i H ∧ ∃ N : St → Hp → Prop, (∀ σ' H', N σ' H' → ∃ m', m' < m ∧ W (i + 1) m' σ' H') ∧ ∀ x H', J.yld i H x H' → g x σ H' fun σ2 H2 => tb { D with nx := N, ct := N, bk := D.nx } σ2 H2)
def pinsAt (fp : List Addr) (h : Heap) : List (Addr × Obj) := fp.filterMap fun b => (h.get? b).map fun o => (b, o)
theorem mem_pinsAt {fp : List Addr} {h : Heap} {b : Addr} {o : Obj} (hb : b ∈ fp) (e : h.get? b = some o) : (b, o) ∈ pinsAt fp h := List.mem_filterMap.mpr ⟨b, hb, by rw [e]; rfl⟩
theorem of_pinsAt {fp : List Addr} {h : Heap} {p : Addr × Obj} (hp : p ∈ pinsAt fp h) : p.1 ∈ fp ∧ h.get? p.1 = some p.2 := by
  obtain ⟨b, hb, e⟩ := List.mem_filterMap.mp hp
  cases q : h.get? b with
  | none => rw [q] at e; cases e
  | some o =>
    rw [q] at e
    have e' : (b, o) = p := Option.some.inj e
    subst e'
    exact ⟨hb, q⟩
theorem Inv.pinned {pins : List (Addr × Obj)} {σ : St} {H : Hp} {s : Shared} {fp : List Addr} (I : Inv X pins σ H s) (hf : ∀ b ∈ fp, FpOk X pins H b) (ho : ∀ b ∈ fp, ∃ o, s.heap.get? b = some o ∧ ∀ v, o.data ≠ .cell v) : Inv X (pins ++ pinsAt fp s.heap) σ H s :=
  I.pins_of fun p hp => (List.mem_append.mp hp).elim (fun z => I.pin p (List.mem_append_right _ z)) fun z => by
    obtain ⟨hb, e⟩ := of_pinsAt z
    obtain ⟨f0, f1, f2, _⟩ := hf p.1 hb
    obtain ⟨o, e', d⟩ := ho p.1 hb
    rw [e] at e'; cases e'
    exact ⟨e, f0, f1, f2, d⟩
theorem Inv.unpinned {pins pl : List (Addr × Obj)} {σ : St} {H : Hp} {s : Shared} (I : Inv X (pins ++ pl) σ H s) : Inv X pins σ H s := I.pins_of fun p hp => I.pin p (List.mem_append_right _ (List.mem_append_left _ hp))
theorem ps_for {iter : Expr} {body : List Stmt} {wi : TI} {g : TG} {tb : TS} {pos : Pos} (hp : PassesOwn (model X.prog X.w) X.A X.env X.xe) (hc : X.calm = true) (hi : PI X tg iter wi) (hg : PG X tg g) (hb : PSs X body tb)
    (hs : ∀ x, foldedSetIterable iter X.env x = pure x := by intro _; rfl) : PS X (.For tg iter body [] pos) (tFor wi g tb) := by
  intro pins s σ H D I h
  refine wpAny_For (thn (hi pins s σ H _ I h) fun v s1 h1 => thn h1 fun itv s2 h2 => ?_) hs
  obtain ⟨it, fp, tn, J, H2, e, I2, T, st2, f2, W, ⟨m0, w0⟩, turn⟩ := h2
  subst e
  have stat : ∀ {H' : Hp}, (∀ b ∈ fp, H' b = none) → ∀ b ∈ fp, FpOk X pins H' b := fun hn b hb => ⟨hn b hb, (f2 b hb).2⟩
  refine codeAny_forLoop_any (fun n s' => ∃ i σ' H', Inv X pins σ' H' s' ∧ tn i s'.heap ∧ (∀ b ∈ fp, H' b = none) ∧ W i n σ' H') ?_ m0 ⟨0, σ, H2, I2, st2, fun b hb => (f2 b hb).1, w0⟩
  rintro n s3 ⟨i, σ3, H3, I3, st3, fr3, w3⟩
  rcases turn i n σ3 H3 w3 with ⟨stop, qn⟩ | ⟨go, N, hN, step⟩
  · refine wpAny_passesOwn hp (thn (T.done X rfl rfl rfl hc i pins s3 σ3 H3 X.xe I3 (stat fr3) st3 stop) fun r s4 ⟨hr, I4⟩ => ?_)
    subst hr
    exact wpAny_execs_nil ⟨σ3, H3, I4, qn⟩
  · refine wpAny_passesOwn hp (thn (T.item X rfl rfl rfl hc i pins s3 σ3 H3 X.xe I3 (stat fr3) st3 go) fun r s4 ⟨u, hr, h4⟩ => ?_)
    subst hr
    refine wpAny_passesOwn hp (thn h4 fun _ s5 ⟨x, H5, I5, r5, y5, st5, fr5⟩ => ?_)
    have I5' := I5.pinned (stat fr5) (T.obj _ _ st5)
    refine wpAny_passesOwn hp (thn (hg _ s5 σ3 H5 x u _ I5' r5 (step x H5 y5)) fun _ s6 ⟨σ6, H6, I6, q6⟩ => ?_)
    refine wpAny_passesOwn hp (thn (hb _ s6 σ6 H6 _ I6 q6) fun f s7 q7 => ?_)
    have again : ∀ {σ7 : St} {H7 : Hp}, Inv X (pins ++ pinsAt fp s5.heap) σ7 H7 s7 → N σ7 H7 → ∃ m, m < n ∧ ∃ i σ' H', Inv X pins σ' H' s7 ∧ tn i s7.heap ∧ (∀ b ∈ fp, H' b = none) ∧ W i m σ' H' := fun {σ7 H7} I7 n7 => by
      obtain ⟨m', hm, w7⟩ := hN σ7 H7 n7
      refine ⟨m', hm, i + 1, σ7, H7, I7.unpinned, T.keep _ _ _ st5 fun b hb o e => (I7.pin (b, o) (List.mem_append_right _ (List.mem_append_right _ (mem_pinsAt hb e)))).1, fun b hb => ?_, w7⟩
      obtain ⟨o, e, d⟩ := T.obj _ _ st5 b hb
      exact (I7.pin (b, o) (List.mem_append_right _ (List.mem_append_right _ (mem_pinsAt hb e)))).2.1
    cases f with
    | next => obtain ⟨σ7, H7, I7, n7⟩ := q7; exact again I7 n7
    | cont => obtain ⟨σ7, H7, I7, n7⟩ := q7; exact again I7 n7
    | brk => obtain ⟨σ7, H7, I7, q7⟩ := q7; exact ⟨σ7, H7, I7.unpinned, q7⟩
    | ret v => obtain ⟨x7, σ7, H7, I7, r7, q7⟩ := q7; exact ⟨x7, σ7, H7, I7.unpinned, r7, q7⟩
end
theorem for_list {K : PySem.W.Frag} {a : Addr} {xs : List V} {g : TG} {tb : TS} {D : Ends} {σ : St} {H : Hp} (Pv : Nat → St → Hp → Prop) (h0 : Pv 0 σ H) (hl : ∀ i σ H, i ≤ xs.length → Pv i σ H → SqL K H a xs)
    (hs : ∀ i x σ H, xs[i]? = some x → Pv i σ H → g x σ H fun σ2 H2 => tb { D with nx := Pv (i + 1), ct := Pv (i + 1), bk := D.nx } σ2 H2) (hd : ∀ σ H, Pv xs.length σ H → D.nx σ H) :
    ∃ W : Nat → Nat → St → Hp → Prop, (∃ m, W 0 m σ H) ∧ ∀ i m σ H, W i m σ H →
      ((Itl K a).stop i H ∧ D.nx σ H) ∨ ((Itl K a).go i H ∧ ∃ N : St → Hp → Prop, (∀ σ' H', N σ' H' → ∃ m', m' < m ∧ W (i + 1) m' σ' H') ∧ ∀ x H', (Itl K a).yld i H x H' → g x σ H' fun σ2 H2 => tb { D with nx := N, ct := N, bk := D.nx } σ2 H2) := by
  refine ⟨fun i m σ H => m = xs.length - i ∧ i ≤ xs.length ∧ Pv i σ H, ⟨xs.length, by simp, Nat.zero_le _, h0⟩, ?_⟩
  rintro i m σ H ⟨rfl, hi, p⟩
  have q := hl i σ H hi p
  by_cases hlt : i < xs.length
  · refine .inr ⟨⟨xs, xs[i], q, by simp [hlt]⟩, Pv (i + 1), fun σ' H' p' => ⟨xs.length - (i + 1), by omega, rfl, hlt, p'⟩, fun x H' y => ?_⟩
    obtain ⟨e, y⟩ := y
    subst e
    exact hs i x σ _ (y xs q) p
  · have e : i = xs.length := by omega
    subst e
    exact .inl ⟨⟨xs, q, Nat.le_refl _⟩, hd σ H p⟩
theorem for_range {lo : Int} {n : Nat} {g : TG} {tb : TS} {D : Ends} {σ : St} {H : Hp} (Pv : Nat → St → Hp → Prop) (h0 : Pv 0 σ H)
    (hs : ∀ i σ H, i < n → Pv i σ H → g (.int (lo + i)) σ H fun σ2 H2 => tb { D with nx := Pv (i + 1), ct := Pv (i + 1), bk := D.nx } σ2 H2) (hd : ∀ σ H, Pv n σ H → D.nx σ H) :
    ∃ W : Nat → Nat → St → Hp → Prop, (∃ m, W 0 m σ H) ∧ ∀ i m σ H, W i m σ H →
      ((Itr lo n).stop i H ∧ D.nx σ H) ∨ ((Itr lo n).go i H ∧ ∃ N : St → Hp → Prop, (∀ σ' H', N σ' H' → ∃ m', m' < m ∧ W (i + 1) m' σ' H') ∧ ∀ x H', (Itr lo n).yld i H x H' → g x σ H' fun σ2 H2 => tb { D with nx := N, ct := N, bk := D.nx } σ2 H2) := by
  refine ⟨fun i m σ H => m = n - i ∧ i ≤ n ∧ Pv i σ H, ⟨n, by simp, Nat.zero_le _, h0⟩, ?_⟩
  rintro i m σ H ⟨rfl, hi, p⟩
  by_cases hlt : i < n
  · refine .inr ⟨hlt, Pv (i + 1), fun σ' H' p' => ⟨n - (i + 1), by omega, rfl, hlt, p'⟩, fun x H' y => ?_⟩
    obtain ⟨e, y⟩ := y
    subst e y
    exact hs i σ _ hlt p
  · have e : i = n := by omega
    subst e
    exact .inl ⟨Nat.le_refl _, hd σ H p⟩
end L2
namespace L2
open PySem PySem.Spec PyProof.Rows
abbrev R2 := V → V → Hp → VK → Prop
def OpR (X : Cx) (f : Value → Value → Sem Value) (r : R2) : Prop :=
  ∀ (pins : List (Addr × Obj)) (s : Shared) (σ : St) (H : Hp) (x y : V) (v u : Value) (Q : VK), Inv X pins σ H s → RelV x v → RelV y u → r x y H Q →
    wpAny (model X.prog X.w) X.A (f v u) (EP X pins σ Q) X.xe s
def UnR (X : Cx) (f : Value → Sem Value) (r : V → Hp → VK → Prop) : Prop :=
  ∀ (pins : List (Addr × Obj)) (s : Shared) (σ : St) (H : Hp) (x : V) (v : Value) (Q : VK), Inv X pins σ H s → RelV x v → r x H Q →
    wpAny (model X.prog X.w) X.A (f v) (EP X pins σ Q) X.xe s
def CallR (X : Cx) (f : Value) (r : List V → Hp → VK → Prop) : Prop :=
  ∀ (pins : List (Addr × Obj)) (s : Shared) (σ : St) (H : Hp) (xs : List V) (us : List Value) (Q : VK), Inv X pins σ H s → Vals xs us → r xs H Q →
    wpAny (model X.prog X.w) X.A (call f us) (EP X pins σ Q) X.xe s
def TruR (X : Cx) (r : V → Hp → (Bool → Hp → Prop) → Prop) : Prop :=
  ∀ (pins : List (Addr × Obj)) (s : Shared) (σ : St) (H : Hp) (x : V) (v : Value) (Q : Bool → Hp → Prop), Inv X pins σ H s → RelV x v → r x H Q →
    wpAny (model X.prog X.w) X.A (truthy v) (TP X pins σ Q) X.xe s
def tOp (r : R2) (ta tb : TE) : TE := fun σ H Q => ta σ H fun x H1 => tb σ H1 fun y H2 => r x y H2 Q
def tUn (r : V → Hp → VK → Prop) (ta : TE) : TE := fun σ H Q => ta σ H fun x H1 => r x H1 Q
def rI (C : Int → Int → Prop) (g : Int → Int → V) : R2 := fun x y H Q => ∃ i j, x = .int i ∧ y = .int j ∧ C i j ∧ Q (g i j) H
def rI0 (g : Int → Int → V) : R2 := fun x y H Q => ∃ i j, x = .int i ∧ y = .int j ∧ Q (g i j) H
def rU (g : Int → V) : V → Hp → VK → Prop := fun x H Q => ∃ i, x = .int i ∧ Q (g i) H
section
variable {X : Cx} {a b c : Expr} {ta tb tc : TE} {pos : Pos}
theorem binT (ha : PE X a ta) (hb : PE X b tb) {pins : List (Addr × Obj)} {s : Shared} {σ : St} {H : Hp} {R : V → V → Hp → Prop} (I : Inv X pins σ H s)
    (h : ta σ H fun x H1 => tb σ H1 fun y H2 => R x y H2) {Q : Value → Shared → Prop} {f : Value → Value → Sem Value}
    (hf : ∀ v u s2 x y H2, Inv X pins σ H2 s2 → RelV x v → RelV y u → R x y H2 → wpAny (model X.prog X.w) X.A (f v u) Q X.xe s2) :
    wpAny (model X.prog X.w) X.A (eval a X.env) (fun v s₁ => wpAny (model X.prog X.w) X.A (eval b X.env) (fun u s₂ => wpAny (model X.prog X.w) X.A (f v u) Q X.xe s₂) X.xe s₁) X.xe s := by
  refine thn (ha pins s σ H _ I h) fun v s1 ⟨x, H1, I1, r1, q1⟩ => ?_
  refine thn (hb pins s1 σ H1 _ I1 q1) fun u s2 ⟨y, H2, I2, r2, q2⟩ => ?_
  exact hf v u s2 x y H2 I2 r1 r2 q2
theorem pe_op {op : Operator} {r : R2} (ho : OpR X (binaryOp op) r) (ha : PE X a ta) (hb : PE X b tb) : PE X (.BinOp a op b pos) (tOp r ta tb) := by
  intro pins s σ H Q I h
  exact wpAny_BinOp (binT ha hb I h fun v u s2 x y H2 I2 rx ry q => ho pins s2 σ H2 x y v u Q I2 rx ry q)
theorem opI {f : Value → Value → Sem Value} {C : Int → Int → Prop} {g : Int → Int → Int}
    (rule : ∀ (i j : Int) (t u : Tok) (s : Shared) (Q : Value → Shared → Prop) (E : Value → Shared → Prop), C i j → Q (.int (g i j) s.toks) { s with toks := s.toks + 1 } → wpAny (model X.prog X.w) X.A (f (.int i t) (.int j u)) Q E s) :
    OpR X f (rI C fun i j => .int (g i j)) := by
  intro pins s σ H x y v u Q I rx ry h
  obtain ⟨i, j, rfl, rfl, hc, q⟩ := h
  obtain ⟨t, rfl⟩ := rx
  obtain ⟨t', rfl⟩ := ry
  exact rule i j t t' s _ _ hc ⟨.int (g i j), H, I.tok _, ⟨_, rfl⟩, q⟩
theorem opI0 {f : Value → Value → Sem Value} {g : Int → Int → Int}
    (rule : ∀ (i j : Int) (t u : Tok) (s : Shared) (Q : Value → Shared → Prop) (E : Value → Shared → Prop), Q (.int (g i j) s.toks) { s with toks := s.toks + 1 } → wpAny (model X.prog X.w) X.A (f (.int i t) (.int j u)) Q E s) :
    OpR X f (rI0 fun i j => .int (g i j)) := by
  intro pins s σ H x y v u Q I rx ry h
  obtain ⟨i, j, rfl, rfl, q⟩ := h
  obtain ⟨t, rfl⟩ := rx
  obtain ⟨t', rfl⟩ := ry
  exact rule i j t t' s _ _ ⟨.int (g i j), H, I.tok _, ⟨_, rfl⟩, q⟩
theorem opB0 {f : Value → Value → Sem Value} {g : Int → Int → Bool}
    (rule : ∀ (i j : Int) (t u : Tok) (s : Shared) (Q : Value → Shared → Prop) (E : Value → Shared → Prop), Q (.bool (g i j)) s → wpAny (model X.prog X.w) X.A (f (.int i t) (.int j u)) Q E s) :
    OpR X f (rI0 fun i j => .bl (g i j)) := by
  intro pins s σ H x y v u Q I rx ry h
  obtain ⟨i, j, rfl, rfl, q⟩ := h
  obtain ⟨t, rfl⟩ := rx
  obtain ⟨t', rfl⟩ := ry
  exact rule i j t t' s _ _ ⟨.bl (g i j), H, I, rfl, q⟩
def CDiv (i j : Int) : Prop := 0 < j ∧ j < 1073741824
def CDivN (i j : Int) : Prop := j ≠ 0 ∧ j.natAbs < 1073741824
def CPow (i j : Int) : Prop := 0 ≤ j ∧ j ≤ 1000000 ∧ i.natAbs < 2 ^ 64
def CMul (i j : Int) : Prop := (-(2 ^ 64) < i ∧ i < 2 ^ 64) ∨ (-(2 ^ 64) < j ∧ j < 2 ^ 64)
theorem CMul.ok {i j : Int} (h : CMul i j) : IntMulOk i j := by
  rcases h with ⟨h1, h2⟩ | ⟨h1, h2⟩
  · exact .of_left (intBits_le_64 h1 h2)
  · exact .of_right (intBits_le_64 h1 h2)
theorem two_pow_nn (k : Nat) : (0 : Int) ≤ 2 ^ k := by
  rw [two_pow_cast]
  exact Int.natCast_nonneg _
theorem op_add : OpR X (binaryOp .Add) (rI0 fun i j => .int (i + j)) := opI0 fun _ _ _ _ _ _ _ q => add_int q
theorem op_sub : OpR X (binaryOp .Sub) (rI0 fun i j => .int (i - j)) := opI0 fun _ _ _ _ _ _ _ q => sub_int q
theorem op_mul : OpR X (binaryOp .Mult) (rI CMul fun i j => .int (i * j)) := opI fun _ _ _ _ _ _ _ hc q => mul_int q hc.ok
theorem op_fdiv : OpR X (binaryOp .FloorDiv) (rI CDiv fun i j => .int (i / j)) := opI fun i j _ _ _ _ _ hc q => by
  have h1 : (0 : Int) < j := hc.1
  have h2 : j < 1073741824 := hc.2
  exact floordiv_int (by omega) (by rw [Int.fdiv_eq_ediv_of_nonneg i (by omega)]; exact q) (.inl (PyProof.noPylong_small (by omega)))
theorem op_mod : OpR X (binaryOp .Mod) (rI (fun _ j => 0 < j) fun i j => .int (i % j)) := opI fun i j _ _ _ _ _ hc q => by
  have h1 : (0 : Int) < j := hc
  exact mod_int' (by omega) (by rw [Int.fmod_eq_emod_of_nonneg i (by omega)]; exact q)
theorem op_shl : OpR X (binaryOp .LShift) (rI CPow fun i j => .int (i * 2 ^ j.toNat)) := opI fun _ _ _ _ _ _ _ hc q => lshift_int_small hc.1 hc.2.1 hc.2.2 q
theorem op_shr : OpR X (binaryOp .RShift) (rI (fun _ j => 0 ≤ j) fun i j => .int (i / 2 ^ j.toNat)) := opI fun i j _ _ _ _ _ hc q =>
  rshift_int hc (by rw [Int.fdiv_eq_ediv_of_nonneg i (two_pow_nn _)]; exact q)
theorem op_and : OpR X (binaryOp .BitAnd) (rI0 fun i j => .int (Builtin.bitAnd i j)) := opI0 fun _ _ _ _ _ _ _ q => and_int q
theorem op_xor : OpR X (binaryOp .BitXor) (rI0 fun i j => .int (Builtin.bitXor i j)) := opI0 fun _ _ _ _ _ _ _ q => xor_int q
end
def scal : V → V → Bool
  | .non, .non => true | .non, .int _ => true | .int _, .non => true | .non, .bl _ => true | .bl _, .non => true | .non, .str _ => true | .str _, .non => true
  | .int _, .int _ => true | .bl _, .bl _ => true | .str _, .str _ => true | .byt _, .byt _ => true
  | .int _, .str _ => true | .str _, .int _ => true | .bl _, .str _ => true | .str _, .bl _ => true
  | _, _ => false
def rEq : R2 := fun x y H Q => scal x y = true ∧ Q (.bl (decide (x = y))) H
def rNe : R2 := fun x y H Q => scal x y = true ∧ Q (.bl (!decide (x = y))) H
theorem dec_int {i j : Int} : decide (V.int i = V.int j) = (i == j) := by
  rw [Bool.eq_iff_iff]
  simp
theorem dec_bl {i j : Bool} : decide (V.bl i = V.bl j) = (i == j) := by
  rw [Bool.eq_iff_iff]
  simp
theorem dec_str {i j : Str} : decide (V.str i = V.str j) = (i == j) := by
  rw [Bool.eq_iff_iff]
  simp
theorem dec_byt {i j : Array UInt8} : decide (V.byt i = V.byt j) = (i.toList == j.toList) := by
  rw [Bool.eq_iff_iff]
  cases i
  cases j
  simp
section
variable {X : Cx} {a b c : Expr} {ta tb tc : TE} {pos : Pos}
theorem fin_bl {pins : List (Addr × Obj)} {σ : St} {H : Hp} {s : Shared} {Q : VK} {k k' : Bool} (I : Inv X pins σ H s) (q : Q (.bl k) H) (e : k = k') : EP X pins σ Q (.bool k') s := by
  subst e
  exact ⟨.bl k, H, I, rfl, q⟩
theorem op_eq : OpR X (compareOp .Eq) rEq := by
  intro pins s σ H x y v u Q I rx ry h
  obtain ⟨hs, q⟩ := h
  cases x with
  | non =>
    cases rx
    cases y with
    | non => cases ry; exact PySem.EqNone.eq_none_none (fin_bl I q (by simp))
    | bl j => cases ry; exact PySem.EqNone.eq_none_bool (fin_bl I q (by simp))
    | int j => obtain ⟨t', rfl⟩ := ry; exact PySem.EqNone.eq_none_int (fin_bl I q (by simp))
    | str j => obtain ⟨t', rfl⟩ := ry; exact PySem.EqNone.eq_none_str (fin_bl I q (by simp))
    | _ => exact absurd (show false = true from hs) Bool.false_ne_true
  | bl i =>
    cases rx
    cases y with
    | non => cases ry; exact PySem.EqNone.eq_bool_none (fin_bl I q (by simp))
    | bl j => cases ry; exact eq_bool (fin_bl I q dec_bl)
    | str j => obtain ⟨t', rfl⟩ := ry; exact PySem.EqMixed.eq_bool_str (fin_bl I q (by simp))
    | _ => exact absurd (show false = true from hs) Bool.false_ne_true
  | int i =>
    obtain ⟨t, rfl⟩ := rx
    cases y with
    | non => cases ry; exact PySem.EqNone.eq_int_none (fin_bl I q (by simp))
    | int j => obtain ⟨t', rfl⟩ := ry; exact eq_int (fin_bl I q dec_int)
    | str j => obtain ⟨t', rfl⟩ := ry; exact PySem.EqMixed.eq_int_str (fin_bl I q (by simp))
    | _ => exact absurd (show false = true from hs) Bool.false_ne_true
  | str i =>
    obtain ⟨t, rfl⟩ := rx
    cases y with
    | non => cases ry; exact PySem.EqNone.eq_str_none (fin_bl I q (by simp))
    | bl j => cases ry; exact PySem.EqMixed.eq_str_bool (fin_bl I q (by simp))
    | int j => obtain ⟨t', rfl⟩ := ry; exact PySem.EqMixed.eq_str_int (fin_bl I q (by simp))
    | str j => obtain ⟨t', rfl⟩ := ry; exact eq_str (fin_bl I q dec_str)
    | _ => exact absurd (show false = true from hs) Bool.false_ne_true
  | byt i =>
    obtain ⟨t, rfl⟩ := rx
    cases y with
    | byt j => obtain ⟨t', rfl⟩ := ry; exact PySem.W.eq_bytes (fin_bl I q dec_byt)
    | _ => exact absurd (show false = true from hs) Bool.false_ne_true
  | _ => cases y <;> exact absurd (show false = true from hs) Bool.false_ne_true
theorem op_ne : OpR X (compareOp .NotEq) rNe := by
  intro pins s σ H x y v u Q I rx ry h
  obtain ⟨hs, q⟩ := h
  cases x with
  | non =>
    cases rx
    cases y with
    | non => cases ry; exact PySem.EqNone.ne_none_none (fin_bl I q (by simp))
    | bl j => cases ry; exact PySem.EqNone.ne_none_bool (fin_bl I q (by simp))
    | int j => obtain ⟨t', rfl⟩ := ry; exact PySem.EqNone.ne_none_int (fin_bl I q (by simp))
    | str j => obtain ⟨t', rfl⟩ := ry; exact PySem.EqNone.ne_none_str (fin_bl I q (by simp))
    | _ => exact absurd (show false = true from hs) Bool.false_ne_true
  | bl i =>
    cases rx
    cases y with
    | non => cases ry; exact PySem.EqNone.ne_bool_none (fin_bl I q (by simp))
    | bl j => cases ry; exact ne_bool (fin_bl I q (congrArg not dec_bl))
    | str j => obtain ⟨t', rfl⟩ := ry; exact PySem.EqMixed.ne_bool_str (fin_bl I q (by simp))
    | _ => exact absurd (show false = true from hs) Bool.false_ne_true
  | int i =>
    obtain ⟨t, rfl⟩ := rx
    cases y with
    | non => cases ry; exact PySem.EqNone.ne_int_none (fin_bl I q (by simp))
    | int j => obtain ⟨t', rfl⟩ := ry; exact ne_int (fin_bl I q (congrArg not dec_int))
    | str j => obtain ⟨t', rfl⟩ := ry; exact PySem.EqMixed.ne_int_str (fin_bl I q (by simp))
    | _ => exact absurd (show false = true from hs) Bool.false_ne_true
  | str i =>
    obtain ⟨t, rfl⟩ := rx
    cases y with
    | non => cases ry; exact PySem.EqNone.ne_str_none (fin_bl I q (by simp))
    | bl j => cases ry; exact PySem.EqMixed.ne_str_bool (fin_bl I q (by simp))
    | int j => obtain ⟨t', rfl⟩ := ry; exact PySem.EqMixed.ne_str_int (fin_bl I q (by simp))
    | str j => obtain ⟨t', rfl⟩ := ry; exact ne_str (fin_bl I q (congrArg not dec_str))
    | _ => exact absurd (show false = true from hs) Bool.false_ne_true
  | byt i =>
    obtain ⟨t, rfl⟩ := rx
    cases y with
    | byt j => obtain ⟨t', rfl⟩ := ry; exact PySem.W.ne_bytes (fin_bl I q (congrArg not dec_byt))
    | _ => exact absurd (show false = true from hs) Bool.false_ne_true
  | _ => cases y <;> exact absurd (show false = true from hs) Bool.false_ne_true
theorem op_lt : OpR X (compareOp .Lt) (rI0 fun i j => .bl (decide (i < j))) := opB0 fun _ _ _ _ _ _ _ q => lt_int q
theorem op_le : OpR X (compareOp .LtE) (rI0 fun i j => .bl (decide (i ≤ j))) := opB0 fun _ _ _ _ _ _ _ q => le_int q
theorem op_gt : OpR X (compareOp .Gt) (rI0 fun i j => .bl (decide (j < i))) := opB0 fun _ _ _ _ _ _ _ q => gt_int q
def isObj : HO → Bool
  | .lst _ => true
  | .ins _ _ _ => true
  | _ => false
theorem nomark (b : Expr) {op : CmpOp} (h : op ≠ .In := by decide) (h2 : op ≠ .NotIn := by decide) : behindInMarks op b = false := by
  have e1 : (op == CmpOp.In) = false := by cases op <;> first | rfl | exact absurd rfl h
  have e2 : (op == CmpOp.NotIn) = false := by cases op <;> first | rfl | exact absurd rfl h2
  cases b <;> simp [behindInMarks, e1, e2]
theorem pe_cmpR {op : CmpOp} {r : R2} (ho : OpR X (compareOp op) r) (ha : PE X a ta) (hb : PE X b tb) (hm : behindInMarks op b = false) : PE X (.Compare a [op] [b] pos) (tOp r ta tb) := by
  intro pins s σ H Q I h
  exact wpAny_Compare1 (binT ha hb I h fun v u s2 x y H2 I2 rx ry q => ho pins s2 σ H2 x y v u Q I2 rx ry q) hm
def tTest (t : TE) : TT := fun σ H Q => t σ H fun x H' => ∃ k, x = .bl k ∧ Q k H'
theorem pt_cmpR {op : CmpOp} {r : R2} (ho : OpR X (compareOp op) r) (ha : PE X a ta) (hb : PE X b tb) (hm : behindInMarks op b = false) : PT X (.Compare a [op] [b] pos) (tTest (tOp r ta tb)) := by
  intro pins s σ H Q I h
  refine wpAny_isTrue_Compare1 (thn (ha pins s σ H _ I h) fun v s1 ⟨x, H1, I1, r1, q1⟩ => thn (hb pins s1 σ H1 _ I1 q1) fun u s2 ⟨y, H2, I2, r2, q2⟩ =>
    thn (ho pins s2 σ H2 x y v u _ I2 r1 r2 q2) fun c s3 ⟨z, H3, I3, r3, k, e, q3⟩ => ?_) hm
  subst e
  cases r3
  exact wpAny_truthy_bool ⟨H3, I3, q3⟩
def tChain (r r' : R2) (ta tb tc : TE) : TE := fun σ H Q => ta σ H fun x H1 => tb σ H1 fun y H2 => r x y H2 fun z H3 => ∃ k, z = .bl k ∧
  (if k = true then tc σ H3 fun w' H4 => r' y w' H4 Q else Q (.bl false) H3)
theorem pe_chain {op op' : CmpOp} {r r' : R2} (ho : OpR X (compareOp op) r) (ho' : OpR X (compareOp op') r') (ha : PE X a ta) (hb : PE X b tb) (hc : PE X c tc)
    (hm : lastMarks [op, op'] [b, c] = false := by with_unfolding_all rfl) : PE X (.Compare a [op, op'] [b, c] pos) (tChain r r' ta tb tc) := by
  intro pins s σ H Q I h
  refine Compare_chain (thn (ha pins s σ H _ I h) fun v s1 ⟨x, H1, I1, r1, q1⟩ => chain_link (thn (hb pins s1 σ H1 _ I1 q1) fun u s2 ⟨y, H2, I2, r2, q2⟩ =>
    thn (ho pins s2 σ H2 x y v u _ I2 r1 r2 q2) fun d s3 ⟨z, H3, I3, r3, k, e, q3⟩ => ?_)) hm
  subst e
  cases r3
  refine wpAny_truthy_bool ?_
  cases k with
  | false => exact ite_ff ⟨.bl false, H3, I3, rfl, q3⟩
  | true => exact ite_tt (chain_last (thn (hc pins s3 σ H3 _ I3 q3) fun w' s4 ⟨z', H4, I4, r4, q4⟩ => ho' pins s4 σ H4 y z' u w' Q I4 r2 r4 q4))
theorem pt_chain {op op' : CmpOp} {r r' : R2} (ho : OpR X (compareOp op) r) (ho' : OpR X (compareOp op') r') (ha : PE X a ta) (hb : PE X b tb) (hc : PE X c tc)
    (hm : lastMarks [op, op'] [b, c] = false := by with_unfolding_all rfl) : PT X (.Compare a [op, op'] [b, c] pos) (tTest (tChain r r' ta tb tc)) := by
  intro pins s σ H Q I h
  refine isTrue_chain (thn (ha pins s σ H _ I h) fun v s1 ⟨x, H1, I1, r1, q1⟩ => test_link (thn (hb pins s1 σ H1 _ I1 q1) fun u s2 ⟨y, H2, I2, r2, q2⟩ =>
    thn (ho pins s2 σ H2 x y v u _ I2 r1 r2 q2) fun d s3 ⟨z, H3, I3, r3, k, e, q3⟩ => ?_)) hm
  subst e
  cases r3
  refine wpAny_truthy_bool ?_
  cases k with
  | false =>
    obtain ⟨k', e', q'⟩ := q3
    cases e'
    exact ite_ff ⟨H3, I3, q'⟩
  | true =>
    refine ite_tt (test_last (thn (hc pins s3 σ H3 _ I3 q3) fun w' s4 ⟨z', H4, I4, r4, q4⟩ => thn (ho' pins s4 σ H4 y z' u w' _ I4 r2 r4 q4) fun d' s5 ⟨z2, H5, I5, r5, k2, e2, q5⟩ => ?_))
    subst e2
    cases r5
    exact wpAny_truthy_bool ⟨H5, I5, q5⟩
def TruV (K : PySem.W.Frag) (x : V) (H : Hp) (k : Bool) : Prop :=
  match x with
  | .non => k = false
  | .bl b => k = b
  | .int i => k = (i != 0)
  | .str y => y.length ≤ sizeLine ∧ k = ((y.length : Int) != 0)
  | .byt y => y.size ≤ sizeLine ∧ k = ((y.size : Int) != 0)
  | .ref p => (∃ xs, SqL K H p xs ∧ k = !xs.isEmpty) ∨ (∃ xs, SqT K H p xs ∧ k = !xs.isEmpty) ∨ ∃ kvs, H p = some (.dK kvs) ∧ k = !kvs.isEmpty
  | _ => False
theorem line63 : (sizeLine : Nat) < 2 ^ 63 := by rw [sizeLine_eq]; decide
theorem op_add_str : OpR X (binaryOp .Add) (fun x y H Q => ∃ i j, x = .str i ∧ y = .str j ∧ i.length + j.length ≤ sizeLine ∧ Q (.str (i ++ j)) H) := by
  intro pins s σ H x y v u Q I rx ry h
  obtain ⟨i, j, rfl, rfl, hz, q⟩ := h
  obtain ⟨t, rfl⟩ := rx
  obtain ⟨t', rfl⟩ := ry
  exact add_str (fun t' tk => ⟨.str (i ++ j), H, I.tok _, ⟨_, rfl⟩, q⟩) hz
def PlainIxT (b : Expr) : Prop := ∀ o i, subscripted b false o i = operate [o, i] (getItem o i)
theorem vals1 {x : V} {us : List Value} (r : Vals [x] us) : ∃ u, us = [u] ∧ RelV x u := by
  cases r with
  | cons r1 r2 => cases r2; exact ⟨_, rfl, r1⟩
def LenV (K : PySem.W.Frag) (x : V) (H : Hp) (n : Nat) : Prop :=
  match x with
  | .str y => y.length ≤ sizeLine ∧ n = y.length
  | .byt y => y.size ≤ sizeLine ∧ n = y.size
  | .ref p => (∃ xs, SqL K H p xs ∧ n = xs.length) ∨ ∃ xs, SqT K H p xs ∧ n = xs.length
  | _ => False
end
end L2
namespace L2
open PySem PySem.Spec PyProof.Rows
structure ObjM (h : Heap) (x dx C : Addr) (mA : Str → Option Value) : Prop where
  obj : h.get? x = some (PySem.W.instObj C dx)
  ns : h.Ns1 dx mA
  ne : dx ≠ x
theorem lookIn_ns {h : Heap} {dx : Addr} {mA : Str → Option Value} (n : h.Ns1 dx mA) : ∃ od, h.get? dx = some od ∧ ∀ name, PySem.W.lookIn name od = some (mA name) := by
  obtain ⟨o, es, ep, ho, hd, hk, _, hm⟩ := n
  refine ⟨o, ho, fun name => ?_⟩
  have e := hm name
  unfold nsFind findBy at e
  rw [← Array.find?_toList] at e
  unfold PySem.W.lookIn
  rw [hd]
  dsimp only
  split
  · rename_i y q
    rw [q] at e
    exact congrArg some e
  · rename_i q
    rw [q] at e
    have a : es.toList.any (·.refKey) = false := by
      rw [List.any_eq_false]
      intro y hy
      obtain ⟨z, t, hkey⟩ := hk y (Array.mem_toList_iff.mp hy)
      simp [DictEntry.refKey, hkey]
    have a' : ¬ es.toList.any (·.refKey) = true := by rw [a]; exact Bool.false_ne_true
    rw [if_neg a']
    exact congrArg some e
theorem ObjM.look {h : Heap} {x dx C : Addr} {mA : Str → Option Value} (I : ObjM h x dx C mA) : ∃ od, PySem.W.InstAt h x (PySem.W.instObj C dx) C (some od) ∧ ∀ name, PySem.W.lookIn name od = some (mA name) :=
  let ⟨od, ho, hl⟩ := lookIn_ns I.ns
  ⟨od, ⟨I.obj, rfl, rfl, ho⟩, hl⟩
section
variable {prog : Program} {w : World} {A : Around} {E : Value → Shared → Prop} {s : Shared} {K : PySem.W.Frag} {x dx C f : Addr} {mA : Str → Option Value} {name : Str} {v : Value}
theorem get_map {expr : Bool} {Q : Value → Shared → Prop} (X : K.In s.heap) (I : ObjM s.heap x dx C mA) (hg : PySem.W.plainGet K C name = true) (hh : PySem.W.hasDictIn K C = true)
    (ha : PySem.W.findIn K (.ref C) name = some none) (hv : mA name = some v) (hv' : PySem.W.handedIn v = true) (h : Q v { s with toks := s.toks + 1 }) :
    wpAny (model prog w) A (getAttr (.ref x) name expr) Q E s := by
  obtain ⟨od, J, hl⟩ := I.look
  exact PySem.W.get_value X J (PySem.W.plainGet_of hg).1 (PySem.W.findObj_own hh ha rfl (by rw [hl, hv])) hv' h
theorem get_meth {pl : Sem Bool} {Q : Value × List Value → Shared → Prop} (X : K.In s.heap) (I : ObjM s.heap x dx C mA) (hg : PySem.W.plainGet K C name = true)
    (hf : PySem.W.findIn K (.ref C) name = some (some (.ref f))) (ht : PySem.W.isFn K (.ref f) = true) (hv : mA name = none) (h : Q (.ref f, [.ref x]) s) :
    wpAny (model prog w) A (getMethod (.ref x) name pl) Q E s := by
  obtain ⟨od, J, hl⟩ := I.look
  exact PySem.W.method_fn X J (PySem.W.plainGet_of hg).1 (PySem.W.plainGet_of hg).2 hf (beq_iff_eq.mp ht) (by show (PySem.W.lookIn name od).map (·.isSome) = some false; rw [hl, hv]; rfl) h
theorem set_map {ns : List Str} {Q : Unit → Shared → Prop} (X : K.In s.heap) (I : ObjM s.heap x dx C mA)
    (hs : PySem.W.findIn K (.ref C) "__setattr__" = some (some (.builtin "object.__setattr__"))) (hp : PySem.W.plainOver K C = true) (ht : PySem.W.takerIn K C name = some none) (hh : PySem.W.hasDictIn K C = true)
    (hw : PySem.Within mA ns) (hsz : ns.length ≤ sizeLine)
    (h : ∀ h', ObjM h' x dx C (fun y => if y = name then some v else mA y) → Heap.SameBut dx s.heap h' → Q () { s with heap := h', toks := s.toks + 2 }) :
    wpAny (model prog w) A (setAttr (.ref x) name v) Q E s := by
  obtain ⟨od, J, hl⟩ := I.look
  refine PySem.W.set_plain X J hs (PySem.W.osa_open (s := { s with toks := s.toks + 1 }) (r := none) X J hp ht fun b => ?_)
  obtain ⟨cd, hc, hd'⟩ := PySem.W.any_some hh
  have hx : s.heap.get? x = some ⟨.ref C, some dx, .plain, #[]⟩ := I.obj
  refine wpAny_bind (wpAny_pure (wpAny_bind (wpAny_bind (wpAny_loadPart hx (wpAny_bind (PySem.W.Looks.here (s := { s with toks := s.toks + 1 }) (PySem.W.looks_clsIn X hc) ?_))))))
  rw [hd']
  refine wpAny_pure (a := some dx) (wpAny_bind (wpAny_pure (wpAny_bind ?_)))
  refine wpAny_nsSet1 (s := { s with toks := s.toks + 1 }) I.ns fun h' hn2 hs2 => ?_
  obtain ⟨oD, esD, epD, hoD, hdD, hcD⟩ := hn2.count (PySem.Within.cons name v hw)
  refine wpAny_bind (wpAny_lookBehind hoD (by rw [hdD]; exact pastItsLine_dict (Nat.le_trans hcD (by rw [List.length_cons]; omega))) ?_)
  exact wpAny_pure (h _ ⟨(hs2.2 _ (Ne.symm I.ne)).trans I.obj, hn2, I.ne⟩ hs2)
theorem make_map {R : Result → Shared → Prop} {vs : List Value} {kw : List (Str × Value)} (X : K.In s.heap) (hm : PySem.W.makesIn K C = true)
    (hi : PySem.W.findIn K (.ref C) "__init__" = some (some (.ref f))) (hf : PySem.W.typeIn K (.ref f) = some (.type "function"))
    (h : codeAny (model prog w) (A.under (.builtin "type.__call__" ⟨.ref C :: vs, kw⟩)) (.call (.ref f) ⟨.ref (s.heap.objs.size + 1) :: vs, kw⟩) (PySem.W.InitBack (s.heap.objs.size + 1) R)
      { s with heap := (s.heap.push PySem.W.emptyDict).push (PySem.W.instObj C s.heap.objs.size) }) :
    codeAny (model prog w) A (.call (.ref C) ⟨vs, kw⟩) R s := by
  obtain ⟨hh, g, d, t, os⟩ := s
  exact PySem.W.make_core (PySem.W.makes_of X hm) (PySem.W.looks_findIn X hi) (fun self => PySem.W.bind_fn X self hf) (.inl rfl) h
end
def putF (f : Str) (v : V) : List (Str × V) → List (Str × V)
  | [] => [(f, v)]
  | (g, x) :: r => if g = f then (g, v) :: r else (g, x) :: putF f v r
theorem lookup_putF (f g : Str) (v : V) : ∀ fs : List (Str × V), (putF f v fs).lookup g = if g = f then some v else fs.lookup g
  | [] => by
    show List.lookup g [(f, v)] = _
    by_cases h : g = f
    · have hb : (g == f) = true := beq_iff_eq.mpr h
      simp only [List.lookup, hb, if_pos h]
    · have hb : (g == f) = false := beq_eq_false_iff_ne.mpr h
      simp only [List.lookup, hb, if_neg h]
  | (k, x) :: r => by
    have ih := lookup_putF f g v r
    rw [show putF f v ((k, x) :: r) = (if k = f then (k, v) :: r else (k, x) :: putF f v r) from rfl]
    by_cases hk : k = f
    · rw [if_pos hk]
      by_cases h : g = k
      · have hb : (g == k) = true := beq_iff_eq.mpr h
        simp only [List.lookup, hb, if_pos (h.trans hk)]
      · have hb : (g == k) = false := beq_eq_false_iff_ne.mpr h
        simp only [List.lookup, hb, if_neg (fun e : g = f => h (e.trans hk.symm))]
    · rw [if_neg hk]
      by_cases h : g = k
      · have hb : (g == k) = true := beq_iff_eq.mpr h
        simp only [List.lookup, hb, if_neg (fun e : g = f => hk (h.symm.trans e))]
      · have hb : (g == k) = false := beq_eq_false_iff_ne.mpr h
        simp only [List.lookup, hb]
        exact ih
theorem keys_putF (f : Str) (v : V) : ∀ fs : List (Str × V), f ∈ (putF f v fs).map (·.1) ∧ ∀ g, g ∈ fs.map (·.1) → g ∈ (putF f v fs).map (·.1)
  | [] => ⟨by simp [putF], fun g h => by simp at h⟩
  | (k, x) :: r => by
    obtain ⟨i1, i2⟩ := keys_putF f v r
    rw [show putF f v ((k, x) :: r) = (if k = f then (k, v) :: r else (k, x) :: putF f v r) from rfl]
    by_cases hk : k = f
    · rw [if_pos hk]
      subst hk
      exact ⟨by simp, fun g h => by simpa using h⟩
    · rw [if_neg hk]
      refine ⟨?_, fun g h => ?_⟩
      · rw [List.map_cons]
        exact List.mem_cons_of_mem _ i1
      · rw [List.map_cons] at h ⊢
        rcases List.mem_cons.mp h with e | e
        · exact List.mem_cons.mpr (.inl e)
        · exact List.mem_cons_of_mem _ (i2 g e)
theorem length_putF (f : Str) (v : V) : ∀ fs : List (Str × V), (putF f v fs).length ≤ fs.length + 1
  | [] => by simp [putF]
  | (k, x) :: r => by
    have ih := length_putF f v r
    rw [show putF f v ((k, x) :: r) = (if k = f then (k, v) :: r else (k, x) :: putF f v r) from rfl]
    by_cases hk : k = f
    · rw [if_pos hk, List.length_cons, List.length_cons]; omega
    · rw [if_neg hk, List.length_cons, List.length_cons]; omega
theorem RelO.some_of {v : V} {o : Option Value} (r : RelO (some v) o) : ∃ u, o = some u ∧ RelV v u := by
  cases o with
  | none => exact (show False from r).elim
  | some u => exact ⟨u, rfl, r⟩
theorem RelO.none_of {o : Option Value} (r : RelO none o) : o = none := by
  cases o with
  | none => rfl
  | some u => exact (show False from r).elim
theorem handed_of {v : V} {u : Value} (r : RelV v u) : PySem.W.handedIn u = true := by
  cases v with
  | non => cases (show u = Value.none from r); rfl
  | bl b => cases (show u = Value.bool b from r); rfl
  | int i => obtain ⟨t, e⟩ := (show ∃ t, u = Value.int i t from r); cases e; rfl
  | str x => obtain ⟨t, e⟩ := (show ∃ t, u = Value.str x t from r); cases e; rfl
  | byt b => obtain ⟨t, e⟩ := (show ∃ t, u = Value.bytes b t from r); cases e; rfl
  | flt b => obtain ⟨t, e⟩ := (show ∃ t, u = Value.float b t from r); cases e; rfl
  | ref a => cases (show u = Value.ref a from r); rfl
  | ty n => cases (show u = Value.type n from r); rfl
section
variable {P : Program} {w : World} {H H' : Hp} {h h' : Heap} {a C dx : Addr} {fs fs' : List (Str × V)}
theorem ins_get (hok : HOk P w H h) (e : H a = some (.ins C dx fs)) : ∃ mA, ObjM h a dx C mA ∧ (∀ f, RelO (fs.lookup f) (mA f)) ∧ PySem.Within mA (fs.map (·.1)) ∧ fs.length ≤ 1000 ∧ H dx = some (.own a) := by
  obtain ⟨d, z, ne, ob, mA, n, r, q⟩ := (show ObjOk P w H h a (.ins C dx fs) from hok a _ e)
  exact ⟨mA, ⟨ob, n, ne⟩, r, q, z, d⟩
end
structure Cls (K : PySem.W.Frag) (C : Addr) : Prop where
  pg : PySem.W.plainGet K C Str.empty = true
  hd : PySem.W.hasDictIn K C = true
  po : PySem.W.plainOver K C = true
  sa : PySem.W.findIn K (.ref C) "__setattr__" = some (some (.builtin "object.__setattr__"))
theorem Cls.get {K : PySem.W.Frag} {C : Addr} (c : Cls K C) (f : Str) : PySem.W.plainGet K C f = true := c.pg
def NoAttr (K : PySem.W.Frag) (C : Addr) (f : Str) : Prop := PySem.W.findIn K (.ref C) f = some none
theorem NoAttr.taker {K : PySem.W.Frag} {C : Addr} {f : Str} (n : NoAttr K C f) : PySem.W.takerIn K C f = some none := by
  unfold PySem.W.takerIn
  rw [show PySem.W.findIn K (.ref C) f = some none from n]
  rfl
structure Con (K : PySem.W.Frag) (C : Addr) (f : Str) (v : V) (u : Value) : Prop where
  at_ : PySem.W.findIn K (.ref C) f = some (some u)
  rel : RelV v u
  get : PySem.W.specialIn K u "__get__" = some none
  cp : PySem.W.copiedNames.contains f = false
structure Meth (K : PySem.W.Frag) (C : Addr) (m : Str) (f : Addr) : Prop where
  at_ : PySem.W.findIn K (.ref C) m = some (some (.ref f))
  fn : PySem.W.isFn K (.ref f) = true
  kp : PySem.W.keepIn K (.ref f) = true
section
variable {X : Cx} {pins : List (Addr × Obj)} {σ : St} {H : Hp} {s : Shared} {a C dx : Addr} {fs : List (Str × V)} {f : Str} {v : V} {A : Around} {E : Value → Shared → Prop}
theorem getattr_ok {b : Bool} {Q : Value → Shared → Prop} (I : Inv X pins σ H s) (e : H a = some (.ins C dx fs)) (c : Cls X.K C) (n : NoAttr X.K C f) (l : fs.lookup f = some v)
    (h : ∀ u s', Inv X pins σ H s' → RelV v u → Q u s') : wpAny (model X.prog X.w) A (getAttr (.ref a) f b) Q E s := by
  obtain ⟨mA, O, r, _, _, _⟩ := ins_get I.hok e
  obtain ⟨u, hu, ru⟩ := RelO.some_of (v := v) (o := mA f) (by rw [← l]; exact r f)
  exact get_map I.kIn O (c.get f) c.hd n hu (handed_of ru) (h u _ (I.tok _) ru)
theorem getmeth_ok {m : Str} {g : Addr} {pl : Sem Bool} {Q : Value × List Value → Shared → Prop} (I : Inv X pins σ H s) (e : H a = some (.ins C dx fs)) (c : Cls X.K C) (k : Meth X.K C m g) (l : fs.lookup m = none)
    (h : Q (.ref g, [.ref a]) s) : wpAny (model X.prog X.w) A (getMethod (.ref a) m pl) Q E s := by
  obtain ⟨mA, O, r, _, _, _⟩ := ins_get I.hok e
  have hn : mA m = none := RelO.none_of (by rw [← l]; exact r m)
  exact get_meth I.kIn O (c.get m) k.at_ k.fn hn h
theorem setattr_ok {y : V} {u : Value} {Q : Unit → Shared → Prop} (I : Inv X pins σ H s) (e : H a = some (.ins C dx fs)) (c : Cls X.K C) (n : NoAttr X.K C f) (hl : fs.length < 1000) (ry : RelV y u)
    (h : ∀ s', Inv X pins σ (upd H a (.ins C dx (putF f y fs))) s' → Q () s') : wpAny (model X.prog X.w) A (setAttr (.ref a) f u) Q E s := by
  obtain ⟨mA, O, r, wi, _, ho⟩ := ins_get I.hok e
  have hz : (fs.map (·.1)).length ≤ sizeLine := by rw [List.length_map, sizeLine_eq]; omega
  refine set_map I.kIn O c.sa c.po n.taker c.hd wi hz fun h' O' sb => h _ ?_
  have hd : ∃ o, h'.get? dx = some o := let ⟨o, _, _, e', _⟩ := O'.ns; ⟨o, e'⟩
  refine I.write (x := a) (e := dx) (by rw [e]; exact True.intro) (.inr ho) (fun b q hb z => (sb.2 b hb).trans z) hd ?_
  refine ⟨by rw [upd_ne O.ne]; exact ho, ?_, O.ne, O'.obj, _, O'.ns, fun g => ?_, fun g hg => ?_⟩
  · have := length_putF f y fs; omega
  · show RelO ((putF f y fs).lookup g) (if g = f then some u else mA g)
    rw [lookup_putF]
    by_cases q : g = f
    · rw [if_pos q, if_pos q]; exact ry
    · rw [if_neg q, if_neg q]; exact r g
  · by_cases q : g = f
    · rw [q]; exact (keys_putF f y fs).1
    · refine (keys_putF f y fs).2 g (wi g fun z => hg ?_)
      show (if g = f then some u else mA g) = none
      rw [if_neg q]; exact z
theorem Inv.made (I : Inv X pins σ H s) : Inv X pins σ (upd (upd H s.heap.objs.size (.own (s.heap.objs.size + 1))) (s.heap.objs.size + 1) (.ins C s.heap.objs.size []))
    { s with heap := (s.heap.push PySem.W.emptyDict).push (PySem.W.instObj C s.heap.objs.size) } := by
  have e1 : (s.heap.push PySem.W.emptyDict).get? s.heap.objs.size = some PySem.W.emptyDict := Heap.get?_push_size s.heap rfl
  have e2 : ((s.heap.push PySem.W.emptyDict).push (PySem.W.instObj C s.heap.objs.size)).get? (s.heap.objs.size + 1) = some (PySem.W.instObj C s.heap.objs.size) := by
    have := Heap.get?_push_size (s.heap.push PySem.W.emptyDict) (o := PySem.W.instObj C s.heap.objs.size) rfl
    rwa [Heap.size_push] at this
  have e3 : (s.heap.push PySem.W.emptyDict).Ns s.heap.objs.size (fun _ => none) := ⟨PySem.W.emptyDict, #[], _, e1, rfl, (fun e he => absurd he (by simp)), fun _ => rfl⟩
  have I1 := I.laid (a := s.heap.objs.size) (o := .own (s.heap.objs.size + 1)) (h' := s.heap.push PySem.W.emptyDict) (t' := s.toks) (fun b u q => Heap.get?_push_of_some _ q) (Nat.le_refl _) ⟨_, e1⟩
  refine I1.laid (a := s.heap.objs.size + 1) (o := .ins C s.heap.objs.size []) (t' := s.toks) (fun b u q => Heap.get?_push_of_some _ q) (Nat.le_of_eq (Heap.size_push _ _)) ?_
  have ne : s.heap.objs.size ≠ s.heap.objs.size + 1 := Nat.ne_of_lt (Nat.lt_succ_self _)
  refine ⟨by rw [upd_ne ne, upd_same], Nat.zero_le _, ne, e2, fun _ => none, (Heap.Ns1.of_empty e3).at fun o q => Heap.get?_push_of_some _ q, fun _ => True.intro, fun y hy => absurd rfl hy⟩
theorem attr_of {prog : Program} {w : World} {env : Env} {e : Expr} {f : Str} {pos : Pos} {s : Shared} {Q : Value → Shared → Prop} (hb : attributeBase e f env (eval e env) = eval e env)
    (h : wpAny (model prog w) A (eval e env) (fun o s₁ => wpAny (model prog w) A (getAttr o f true) Q E s₁) E s) : wpAny (model prog w) A (eval (.Attribute e f pos) env) Q E s :=
  Attribute_any_ h (by rw [arm_eval_Attribute, hb])
end
def tFld (K : PySem.W.Frag) (ta : TE) (f : Str) : TE := fun σ H Q => ta σ H fun x H1 => ∃ a C dx fs v, x = .ref a ∧ H1 a = some (.ins C dx fs) ∧ Cls K C ∧ NoAttr K C f ∧ fs.lookup f = some v ∧ Q v H1
def tCon (K : PySem.W.Frag) (ta : TE) (f : Str) : TE := fun σ H Q => ta σ H fun x H1 => ∃ a C dx fs v u, x = .ref a ∧ H1 a = some (.ins C dx fs) ∧ Cls K C ∧ Con K C f v u ∧ fs.lookup f = none ∧ Q v H1
def sFld (K : PySem.W.Frag) (ta tv : TE) (f : Str) : TS := fun D σ H => tv σ H fun y H1 => ta σ H1 fun x H2 => ∃ a C dx fs, x = .ref a ∧ H2 a = some (.ins C dx fs) ∧ Cls K C ∧ NoAttr K C f ∧ fs.length < 1000 ∧
  D.nx σ (upd H2 a (.ins C dx (putF f y fs)))
def InOp (X : Cx) (op : Operator) (rd : V → V → Hp → VK → Prop) : Prop :=
  ∀ (pins : List (Addr × Obj)) (s : Shared) (σ : St) (H : Hp) (x y : V) (u v : Value) (Q : VK), Inv X pins σ H s → RelV x u → RelV y v → rd x y H Q → wpAny (model X.prog X.w) X.A (inplaceOp op u v) (EP X pins σ Q) X.xe s
def sFldAug (K : PySem.W.Frag) (ta tv : TE) (rd : V → V → Hp → VK → Prop) (f : Str) : TS := fun D σ H => ta σ H fun x H1 => ∃ a C dx fs v, x = .ref a ∧ H1 a = some (.ins C dx fs) ∧ Cls K C ∧ NoAttr K C f ∧ fs.lookup f = some v ∧
  tv σ H1 fun y H2 => rd v y H2 fun z H3 => ∃ dx' fs', H3 a = some (.ins C dx' fs') ∧ fs'.length < 1000 ∧ D.nx σ (upd H3 a (.ins C dx' (putF f z fs')))
section
variable {X : Cx} {o e value : Expr} {f : Str} {pos pos' tpos : Pos} {ta tv : TE}
theorem pe_fld (he : PE X e ta) (hb : attributeBase e f X.env (eval e X.env) = eval e X.env) : PE X (.Attribute e f pos) (tFld X.K ta f) := by
  intro pins s σ H Q I h
  refine attr_of hb (thn (he pins s σ H _ I h) fun u s1 ⟨x, H1, I1, rx, a, C, dx, fs, v, ex, ea, c, n, l, q⟩ => ?_)
  subst ex
  obtain rfl : u = Value.ref a := rx
  exact getattr_ok I1 ea c n l fun u' s2 I2 ru => ⟨v, H1, I2, ru, q⟩
theorem ps_fld (ha : PE X o ta) (hv : PE X value tv) (hs : swapsWith value (some (.Attribute o f pos')) pos.line X.env = pure false) : PS X (.Assign [.Attribute o f pos'] value pos) (sFld X.K ta tv f) := by
  intro pins s σ H D I h
  refine plainObj_wpAny_Assign_Attribute (thn (hv pins s σ H _ I h) fun u s1 ⟨y, H1, I1, ry, q⟩ => thn (ha pins s1 σ H1 _ I1 q) fun ov s2 ⟨x, H2, I2, rx, a, C, dx, fs, ex, ea, c, n, l, q2⟩ => ?_) hs
  subst ex
  obtain rfl : ov = Value.ref a := rx
  exact setattr_ok I2 ea c n l ry fun s3 I3 => ⟨σ, _, I3, q2⟩
def rAdd : V → V → Hp → VK → Prop := fun x y H Q => ∃ i j, x = .int i ∧ y = .int j ∧ Q (.int (i + j)) H
def rSub : V → V → Hp → VK → Prop := fun x y H Q => ∃ i j, x = .int i ∧ y = .int j ∧ Q (.int (i - j)) H
theorem methcall_of {pl : Sem Bool} {m : Str} {apos : Pos} {args : List Expr} {pins : List (Addr × Obj)} {s : Shared} {σ : St} {H : Hp} {Q : Value → Shared → Prop} {te : TE} (he : PE X e te) (I : Inv X pins σ H s)
    (h : te σ H fun x H1 => ∃ a C dx fs g, x = .ref a ∧ H1 a = some (.ins C dx fs) ∧ Cls X.K C ∧ Meth X.K C m g ∧ fs.lookup m = none ∧
      ∀ s1, Inv X pins σ H1 s1 → wpAny (model X.prog X.w) X.A (callWith pos (.ref g) [.ref a] (backTo pos (starEach args X.env)) (backToKw pos (keywordEach [] X.env))) Q X.xe s1)
    (ht : eval (.Call (.Attribute e m apos) args [] pos) X.env = (do
      let ov ← eval e X.env
      standAt apos.atName
      let (f, first) ← holding [ov] (getMethod ov m pl)
      callWith pos f first (backTo pos (starEach args X.env)) (backToKw pos (keywordEach [] X.env)))) :
    wpAny (model X.prog X.w) X.A (eval (.Call (.Attribute e m apos) args [] pos) X.env) Q X.xe s := by
  refine PySem.W.methodCall_KW (pl := pl) (thn (he pins s σ H _ I h) fun u s1 ⟨x, H1, I1, rx, a, C, dx, fs, g, ex, ea, c, k, l, q⟩ => ?_) ht
  subst ex
  obtain rfl : u = Value.ref a := rx
  exact getmeth_ok I1 ea c k l (q s1 I1)
end
section
variable {X : Cx} {pins : List (Addr × Obj)} {σ : St} {H : Hp} {s : Shared} {A : Around} {E : Value → Shared → Prop} {Q : Value → Shared → Prop} {c : Value} {b : Bool}
inductive TyOf (K : PySem.W.Frag) (H : Hp) : V → Value → Prop where
  | non : TyOf K H .non (.type "NoneType")
  | bl (x : Bool) : TyOf K H (.bl x) (.type "bool")
  | int (i : Int) : TyOf K H (.int i) (.type "int")
  | str (x : Str) : TyOf K H (.str x) (.type "str")
  | flt (x : UInt64) : TyOf K H (.flt x) (.type "float")
  | lst {a : Addr} {xs : List V} (e : H a = some (.lst xs)) : TyOf K H (.ref a) (.type "list")
  | frz {a : Addr} {o : Obj} {xs : List V} (e : H a = some (.frz o (.lst xs))) : TyOf K H (.ref a) (.type "list")
  | tup {a : Addr} {xs : List V} (e : H a = some (.tup xs)) : TyOf K H (.ref a) (.type "tuple")
  | dK {a : Addr} {kvs : List (Key × V)} (e : H a = some (.dK kvs)) : TyOf K H (.ref a) (.type "dict")
  | dT {a : Addr} {kvs : List (List Key × V)} (e : H a = some (.dT kvs)) : TyOf K H (.ref a) (.type "dict")
  | ins {a C dx : Addr} {fs : List (Str × V)} (e : H a = some (.ins C dx fs)) (cl : Cls K C) (ha : PySem.W.findIn K (.ref C) "__class__" = some (some (.builtin "object.__class__")))
      (hn : PySem.W.specialIn K (.builtin "object.__class__") "__get__" = some (some (.builtin "getset_descriptor.__get__"))) (htk : PySem.W.takesIn K (.builtin "object.__class__") = some true)
      (hm : PySem.W.mroIn K C (.type "object") = some true) : TyOf K H (.ref a) (.ref C)
theorem isinst_ok {x : V} {u t : Value} (I : Inv X pins σ H s) (rx : RelV x u) (ty : TyOf X.K H x t) (e : PySem.W.kitOne X.K t c = some b) (h : ∀ tk, Q (.bool b) { s with toks := tk }) :
    wpAny (model X.prog X.w) A (call (.builtin "isinstance") [u, c]) Q E s := by
  cases ty with
  | non => cases (show u = Value.none from rx); exact PySem.W.kia_one PySem.W.kitx_none I.kIn True.intro e (fun z => nomatch z) h
  | bl y => cases (show u = Value.bool y from rx); exact PySem.W.kia_one PySem.W.kitx_bool I.kIn True.intro e (fun z => nomatch z) h
  | int i => obtain ⟨t, q⟩ := (show ∃ t, u = Value.int i t from rx); cases q; exact PySem.W.kia_one PySem.W.kitx_int I.kIn True.intro e (fun z => nomatch z) h
  | str y => obtain ⟨t, q⟩ := (show ∃ t, u = Value.str y t from rx); cases q; exact PySem.W.kia_one PySem.W.kitx_str I.kIn True.intro e (fun z => nomatch z) h
  | flt y => obtain ⟨t, q⟩ := (show ∃ t, u = Value.float y t from rx); cases q; exact PySem.W.kia_one PySem.W.kitx_float I.kIn True.intro e (fun z => nomatch z) h
  | @lst a xs ea =>
    cases (show u = Value.ref a from rx)
    obtain ⟨_, _, n, _, h1⟩ := (show ObjOk X.prog X.w H s.heap a (.lst xs) from I.hok a _ ea)
    exact PySem.W.kia_one PySem.W.kitx_list I.kIn ⟨_, h1, rfl⟩ e (fun z => nomatch z) h
  | @frz a ob xs ea =>
    cases (show u = Value.ref a from rx)
    obtain ⟨_, _, _, n, _, h1⟩ := (show ObjOk X.prog X.w H s.heap a (.frz ob (.lst xs)) from I.hok a _ ea)
    exact PySem.W.kia_one PySem.W.kitx_list I.kIn ⟨_, h1, rfl⟩ e (fun z => nomatch z) h
  | @tup a xs ea =>
    cases (show u = Value.ref a from rx)
    obtain ⟨_, _, _, p⟩ := (show ObjOk X.prog X.w H s.heap a (.tup xs) from I.hok a _ ea)
    obtain ⟨o, h1, h2, _⟩ := p
    exact PySem.W.kia_one PySem.W.kitx_tuple I.kIn ⟨o, h1, h2⟩ e (fun z => nomatch z) h
  | @dK a kvs ea =>
    cases (show u = Value.ref a from rx)
    obtain ⟨_, _, vs, _, p⟩ := (show ObjOk X.prog X.w H s.heap a (.dK kvs) from I.hok a _ ea)
    obtain ⟨o, es, ep, h1, h2, _⟩ := p
    exact PySem.W.kia_one PySem.W.kitx_dict I.kIn ⟨o, h1, h2.1⟩ e (fun z => nomatch z) h
  | @dT a kvs ea =>
    cases (show u = Value.ref a from rx)
    obtain ⟨_, _, xs, _, o, es, ep, h1, h2, _⟩ := (show ObjOk X.prog X.w H s.heap a (.dT kvs) from I.hok a _ ea)
    exact PySem.W.kia_one PySem.W.kitx_dict I.kIn ⟨o, h1, h2.1⟩ e (fun z => nomatch z) h
  | @ins a C dx fs ea cl ha hn htk hm =>
    cases (show u = Value.ref a from rx)
    obtain ⟨mA, O, _⟩ := ins_get I.hok ea
    obtain ⟨od, J, _⟩ := O.look
    exact PySem.W.kia_one (PySem.W.kitx_own (cl.get _) cl.hd ha hn htk hm) I.kIn J e (fun z => nomatch z) h
end
end L2
namespace L2
open PySem PySem.Spec PyProof.Rows
structure Room (k : Nat) (A : Around) : Prop where
  hd : A.handled = none
  dp : A.depth + 3 * k + 5 < recursionLimit
  un : A.units + 16 * k + 200 < cLine
theorem Room.mono {j k : Nat} {A : Around} (r : Room k A) (h : j ≤ k) : Room j A := ⟨r.hd, by have := r.dp; omega, by have := r.un; omega⟩
theorem Room.deeper {k : Nat} {A : Around} (r : Room (k + 1) A) (env : Env) : Room k (A.deeper env) :=
  ⟨r.hd, by have := r.dp; show A.depth + 1 + 3 * k + 5 < _; omega, by have := r.un; show A.units + 3 + 16 * k + 200 < _; omega⟩
theorem make_depth {A : Around} {C : Addr} {us : List Value} {kw : List (Str × Value)} : (A.under (.builtin "type.__call__" ⟨.ref C :: us, kw⟩)).depth = A.depth + 1 := by
  first | rfl | simp [Around.under, Code.weight, Code.isCreation, Code.isGuard, Code.isCaller, Code.frames, Code.isFrame, guardIds]
theorem make_units {A : Around} {C : Addr} {us : List Value} {kw : List (Str × Value)} : (A.under (.builtin "type.__call__" ⟨.ref C :: us, kw⟩)).units = A.units + 1 := by
  first | rfl | simp [Around.under, Code.cUnits, Code.frames, Code.isFrame]
theorem Room.make {k : Nat} {A : Around} (r : Room (k + 1) A) (C : Addr) (us : List Value) (kw : List (Str × Value)) : Room k (A.under (.builtin "type.__call__" ⟨.ref C :: us, kw⟩)) :=
  ⟨r.hd, by have := r.dp; rw [make_depth]; omega, by have := r.un; rw [make_units]; omega⟩
theorem Room.depth {k : Nat} {A : Around} (r : Room k A) : A.depth < recursionLimit := by have := r.dp; omega
def tNil : TA := fun _ H Q => Q [] H
def tCons (ta : TE) (tr : TA) : TA := fun σ H Q => ta σ H fun x H1 => tr σ H1 fun xs H2 => Q (x :: xs) H2
section
variable {X : Cx} {e : Expr} {es : List Expr} {te : TE} {t : TA} {pos : Pos}
theorem pa_nil : PA X [] tNil := fun _ _ _ _ H Q I h => Calls.spliced_nil ⟨[], H, I, .nil, h⟩
theorem pa_cons (ha : PE X e te) (hr : PA X es t) (hs : starEach (e :: es) X.env = (false, eval e X.env) :: starEach es X.env := by rfl) : PA X (e :: es) (tCons te t) := by
  intro pos pins s σ H Q I h
  rw [hs]
  show wpAny _ _ (spliced ((false, eval e X.env) :: backTo pos (starEach es X.env))) _ _ s
  refine Calls.spliced_cons (thn (ha pins s σ H _ I h) fun u s1 ⟨x, H1, I1, r1, q1⟩ => ?_)
  exact thn (hr pos pins s1 σ H1 _ I1 q1) fun us s2 ⟨xs, H2, I2, r2, q2⟩ => ⟨x :: xs, H2, I2, .cons r1 r2, q2⟩
def tTup (t : TA) : TE := fun σ H Q => t σ H fun xs H1 => xs.length ≤ sizeLine ∧ ∀ p, H1 p = none → Q (.ref p) (upd H1 p (.tup xs))
def tLst (t : TA) : TE := fun σ H Q => t σ H fun xs H1 => xs.length ≤ sizeLine ∧ ∀ p, H1 p = none → Q (.ref p) (upd H1 p (.lst xs))
theorem pe_tup {x1} (h : PA X es t) : PE X (.Tuple es x1 pos) (tTup t) := by
  intro pins s σ H Q I hq
  refine wpAny_Tuple_spliced (thn (h pos pins s σ H _ I hq) fun us s1 ⟨xs, H1, I1, r, z, q⟩ => ⟨by rw [← r.length]; exact z, ?_⟩)
  have hf : H1 s1.heap.objs.size = none := I1.hok.fresh (Nat.le_refl _)
  refine ⟨.ref s1.heap.objs.size, upd H1 s1.heap.objs.size (.tup xs), I1.laid (t' := s1.toks) (fun b u e => Heap.get?_push_of_some _ e) (Nat.le_refl _) ?_, rfl, q _ hf⟩
  exact ⟨z, us, r, ⟨_, Heap.get?_push_size _ rfl, rfl, _, rfl⟩⟩
theorem pe_lst (h : PA X es t) : PE X (.List es pos) (tLst t) := by
  intro pins s σ H Q I hq
  refine wpAny_List_spliced (thn (h pos pins s σ H _ I hq) fun us s1 ⟨xs, H1, I1, r, z, q⟩ => ⟨by rw [← r.length]; exact z, ?_⟩)
  have hf : H1 s1.heap.objs.size = none := I1.hok.fresh (Nat.le_refl _)
  refine ⟨.ref s1.heap.objs.size, upd H1 s1.heap.objs.size (.lst xs), I1.laid (t' := s1.toks) (fun b u e => Heap.get?_push_of_some _ e) (Nat.le_refl _) ?_, rfl, q _ hf⟩
  exact ⟨z, us, 0, r, Heap.get?_push_size _ rfl⟩
end
abbrev Sp := List V → Hp → VK → XK → Prop
abbrev CXT := List Env → Hp → Shared → XK → Value → Shared → Prop
structure Env0 (P : Program) (w : World) (K : PySem.W.Frag) (mg : Str → Option Value) (base : Heap) (A : Around) (outer : List Env) (s : Shared) (H : Hp) : Prop where
  frames : A.frames = some outer
  mod : Mod K mg base
  bs : ∀ b o, base.get? b = some o → s.heap.get? b = some o ∧ H b = none
  bsz : base.objs.size ≤ s.heap.objs.size
  funs : s.heap.FunFrames base outer
  frf : ∀ b ∈ frs outer, H b = none
  hok : HOk P w H s.heap
  bare : AllBare s.gens
def CE (outer : List Env) (P : Program) (w : World) (H : Hp) (s : Shared) (Q : VK) (u : Value) (s' : Shared) : Prop :=
  ∃ v H', s'.os = s.os ∧ AllBare s'.gens ∧ Un (frs outer) [] H H' s.heap s'.heap ∧ HOk P w H' s'.heap ∧ RelV v u ∧ Q v H'
def CR (CX : CXT) (outer : List Env) (P : Program) (w : World) (H : Hp) (s : Shared) (Q : VK) (E : XK) (r : Result) (s' : Shared) : Prop :=
  match r with
  | .ok (.ret u) => CE outer P w H s Q u s'
  | .ok _ => False
  | .error e => CX outer H s E e s'
structure FnOk (P : Program) (w : World) (K : PySem.W.Frag) (mg : Str → Option Value) (base : Heap) (CX : CXT) (k : Nat) (f : Addr) (fd : FuncData) (ps : List Str) (sp : Sp) : Prop where
  len : ∀ vs H Q E, sp vs H Q E → vs.length = ps.length
  run : ∀ (A : Around) (outer : List Env) (s : Shared) (H : Hp) (args : Args) (us : List Value) (vs : List V) (Q : VK) (E : XK), Room k A → Env0 P w K mg base A outer s H → BindsTo s fd args (ps.zip us) → Vals vs us → sp vs H Q E →
    codeAny (model P w) A (.call (.ref f) args) (CR CX outer P w H s Q E) s
theorem Env0.make {P : Program} {w : World} {K : PySem.W.Frag} {mg : Str → Option Value} {base : Heap} {A : Around} {outer : List Env} {s : Shared} {H : Hp} (e : Env0 P w K mg base A outer s H) (C : Addr) (us : List Value) (kw : List (Str × Value)) :
    Env0 P w K mg base (A.under (.builtin "type.__call__" ⟨.ref C :: us, kw⟩)) outer s H := ⟨by first | exact e.frames | (simpa [Around.under, Code.envs, Code.isFrame, pushEnvs] using e.frames), e.mod, e.bs, e.bsz, e.funs, e.frf, e.hok, e.bare⟩
section
variable {X : Cx} {pins : List (Addr × Obj)} {σ : St} {H : Hp} {s s' : Shared}
theorem Inv.env0 (I : Inv X pins σ H s) : Env0 X.prog X.w X.K X.mg X.base X.A X.stack s H :=
  ⟨I.ok.frames, I.ok.mod, I.bs, Nat.le_trans I.ok.bsz I.sz, I.stack, I.stkFree, I.hok, I.bare⟩
theorem Inv.after {Q : VK} {u : Value} (I : Inv X pins σ H s) (h : CE X.stack X.prog X.w H s Q u s') : EP X pins σ Q u s' := by
  obtain ⟨v, H', os, bare, un, hok, r, q⟩ := h
  obtain ⟨hh, g, d, t, os'⟩ := s'
  obtain rfl : os' = s.os := os
  exact ⟨v, H', I.call (h' := hh) (g' := g) (d' := d) (t' := t) (ch := []) un hok bare (fun b z => absurd z (by simp)), r, q⟩
end
def tCall (sp : Sp) (dvs : List V) (E : XK) (t : TA) : TE := fun σ H Q => t σ H fun vs H1 => sp (vs ++ dvs) H1 Q E
def tMeth (C : Addr) (m : Str) (sp : Sp) (dvs : List V) (E : XK) (ta : TE) (t : TA) : TE := fun σ H Q => ta σ H fun x H1 => ∃ a dx fs, x = .ref a ∧ H1 a = some (.ins C dx fs) ∧ fs.lookup m = none ∧
  t σ H1 fun vs H2 => sp (x :: (vs ++ dvs)) H2 Q E
def tMake (C : Addr) (sp : Sp) (dvs : List V) (E : XK) (t : TA) : TE := fun σ H Q => t σ H fun vs H1 => ∀ x dx, H1 x = none → H1 dx = none → dx ≠ x →
  sp (.ref x :: (vs ++ dvs)) (upd (upd H1 dx (.own x)) x (.ins C dx [])) (fun v H2 => v = .non ∧ Q (.ref x) H2) E
def Binds (K : PySem.W.Frag) (fd : FuncData) (ps : List Str) (ds : List Value) : Prop :=
  ∀ (s : Shared) (us : List Value), K.In s.heap → (us ++ ds).length = ps.length → BindsTo s fd ⟨us, []⟩ (ps.zip (us ++ ds))
theorem Binds.all {K : PySem.W.Frag} {fd : FuncData} {ps : List Str} (h : ∀ us : List Value, us.length = ps.length → bindArgs fd ⟨us, []⟩ = pure (ps.zip us)) : Binds K fd ps [] := fun s us _ hl => by
  rw [List.append_nil] at hl ⊢
  exact .of_eq (h us hl)
def Passes (CX : CXT) (X : Cx) (E : XK) : Prop := ∀ (pins : List (Addr × Obj)) (σ : St) (H : Hp) (s : Shared) (e : Value) (s' : Shared), Inv X pins σ H s → CX X.stack H s E e s' → X.xe e s'
section
variable {X : Cx} {CX : CXT} {k : Nat} {f C : Addr} {fd : FuncData} {ps : List Str} {sp : Sp} {dvs : List V} {ds : List Value} {E : XK} {x m : Str} {p pos apos : Pos} {e o : Expr} {es : List Expr} {ta : TE} {t : TA}
theorem run_fn {pins : List (Addr × Obj)} {σ : St} {H : Hp} {s : Shared} {Q : VK} {us : List Value} {vs : List V} (F : FnOk X.prog X.w X.K X.mg X.base CX k f fd ps sp) (hr : Room k X.A) (hb : Binds X.K fd ps ds) (hd : Vals dvs ds) (hx : Passes CX X E)
    (I : Inv X pins σ H s) (r : Vals vs us) (h : sp (vs ++ dvs) H Q E) : wpAny (model X.prog X.w) X.A (call (.ref f) us) (EP X pins σ Q) X.xe s := by
  have r2 : Vals (vs ++ dvs) (us ++ ds) := r.append hd
  have hl : (us ++ ds).length = ps.length := by rw [← r2.length]; exact F.len _ _ _ _ h
  refine wpAny_call (codeAny_mono (F.run X.A X.stack s H ⟨us, []⟩ (us ++ ds) (vs ++ dvs) Q E hr I.env0 (hb s us I.kIn hl) r2 h) fun r s' hq => ?_)
  cases r with
  | error e => exact hx pins σ H s e s' I hq
  | ok fl =>
    cases fl with
    | ret u => exact I.after hq
    | next => exact False.elim hq
    | brk => exact False.elim hq
    | cont => exact False.elim hq
theorem pe_call (F : FnOk X.prog X.w X.K X.mg X.base CX k f fd ps sp) (hr : Room k X.A) (hg : Gl X x) (hm : X.mg x = some (.ref f)) (hk : PySem.W.keepIn X.K (.ref f) = true) (hb : Binds X.K fd ps ds) (hd : Vals dvs ds) (hx : Passes CX X E)
    (ha : PA X (e :: es) t) (hdb : (x == ("__debug__" : Str)) = false := by decide) (he : starEach (e :: es) X.env = (false, eval e X.env) :: starEach es X.env := by rfl) (hpl : (backTo pos (starEach es X.env)).any (·.1) = false := by rfl) :
    PE X (.Call (.Name x p) (e :: es) [] pos) (tCall sp dvs E t) := by
  intro pins s σ H Q I h
  refine wpAny_Call_Name_kw (ld_glob I hg hm ?_ hdb)
  refine PySem.W.callWith_K (h₀ := X.base) I.ok.mod.kin hk (thn (ha pos pins s σ H _ I h) fun us s1 ⟨vs, H1, I1, r, q⟩ => ⟨I1.kIn, ?_⟩) he hpl
  exact run_fn F hr hb hd hx I1 r q
theorem pe_meth0 {pl : Sem Bool} (he : PE X o ta) (c : Cls X.K C) (hm : Meth X.K C m f) (F : FnOk X.prog X.w X.K X.mg X.base CX k f fd ps sp) (hr : Room k X.A) (hb : Binds X.K fd ps ds) (hd : Vals dvs ds) (hx : Passes CX X E)
    (ht : eval (.Call (.Attribute o m apos) [] [] pos) X.env = (do
      let ov ← eval o X.env
      standAt apos.atName
      let (f, first) ← holding [ov] (getMethod ov m pl)
      callWith pos f first (backTo pos (starEach [] X.env)) (backToKw pos (keywordEach [] X.env))) := by rfl) :
    PE X (.Call (.Attribute o m apos) [] [] pos) (tMeth C m sp dvs E ta tNil) := by
  intro pins s σ H Q I h
  refine PySem.W.methodCall_KW (pl := pl) (thn (he pins s σ H _ I h) fun u s1 ⟨x, H1, I1, rx, a, dx, fs, ex, ea, l, q⟩ => ?_) ht
  subst ex
  obtain rfl : u = Value.ref a := rx
  refine getmeth_ok I1 ea c hm l ?_
  exact PySem.W.callWith_K0 (first := [.ref a]) I1.kIn hm.kp (run_fn (us := [.ref a]) (vs := [.ref a]) F hr hb hd hx I1 (.cons rfl .nil) q)
structure Mk (K : PySem.W.Frag) (C f : Addr) : Prop where
  makes : PySem.W.makesIn K C = true
  init : PySem.W.findIn K (.ref C) "__init__" = some (some (.ref f))
  fn : PySem.W.isFn K (.ref f) = true
  kp : PySem.W.keepIn K (.ref C) = true
theorem run_make {pins : List (Addr × Obj)} {σ : St} {H : Hp} {s : Shared} {Q : VK} {us : List Value} {vs : List V} (M : Mk X.K C f) (F : FnOk X.prog X.w X.K X.mg X.base CX k f fd ps sp) (hr : Room (k + 1) X.A) (hb : Binds X.K fd ps ds) (hd : Vals dvs ds)
    (hx : Passes CX X E) (I : Inv X pins σ H s) (r : Vals vs us)
    (h : ∀ x dx, H x = none → H dx = none → dx ≠ x → sp (.ref x :: (vs ++ dvs)) (upd (upd H dx (.own x)) x (.ins C dx [])) (fun v H2 => v = .non ∧ Q (.ref x) H2) E) :
    wpAny (model X.prog X.w) X.A (call (.ref C) us) (EP X pins σ Q) X.xe s := by
  have hq := h (s.heap.objs.size + 1) s.heap.objs.size (I.hok.fresh (Nat.le_succ _)) (I.hok.fresh (Nat.le_refl _)) (Nat.ne_of_lt (Nat.lt_succ_self _))
  have I2 := Inv.made (C := C) I
  have r2 : Vals (V.ref (s.heap.objs.size + 1) :: (vs ++ dvs)) (Value.ref (s.heap.objs.size + 1) :: (us ++ ds)) := .cons rfl (r.append hd)
  have hl : (Value.ref (s.heap.objs.size + 1) :: us ++ ds).length = ps.length := by
    have e := r2.length
    rw [F.len _ _ _ _ hq] at e
    exact e.symm
  refine wpAny_call (make_map (f := f) I.kIn M.makes M.init (beq_iff_eq.mp M.fn) (codeAny_mono (F.run _ X.stack _ _ ⟨Value.ref (s.heap.objs.size + 1) :: us, []⟩ (Value.ref (s.heap.objs.size + 1) :: (us ++ ds)) _ _ E (hr.make C us [])
    (I2.env0.make C us []) (hb _ (Value.ref (s.heap.objs.size + 1) :: us) I2.kIn hl) r2 hq) fun r s' hq' => ?_))
  cases r with
  | error e => exact hx pins σ _ _ e s' I2 hq'
  | ok fl =>
    cases fl with
    | ret u =>
      obtain ⟨v, H', I3, rv, ev, q3⟩ := I2.after hq'
      subst ev
      exact ⟨rv, ⟨V.ref (s.heap.objs.size + 1), H', I3, rfl, q3⟩⟩
    | next => exact False.elim hq'
    | brk => exact False.elim hq'
    | cont => exact False.elim hq'
theorem pe_make (M : Mk X.K C f) (F : FnOk X.prog X.w X.K X.mg X.base CX k f fd ps sp) (hr : Room (k + 1) X.A) (hg : Gl X x) (hm : X.mg x = some (.ref C)) (hb : Binds X.K fd ps ds) (hd : Vals dvs ds) (hx : Passes CX X E)
    (ha : PA X (e :: es) t) (hdb : (x == ("__debug__" : Str)) = false := by decide) (he : starEach (e :: es) X.env = (false, eval e X.env) :: starEach es X.env := by rfl) (hpl : (backTo pos (starEach es X.env)).any (·.1) = false := by rfl) :
    PE X (.Call (.Name x p) (e :: es) [] pos) (tMake C sp dvs E t) := by
  intro pins s σ H Q I h
  refine wpAny_Call_Name_kw (ld_glob I hg hm ?_ hdb)
  refine PySem.W.callWith_K (h₀ := X.base) I.ok.mod.kin M.kp (thn (ha pos pins s σ H _ I h) fun us s1 ⟨vs, H1, I1, r, q⟩ => ⟨I1.kIn, ?_⟩) he hpl
  exact run_make M F hr hb hd hx I1 r q
end
def PK (X : Cx) (kws : List Keyword) (t : TA) : Prop :=
  ∀ (pos : Pos) (pins : List (Addr × Obj)) (s : Shared) (σ : St) (H : Hp) (Q : List V → Hp → Prop), Inv X pins σ H s → t σ H Q → wpAny (model X.prog X.w) X.A (evalAll ((backToKw pos (keywordEach kws X.env)).map (·.2))) (AP X pins σ Q) X.xe s
section
variable {X : Cx} {CX : CXT} {k : Nat} {f C : Addr} {fd : FuncData} {ps ks : List Str} {sp : Sp} {E : XK} {x m : Str} {p pos apos kpos : Pos} {e o : Expr} {es : List Expr} {kws : List Keyword} {te ta : TE} {t tk : TA} {nm : Option Str}
structure KBinds (K : PySem.W.Frag) (fd : FuncData) (ps ks : List Str) (g : List Value → List Value → List Value) (gV : List V → List V → List V) : Prop where
  to : ∀ (s : Shared) (us ws : List Value), K.In s.heap → (g us ws).length = ps.length → BindsTo s fd ⟨us, ks.zip ws⟩ (ps.zip (g us ws))
  rel : ∀ {vs : List V} {us : List Value} {zs : List V} {ws : List Value}, Vals vs us → Vals zs ws → Vals (gV vs zs) (g us ws)
def tCallK (sp : Sp) (gV : List V → List V → List V) (E : XK) (t tk : TA) : TE := fun σ H Q => t σ H fun vs H1 => tk σ H1 fun zs H2 => sp (gV vs zs) H2 Q E
variable {g : List Value → List Value → List Value} {gV : List V → List V → List V}
end
structure FnScope (N P : List Str) (sc : Scope) : Prop where
  kind : sc.kind = .function
  co : sc.isCoroutine = false
  gen : sc.isGenerator = false
  nd : N.Nodup
  pre : N.take P.length = P
  par : ∀ x ∈ P, sc.names.lookup x = some .local ∨ sc.names.lookup x = some .cell
  nofree : ∀ y ∈ sc.names, y.2 ≠ .free
theorem bindL_out {kindOf : Str → Option NameKind} {x : Str} : ∀ {binds : List (Str × Value)} {m : Str → Option Value}, (∀ v, (x, v) ∉ binds) → bindL kindOf binds m x = m x
  | [], _, _ => rfl
  | (n, v) :: r, m, h => by
    unfold bindL
    rw [bindL_out fun w hw => h w (List.mem_cons_of_mem _ hw)]
    split
    · have : x ≠ n := by rintro rfl; exact h v List.mem_cons_self
      simp [this]
    · rfl
theorem bindC_out {kindOf : Str → Option NameKind} {x : Str} : ∀ {binds : List (Str × Value)} {m : Str → Option Value}, (∀ v, (x, v) ∉ binds) → bindC kindOf binds m x = m x
  | [], _, _ => rfl
  | (n, v) :: r, m, h => by
    unfold bindC
    rw [bindC_out fun w hw => h w (List.mem_cons_of_mem _ hw)]
    split
    · rfl
    · have : x ≠ n := by rintro rfl; exact h v List.mem_cons_self
      simp [this]
theorem bindL_get {kindOf : Str → Option NameKind} {x : Str} {v : Value} : ∀ {P : List Str} {vs : List Value} {i : Nat} {m : Str → Option Value}, P.Nodup → P[i]? = some x → vs[i]? = some v → kindOf x = some .local →
    bindL kindOf (P.zip vs) m x = some v
  | [], _, _, _, _, h, _, _ => by simp at h
  | _ :: _, [], _, _, _, _, h, _ => by simp at h
  | p :: P, w :: vs, 0, m, nd, h1, h2, hk => by
    simp at h1 h2; subst h1; subst h2
    show bindL kindOf ((p, w) :: P.zip vs) m p = _
    unfold bindL
    rw [bindL_out fun v hv => (List.nodup_cons.mp nd).1 (List.of_mem_zip hv).1, if_pos hk]
    simp
  | p :: P, w :: vs, i + 1, m, nd, h1, h2, hk => by
    show bindL kindOf ((p, w) :: P.zip vs) m x = _
    unfold bindL
    exact bindL_get (i := i) (List.nodup_cons.mp nd).2 (by simpa using h1) (by simpa using h2) hk
theorem bindC_get {kindOf : Str → Option NameKind} {x : Str} {v : Value} : ∀ {P : List Str} {vs : List Value} {i : Nat} {m : Str → Option Value}, P.Nodup → P[i]? = some x → vs[i]? = some v → kindOf x ≠ some .local →
    bindC kindOf (P.zip vs) m x = some v
  | [], _, _, _, _, h, _, _ => by simp at h
  | _ :: _, [], _, _, _, _, h, _ => by simp at h
  | p :: P, w :: vs, 0, m, nd, h1, h2, hk => by
    simp at h1 h2; subst h1; subst h2
    show bindC kindOf ((p, w) :: P.zip vs) m p = _
    unfold bindC
    rw [bindC_out fun v hv => (List.nodup_cons.mp nd).1 (List.of_mem_zip hv).1, if_neg hk]
    simp
  | p :: P, w :: vs, i + 1, m, nd, h1, h2, hk => by
    show bindC kindOf ((p, w) :: P.zip vs) m x = _
    unfold bindC
    exact bindC_get (i := i) (List.nodup_cons.mp nd).2 (by simpa using h1) (by simpa using h2) hk
def start (N : List Str) (vs : List V) : St := vs.map some ++ List.replicate (N.length - vs.length) none
def cxOf (CX : CXT) (P : Program) (w : World) (K : PySem.W.Frag) (mg : Str → Option Value) (base : Heap) (N : List Str) (qual : Str) (scope : Scope) (f : Addr) (cd : Value) (A : Around) (outer : List Env) (s : Shared) (H : Hp) (E : XK) : Cx where
  prog := P
  w := w
  K := K
  mg := mg
  base := base
  A := A.deeper (envOfC qual scope s.heap.objs.size f cd)
  N := N
  s₀ := s
  H₀ := H
  env := envOfC qual scope s.heap.objs.size f cd
  outer := outer
  stack := envOfC qual scope s.heap.objs.size f cd :: outer
  ex := []
  calm := true
  fn := fun _ => true
  pn := []
  xe := fun e s' => wpAny (model P w) (A.deeper (envOfC qual scope s.heap.objs.size f cd)) (leaving (envOfC qual scope s.heap.objs.size f cd) e) (fun _ s'' => CX outer H s E e s'') (fun e' s'' => CX outer H s E e' s'') s'
theorem cell_has {sc : Scope} {n : Nat} {x : Str} (h : sc.names.lookup x = some .cell) : ∃ c, (cellsFrom n sc.names []).lookup x = some c := by
  have q := PySem.W.cellsFrom_some sc.names n [] (.inl h)
  exact Option.isSome_iff_exists.mp q
theorem inv_start {CX : CXT} {P : Program} {w : World} {K : PySem.W.Frag} {mg : Str → Option Value} {base : Heap} {N ps : List Str} {qual : Str} {scope : Scope} {f : Addr} {cd : Value} {A : Around} {outer : List Env} {s s1 : Shared} {H : Hp} {E : XK} {us : List Value} {vs : List V}
    (S : FnScope N ps scope) (hd : A.handled = none) (e0 : Env0 P w K mg base A outer s H) (hl : vs.length = ps.length) (r : Vals vs us)
    (x : InCallC s s.heap.objs.size (bindL (envOfC qual scope s.heap.objs.size f cd).kindOf (ps.zip us) fun _ => none) (cellsFrom (s.heap.objs.size + 1) scope.names []) (bindC (envOfC qual scope s.heap.objs.size f cd).kindOf (ps.zip us) fun _ => none) s1) :
    Inv (cxOf CX P w K mg base N qual scope f cd A outer s H E) [] (start N vs) H s1 := by
  have hpl : ps.length ≤ N.length := by have := congrArg List.length S.pre; rw [List.length_take] at this; omega
  obtain ⟨h1, tk, rfl, hk⟩ := x.done
  have noA : ∀ b : Addr, b ∉ (cxOf CX P w K mg base N qual scope f cd A outer s H E).ex := fun b z => absurd (show b ∈ ([] : List Addr) from z) (by simp)
  refine ⟨⟨e0.mod, S.kind, rfl, rfl, Nat.le_refl _, fun y z c h1 h2 => ?_, fun y hy => ?_, fun y c _ h => ?_, fun _ => hd, Around.frames_deeper e0.frames, .inr ⟨rfl, rfl⟩, fun b z => absurd z (noA b), e0.bs, e0.bsz, fun b _ _ => noA b, fun b z => absurd z (noA b), e0.funs, e0.frf⟩,
    rfl, e0.bare, Un.kept hk, ⟨_, x.toInCall.ns, fun i y v h1 h2 h3 => ?_⟩, fun y c h => ⟨_, x.cell y c h⟩, e0.hok.fresh (Nat.le_refl _), fun y c h => ?_, fun p hp => absurd (show p ∈ ([] : List (Addr × Obj)) from hp) (by simp), e0.hok.kept hk, ?_⟩
  · exact name_of_addr x.apart (PySem.mem_of_lookup h1) (PySem.mem_of_lookup h2)
  · have hy : scope.names.lookup y = some .cell ∨ scope.names.lookup y = some .free := hy
    rcases hy with hy | hy
    · exact cell_has hy
    · exact absurd rfl (S.nofree _ (PySem.mem_of_lookup hy))
  · exact Nat.le_of_lt (x.above y c (PySem.mem_of_lookup h))
  · have hi : i < vs.length := by
      unfold start at h2
      by_cases hi : i < vs.length
      · exact hi
      · rw [List.getElem?_append_right (by simpa using hi)] at h2
        rw [List.getElem?_replicate] at h2
        split at h2 <;> cases h2
    have ha : vs[i]? = some v := by
      unfold start at h2
      rw [List.getElem?_append_left (by simpa using hi), List.getElem?_map] at h2
      cases e : vs[i]? with
      | none => rw [e] at h2; cases h2
      | some a => rw [e] at h2; cases h2; rfl
    obtain ⟨u, hu, rv⟩ := r.get ha
    have hp : ps[i]? = some y := by
      rw [← S.pre, List.getElem?_take_of_lt (by omega)]; exact h1
    have ndP : ps.Nodup := by rw [← S.pre]; exact S.nd.sublist (List.take_sublist _ _)
    refine ⟨u, rv, ?_⟩
    rcases S.par y (List.mem_of_getElem? hp) with k | k
    · exact .inl ⟨k, bindL_get ndP hp hu k⟩
    · obtain ⟨c, e⟩ := cell_has (n := s.heap.objs.size + 1) k
      refine .inr ⟨.inl k, c, e, ?_⟩
      have q := x.cell y c e
      rw [bindC_get ndP hp hu (by show scope.names.lookup y ≠ _; rw [k]; decide)] at q
      exact q
  · exact e0.hok.fresh (Nat.le_of_lt (x.above y c (PySem.mem_of_lookup h)))
  · unfold start
    show _ = N.length
    rw [List.length_append, List.length_map, List.length_replicate]
    omega
theorem fn_of {CX : CXT} {P : Program} {w : World} {K : PySem.W.Frag} {mg : Str → Option Value} {base : Heap} {k : Nat} {f : Addr} {name qual : Str} {params : Arguments} {body : List Stmt} {scope : Scope} {dV kV doc pm cdv ct oc : Value} {an od : Option Addr}
    {osl : Array (Option Value)} {N ps : List Str} {sp : Sp} (lk : K.lookup f = some ⟨oc, od, .func (PySem.W.fnOf name qual params body scope dV kV doc pm an cdv ct), osl⟩) (hcd : PySem.W.codeIn K cdv qual = true) (S : FnScope N ps scope)
    (len : ∀ vs H Q E, sp vs H Q E → vs.length = ps.length)
    (hbody : ∀ (A : Around) (outer : List Env) (s : Shared) (H : Hp) (vs : List V) (Q : VK) (E : XK), Room k (A.deeper (envOfC qual scope s.heap.objs.size f cdv)) → sp vs H Q E →
      ∃ t, PSs (cxOf CX P w K mg base N qual scope f cdv A outer s H E) body t ∧ t { nx := fun _ H' => Q .non H', rt := Q } (start N vs) H) :
    FnOk P w K mg base CX (k + 1) f (PySem.W.fnOf name qual params body scope dV kV doc pm an cdv ct) ps sp := by
  refine ⟨len, fun A outer s H args us vs Q E hr e0 hb r hsp => ?_⟩
  have hl := len _ _ _ _ hsp
  have KX : K.In s.heap := e0.mod.kin.keeps fun b o e => (e0.bs b o e).1
  have lim : s.heap.NoLimit := e0.mod.nolimit.keeps fun b o e => (e0.bs b o e).1
  have hkind : ∀ y ∈ ps.zip us, scope.names.lookup y.1 = some .local ∨ (scope.names.lookup y.1 = some .cell ∧ ((cellsFrom (s.heap.objs.size + 1) scope.names []).lookup y.1).isSome = true) := fun ⟨n, v⟩ hy => by
    rcases S.par n (List.of_mem_zip hy).1 with q | q
    · exact .inl q
    · exact .inr ⟨q, PySem.W.cellsFrom_some _ _ _ (.inl q)⟩
  refine codeAny_call_function hr.depth (KX _ _ lk) rfl S.co S.gen rfl (PySem.W.codeRec_of KX hcd) (hb _ _ _ _ ?_)
  refine wpAny_newFunctionEnv_cells S.kind hkind fun env he s1 x => ?_
  subst he
  refine ⟨lim.keeps x.toInCall.keep, codeAny_func ?_⟩
  obtain ⟨t, ht, hq⟩ := hbody A outer s H vs Q E (hr.deeper _) hsp
  have I : Inv (cxOf CX P w K mg base N qual scope f cdv A outer s H E) [] (start N vs) H s1 := inv_start S hr.hd e0 hl r x
  refine wpAny_mono (ht [] s1 (start N vs) H _ I hq) (fun fl s' hs => ?_) fun e s' hs => hs
  have fin : ∀ {σ' : St} {H' : Hp} {v : V} {u : Value}, Inv (cxOf CX P w K mg base N qual scope f cdv A outer s H E) [] σ' H' s' → RelV v u → Q v H' → CE outer P w H s Q u s' :=
    fun {σ' H' v u} J rv q => ⟨v, H', J.os, J.bare, J.base, J.hok, rv, q⟩
  cases fl with
  | ret u =>
    obtain ⟨v, σ', H', J, rv, q⟩ := hs
    exact fin J rv q
  | next =>
    obtain ⟨σ', H', J, q⟩ := hs
    exact fin (v := V.non) (u := Value.none) J rfl q
  | brk =>
    obtain ⟨_, _, _, q⟩ := hs
    exact False.elim q
  | cont =>
    obtain ⟨_, _, _, q⟩ := hs
    exact False.elim q
end L2
namespace L2
open PySem PySem.Spec PyProof.Rows
section
variable {X : Cx} {x : Str} {p pos : Pos} {e : Expr} {es : List Expr} {t : TA} {id T : String} {r : List V → Hp → VK → Prop}
def tCB (r : List V → Hp → VK → Prop) (t : TA) : TE := fun σ H Q => t σ H fun vs H1 => r vs H1 Q
theorem pe_callB (hc : CallR X (.builtin id) r) (hg : Gl X x) (hm : X.mg x = none) (hv : bootBuiltins x = some (.builtin id)) (ha : PA X (e :: es) t) (hn : x ≠ "__name__" := by decide) (hdb : (x == ("__debug__" : Str)) = false := by decide)
    (he : starEach (e :: es) X.env = (false, eval e X.env) :: starEach es X.env := by rfl) (hpl : (backTo pos (starEach es X.env)).any (·.1) = false := by rfl) : PE X (.Call (.Name x p) (e :: es) [] pos) (tCB r t) := by
  intro pins s σ H Q I h
  refine wpAny_Call_Name_kw (ld_blt I hg hm hv ?_ hn hdb)
  exact PyProof.Rows.callWith_builtin1 (thn (ha pos pins s σ H _ I h) fun us s1 ⟨vs, H1, I1, r1, q1⟩ => hc pins s1 σ H1 vs us Q I1 r1 q1) he hpl
theorem pe_callTy (hc : CallR X (.type T) r) (hg : Gl X x) (hm : X.mg x = none) (hv : bootBuiltins x = some (.type T)) (ha : PA X (e :: es) t) (hn : x ≠ "__name__" := by decide) (hdb : (x == ("__debug__" : Str)) = false := by decide)
    (he : starEach (e :: es) X.env = (false, eval e X.env) :: starEach es X.env := by rfl) (hpl : (backTo pos (starEach es X.env)).any (·.1) = false := by rfl) : PE X (.Call (.Name x p) (e :: es) [] pos) (tCB r t) := by
  intro pins s σ H Q I h
  refine wpAny_Call_Name_kw (ld_blt I hg hm hv ?_ hn hdb)
  exact PyProof.Rows.callWith_type1 (thn (ha pos pins s σ H _ I h) fun us s1 ⟨vs, H1, I1, r1, q1⟩ => hc pins s1 σ H1 vs us Q I1 r1 q1) he hpl
end
end L2
namespace HT
open PySem PyProof.Rows
def lexLt : List Int → List Int → Bool
  | [], [] => false
  | [], _ :: _ => true
  | _ :: _, [] => false
  | x :: xs, y :: ys => if x = y then lexLt xs ys else decide (x < y)
section
open PySem.SeqAt
open PySem.AutoSeq1 (wpAny_loadPart')
open PySem.MeetsSeq PySem.MeetsSeq2 PySem.MeetsSeq3
end
section
variable {prog : Program} {w : World} {A : Around} {E : Value → Shared → Prop} {s : Shared}
def sIx (n d : Nat) : Option Int → Nat
  | none => d
  | some v => if v < 0 then (v + (n : Int)).toNat else min v.toNat n
theorem sIx_none (n d : Nat) : sIx n d none = d := rfl
theorem sIx_nat (n d k : Nat) : sIx n d (some (k : Int)) = min k n := by
  show (if (k : Int) < 0 then ((k : Int) + (n : Int)).toNat else min (k : Int).toNat n) = min k n
  rw [if_neg (by omega), Int.toNat_natCast]
end
end HT
namespace L2
open PySem PySem.Spec PyProof.Rows
abbrev TO := St → Hp → (Option Int → Hp → Prop) → Prop
def PO (X : Cx) (e : Option Expr) (t : TO) : Prop :=
  ∀ (pins : List (Addr × Obj)) (s : Shared) (σ : St) (H : Hp) (Q : Option Int → Hp → Prop), Inv X pins σ H s → t σ H Q →
    wpAny (model X.prog X.w) X.A (evalPart e X.env) (fun u s' => ∃ o H', Inv X pins σ H' s' ∧ IsPart u o ∧ Q o H') X.xe s
def tNoPart : TO := fun _ H Q => Q none H
def tPart (t : TE) : TO := fun σ H Q => t σ H fun x H1 => ∃ i, x = .int i ∧ Q (some i) H1
theorem intsAre_of {ns : List Int} : ∀ {us : List Value}, Vals (ns.map V.int) us → IntsAre us ns := by
  induction ns with
  | nil => intro us r; rw [List.map_nil] at r; cases r; exact .nil
  | cons n ns ih =>
    intro us r
    rw [List.map_cons] at r
    cases r with
    | cons r1 r2 =>
      obtain ⟨t, e⟩ := r1
      subst e
      exact .cons n t (ih r2)
section
variable {X : Cx} {e : Expr} {te : TE} {lo hi : Option Expr} {tl th : TO} {pos p2 : Pos}
theorem po_none : PO X none tNoPart := by
  intro pins s σ H Q I h
  rw [evalPart_none]
  exact wpAny_pure ⟨none, H, I, .none, h⟩
theorem po_some (h : PE X e te) : PO X (some e) (tPart te) := by
  intro pins s σ H Q I hw
  rw [evalPart_some]
  refine thn (h pins s σ H _ I hw) fun u s1 ⟨x, H1, I1, r1, q1⟩ => ?_
  obtain ⟨i, rfl, q⟩ := q1
  obtain ⟨t, rfl⟩ := r1
  exact ⟨some i, H1, I1, .int i t, q⟩
def SlR (X : Cx) (r : V → Option Int → Option Int → Hp → VK → Prop) : Prop :=
  ∀ (pins : List (Addr × Obj)) (s : Shared) (σ : St) (H : Hp) (x : V) (v vl vu : Value) (lo hi : Option Int) (sl : Addr) (Q : VK), Inv X pins σ H s → RelV x v → s.heap.IsSliceOf sl vl vu .none → IsPart vl lo → IsPart vu hi → r x lo hi H Q →
    ∃ T id, typeLookup (.type T) "__getitem__" = pure (some (.builtin id)) ∧ s.TypeIs v T ∧ wpAny (model X.prog X.w) X.A (getItem v (.ref sl)) (EP X pins σ Q) X.xe s
def tSl (r : V → Option Int → Option Int → Hp → VK → Prop) (te : TE) (tl th : TO) : TE := fun σ H Q => te σ H fun x H1 => tl σ H1 fun l H2 => th σ H2 fun u H3 => r x l u H3 Q
theorem pe_slice {r : V → Option Int → Option Int → Hp → VK → Prop} (hr : SlR X r) (he : PE X e te) (hl : PO X lo tl) (hu : PO X hi th) : PE X (.Subscript e (.Slice lo hi none p2) pos) (tSl r te tl th) := by
  intro pins s σ H Q I h
  refine Subscript_ (thn (he pins s σ H _ I h) fun v s1 ⟨x, H1, I1, r1, q1⟩ => ?_)
  refine wpAny_Slice (thn (hl pins s1 σ H1 _ I1 q1) fun vl s2 ⟨l, H2, I2, pl, q2⟩ => thn (hu pins s2 σ H2 _ I2 q2) fun vu s3 ⟨u, H3, I3, pu, q3⟩ => ?_)
  rw [evalPart_none]
  refine wpAny_pure ?_
  have I4 : Inv X pins σ H3 { s3 with heap := s3.heap.push { cls := .type "slice", data := .fields #[vl, vu, .none] } } := I3.kept (t' := s3.toks) fun b ob q => Heap.get?_push_of_some _ q
  obtain ⟨T, id, hT, ht, hg⟩ := hr pins { s3 with heap := s3.heap.push { cls := .type "slice", data := .fields #[vl, vu, .none] } } σ H3 x v vl vu l u s3.heap.objs.size Q I4 r1 (Heap.IsSliceOf.new ..) pl pu q3
  show wpAny (model X.prog X.w) X.A (subscriptTail e (.Slice lo hi none p2) v (.ref s3.heap.objs.size)) (EP X pins σ Q) X.xe { s3 with heap := s3.heap.push { cls := .type "slice", data := .fields #[vl, vu, .none] } }
  exact tail_any (ops := [.ref s3.heap.objs.size, v]) ht hT hg (by with_unfolding_all rfl)
def cutV (xs : List V) (lo hi : Option Int) : List V := (xs.drop (HT.sIx xs.length 0 lo)).take (HT.sIx xs.length xs.length hi - HT.sIx xs.length 0 lo)
theorem cutV_length (xs : List V) (lo hi : Option Int) : (cutV xs lo hi).length ≤ xs.length := by
  unfold cutV
  rw [List.length_take, List.length_drop]
  omega
def rSlT (K : PySem.W.Frag) : V → Option Int → Option Int → Hp → VK → Prop := fun x lo hi H Q => ∃ a xs, x = .ref a ∧ SqT K H a xs ∧
  ¬ (HT.sIx xs.length 0 lo = 0 ∧ HT.sIx xs.length xs.length hi = xs.length) ∧ ∀ p, H p = none → Q (.ref p) (upd H p (.tup (cutV xs lo hi)))
def rLtT (K : PySem.W.Frag) : R2 := fun x y H Q => ∃ a b ns ms, x = .ref a ∧ y = .ref b ∧ SqT K H a (ns.map V.int) ∧ SqT K H b (ms.map V.int) ∧ Q (.bl (HT.lexLt ns ms)) H
def rCatT (K : PySem.W.Frag) : R2 := fun x y H Q => ∃ a b xs ys, x = .ref a ∧ y = .ref b ∧ SqT K H a xs ∧ SqT K H b ys ∧ xs ≠ [] ∧ xs.length + ys.length ≤ sizeLine ∧
  (ys = [] → Q (.ref a) H) ∧ (ys ≠ [] → ∀ p, H p = none → Q (.ref p) (upd H p (.tup (xs ++ ys))))
end
end L2
namespace L2
open PySem PySem.Spec PyProof.Rows
def ixN (n : Nat) (i : Int) : Option Nat := if 0 ≤ i then (if i < n then some i.toNat else none) else if -(n : Int) ≤ i then some (i + n).toNat else none
def atI {α : Type} (xs : List α) (i : Int) : Option α := (ixN xs.length i).bind fun j => xs[j]?
theorem ixN_seq {n : Nat} {i : Int} {j : Nat} (h : ixN n i = some j) : seqIndex? i n = some j ∧ j < n ∧ -(n : Int) ≤ i ∧ i < n := by
  unfold ixN at h
  by_cases h0 : 0 ≤ i
  · rw [if_pos h0] at h
    by_cases h1 : i < n
    · rw [if_pos h1] at h
      have e : i.toNat = j := Option.some.inj h
      exact ⟨by rw [seqIndex_of h0 h1, e], by omega, by omega, h1⟩
    · rw [if_neg h1] at h; cases h
  · rw [if_neg h0] at h
    by_cases h1 : -(n : Int) ≤ i
    · rw [if_pos h1] at h
      have e : (i + n).toNat = j := Option.some.inj h
      exact ⟨by rw [seqIndex_neg (by omega) h1, e], by omega, h1, by omega⟩
    · rw [if_neg h1] at h; cases h
theorem atI_get {α : Type} {xs : List α} {i : Int} {v : α} (h : atI xs i = some v) : ∃ j, seqIndex? i xs.length = some j ∧ xs[j]? = some v ∧ j < xs.length ∧ -(xs.length : Int) ≤ i ∧ i < xs.length := by
  unfold atI at h
  cases e : ixN xs.length i with
  | none => rw [e] at h; cases h
  | some j =>
    rw [e] at h
    obtain ⟨h1, h2, h3, h4⟩ := ixN_seq e
    exact ⟨j, h1, h, h2, h3, h4⟩
theorem atI_nat {α : Type} {xs : List α} {j : Nat} {v : α} (h : xs[j]? = some v) : atI xs (j : Int) = some v := by
  have hj : j < xs.length := (List.getElem?_eq_some_iff.mp h).1
  have e : ixN xs.length (j : Int) = some j := by
    unfold ixN
    rw [if_pos (by omega), if_pos (by omega)]; simp
  unfold atI; rw [e]; exact h
def PlainIx (b : Expr) : Prop := ∀ o i, subscripted b false o i = operate [o, i] (getItem o i)
def IxR (X : Cx) (r : R2) : Prop :=
  ∀ (value slice : Expr) (pins : List (Addr × Obj)) (s : Shared) (σ : St) (H : Hp) (x y : V) (v u : Value) (Q : VK), Inv X pins σ H s → RelV x v → RelV y u → r x y H Q →
    subscripted slice false v u = operate [v, u] (getItem v u) → wpAny (model X.prog X.w) X.A (subscriptTail value slice v u) (EP X pins σ Q) X.xe s
def MtR (X : Cx) (id : String) (r : V → List V → Hp → VK → Prop) : Prop :=
  ∀ (pins : List (Addr × Obj)) (s : Shared) (σ : St) (H : Hp) (x : V) (xs : List V) (v : Value) (us : List Value) (Q : VK), Inv X pins σ H s → RelV x v → Vals xs us → r x xs H Q →
    wpAny (model X.prog X.w) X.A (call (.builtin id) (v :: us)) (EP X pins σ Q) X.xe s
section
variable {X : Cx} {a b : Expr} {ta tb : TE} {pos : Pos}
theorem pe_ix {r : R2} (hr : IxR X r) (ha : PE X a ta) (hb : PE X b tb) (hs : PlainIx b) : PE X (.Subscript a b pos) (tOp r ta tb) := by
  intro pins s σ H Q I h
  exact Subscript_ (binT ha hb I h fun v u s2 x y H2 I2 rx ry q => hr a b pins s2 σ H2 x y v u Q I2 rx ry q (hs _ _))
def rIxL (K : PySem.W.Frag) : R2 := fun x y H Q => ∃ p xs i v, x = .ref p ∧ y = .int i ∧ SqL K H p xs ∧ atI xs i = some v ∧ Q v H
def rIxT (K : PySem.W.Frag) : R2 := fun x y H Q => ∃ p xs i v, x = .ref p ∧ y = .int i ∧ SqT K H p xs ∧ atI xs i = some v ∧ Q v H
def rIxS : R2 := fun x y H Q => ∃ z i c, x = .str z ∧ y = .int i ∧ z.length ≤ sizeLine ∧ atI z.cps.toList i = some c ∧ Q (.str ⟨#[c]⟩) H
theorem ix_list : IxR X (rIxL X.K) := by
  intro value slice pins s σ H x y v u Q I rx ry h hs
  obtain ⟨p, xs, i, z, rfl, rfl, hq, he, q⟩ := h
  cases rx
  obtain ⟨t, rfl⟩ := ry
  obtain ⟨its, r, pl, hz⟩ := I.list hq
  obtain ⟨j, h1, h2, h3, h4, h5⟩ := atI_get he
  obtain ⟨w, ew, rw'⟩ := r.get h2
  have hl := r.length
  have hn := line63
  have fin : EP X pins σ Q w s := ⟨z, H, I, rw', q⟩
  by_cases h0 : 0 ≤ i
  · have hj : i.toNat = j := by
      rw [seqIndex_of h0 h5] at h1
      exact Option.some.inj h1
    exact item_listR pl.isList h0 (by omega) (by rw [hj]; simpa using ew) fin hs
  · have hj : (i + (its.toArray.size : Int)).toNat = j := by
      rw [seqIndex_neg (by omega) h4] at h1
      rw [List.size_toArray, ← hl]
      exact Option.some.inj h1
    exact subscriptTail_builtinR (x := w) pl.isList.typeIs slot_list_getitem.lookup
      (wpAny_getItem_list_neg (Q := fun r s' => r = w ∧ EP X pins σ Q r s') pl.isList (by omega) (by rw [List.size_toArray] <;> omega) (by omega) (by rw [hj]; simpa using ew) ⟨rfl, fin⟩) hs
theorem ix_tup : IxR X (rIxT X.K) := by
  intro value slice pins s σ H x y v u Q I rx ry h hs
  obtain ⟨p, xs, i, z, rfl, rfl, hq, he, q⟩ := h
  cases rx
  obtain ⟨t, rfl⟩ := ry
  obtain ⟨its, r, pl, hz⟩ := I.tuple hq
  obtain ⟨j, h1, h2, h3, h4, h5⟩ := atI_get he
  obtain ⟨w, ew, rw'⟩ := r.get h2
  have hl := r.length
  have hn := line63
  have fin : EP X pins σ Q w s := ⟨z, H, I, rw', q⟩
  exact subscriptTail_builtinR (x := w) pl.typeIs slot_tuple_getitem.lookup
    (getItem_tuple (j := j) (Q := fun r s' => r = w ∧ EP X pins σ Q r s') pl (by omega) (by omega) (by rw [List.size_toArray, ← hl]; exact h1) (by simpa using ew) ⟨rfl, fin⟩) hs
theorem ix_str : IxR X rIxS := by
  intro value slice pins s σ H x y v u Q I rx ry h hs
  obtain ⟨z, i, c, rfl, rfl, hz, he, q⟩ := h
  obtain ⟨t, rfl⟩ := rx
  obtain ⟨t', rfl⟩ := ry
  obtain ⟨j, h1, h2, h3, h4, h5⟩ := atI_get he
  have hl : z.cps.toList.length = z.length := by simp [Str.length]
  rw [hl] at h1 h4 h5
  have hn := line63
  exact tail_any (typeIs_str s z t) slot_str_getitem.lookup (getItem_str (c := c) (by
    have e1 : decide (i < -(2 ^ 63 : Int)) = false := decide_eq_false (by omega)
    have e2 : decide (i ≥ 2 ^ 63) = false := decide_eq_false (by omega)
    rw [e1, e2, Bool.or_false]) (by rw [h1]; simpa using h2) ⟨.str ⟨#[c]⟩, H, I.tok _, ⟨_, rfl⟩, q⟩) hs
def rIx (K : PySem.W.Frag) : R2 := fun x y H Q => rIxL K x y H Q ∨ rIxT K x y H Q ∨ rIxS x y H Q
def rSetL : V → V → V → Hp → (Hp → Prop) → Prop := fun o i v H Q => ∃ p xs k j, o = .ref p ∧ i = .int k ∧ H p = some (.lst xs) ∧ ixN xs.length k = some j ∧ Q (upd H p (.lst (xs.set j v)))
theorem slice_bounds (lo hi : Option Int) (n : Nat) : (sliceBounds lo hi none n).1 = ((HT.sIx n 0 lo : Nat) : Int) ∧ (sliceBounds lo hi none n).2.1 = ((HT.sIx n n hi : Nat) : Int) ∧ (sliceBounds lo hi none n).2.2 = 1 := by
  refine ⟨?_, ?_, rfl⟩
  · cases lo with
    | none => simp [sliceBounds, HT.sIx]
    | some i =>
      simp only [sliceBounds, HT.sIx, Option.getD_none, show (1 : Int) > 0 by decide, if_true]
      by_cases h : i < 0
      · simp only [h, if_true] <;> omega
      · simp only [h, if_false] <;> omega
  · cases hi with
    | none => simp [sliceBounds, HT.sIx]
    | some i =>
      simp only [sliceBounds, HT.sIx, Option.getD_none, show (1 : Int) > 0 by decide, if_true]
      by_cases h : i < 0
      · simp only [h, if_true] <;> omega
      · simp only [h, if_false] <;> omega
theorem slicePick_cut (its : List Value) (lo hi : Option Int) : slicePick its.toArray lo hi none = ((its.drop (HT.sIx its.length 0 lo)).take (HT.sIx its.length its.length hi - HT.sIx its.length 0 lo)).toArray := by
  obtain ⟨h1, h2, h3⟩ := slice_bounds lo hi its.toArray.size
  unfold slicePick
  rw [h1, h2, h3]
  simp only [sliceRange_one, pick_run, List.size_toArray] <;> rfl
def rSlL (K : PySem.W.Frag) : V → Option Int → Option Int → Hp → VK → Prop := fun x lo hi H Q => ∃ a xs, x = .ref a ∧ SqL K H a xs ∧ ∀ p, H p = none → Q (.ref p) (upd H p (.lst (cutV xs lo hi)))
theorem sl_list : SlR X (rSlL X.K) := by
  intro pins s σ H x v vl vu lo hi sl Q I rx hs pl pu h
  obtain ⟨a, xs, rfl, hx, q⟩ := h
  cases rx
  obtain ⟨its, r, ht, hz⟩ := I.list hx
  have hlen := r.length
  refine ⟨"list", _, slot_list_getitem.lookup, ht.isList.typeIs, ?_⟩
  refine wpAny_getItem_list_slice ht.isList hs pl pu .none (by simp) ?_ (by rw [List.size_toArray] <;> omega)
  rw [slicePick_cut, ← hlen]
  refine ⟨.ref s.heap.objs.size, _, I.laid (t' := s.toks) (o := .lst (cutV xs lo hi)) (fun b ob q => Heap.get?_push_of_some _ q) (Nat.le_refl _) ?_, rfl, q _ (I.hok.fresh (Nat.le_refl _))⟩
  exact ⟨Nat.le_trans (cutV_length xs lo hi) hz, _, 0, (r.drop (HT.sIx xs.length 0 lo)).take (HT.sIx xs.length xs.length hi - HT.sIx xs.length 0 lo), Heap.get?_push_size _ rfl⟩
def flatV : V → Bool
  | .non => true
  | .bl _ => true
  | .int _ => true
  | .str _ => true
  | _ => false
def eqV : V → V → Bool
  | .non, .non => true
  | .bl a, .bl b => a == b
  | .bl a, .int b => (if a then 1 else 0) == b
  | .int a, .bl b => a == (if b then 1 else 0)
  | .int a, .int b => a == b
  | .str a, .str b => a == b
  | _, _ => false
theorem eqAt_V {A : Around} {s : Shared} {y x : V} {u v : Value} (ry : RelV y u) (rx : RelV x v) (fy : flatV y = true) (fx : flatV x = true) : SeqAt.EqAt A s u v (eqV y x) := by
  cases y with
  | non =>
    cases ry
    cases x with
    | non => cases rx; exact SeqAt.EqAt.same _
    | bl b => cases rx; exact SeqAt.EqAt.none_bool b
    | int b => obtain ⟨t, rfl⟩ := rx; exact SeqAt.EqAt.none_int b t
    | str b => obtain ⟨t, rfl⟩ := rx; exact SeqAt.EqAt.none_str b t
    | _ => exact absurd (show false = true from fx) Bool.false_ne_true
  | bl a =>
    cases ry
    cases x with
    | non => cases rx; exact SeqAt.EqAt.bool_none a
    | bl b => cases rx; exact SeqAt.EqAt.bool_bool a b
    | int b => obtain ⟨t, rfl⟩ := rx; exact SeqAt.EqAt.bool_int a b t
    | str b => obtain ⟨t, rfl⟩ := rx; exact SeqAt.EqAt.bool_str a b t
    | _ => exact absurd (show false = true from fx) Bool.false_ne_true
  | int a =>
    obtain ⟨t', rfl⟩ := ry
    cases x with
    | non => cases rx; exact SeqAt.EqAt.int_none a t'
    | bl b => cases rx; exact SeqAt.EqAt.int_bool a t' b
    | int b => obtain ⟨t, rfl⟩ := rx; exact SeqAt.EqAt.int_int a t' b t
    | str b => obtain ⟨t, rfl⟩ := rx; exact SeqAt.EqAt.int_str a t' b t
    | _ => exact absurd (show false = true from fx) Bool.false_ne_true
  | str a =>
    obtain ⟨t', rfl⟩ := ry
    cases x with
    | non => cases rx; exact SeqAt.EqAt.str_none a t'
    | bl b => cases rx; exact SeqAt.EqAt.str_bool a t' b
    | int b => obtain ⟨t, rfl⟩ := rx; exact SeqAt.EqAt.str_int a t' b t
    | str b => obtain ⟨t, rfl⟩ := rx; exact SeqAt.EqAt.str_str a t' b t
    | _ => exact absurd (show false = true from fx) Bool.false_ne_true
  | _ => exact absurd (show false = true from fy) Bool.false_ne_true
def eqU (x : V) (u : Value) : Bool := match u with
  | .none => eqV .non x
  | .bool b => eqV (.bl b) x
  | .int i _ => eqV (.int i) x
  | .str z _ => eqV (.str z) x
  | _ => false
theorem eqU_of {x y : V} {u : Value} (r : RelV y u) (f : flatV y = true) : eqU x u = eqV y x := by
  cases y with
  | non => cases r; rfl
  | bl b => cases r; rfl
  | int i => obtain ⟨t, rfl⟩ := r; rfl
  | str z => obtain ⟨t, rfl⟩ := r; rfl
  | _ => exact absurd (show false = true from f) Bool.false_ne_true
theorem any_eqU {x : V} : ∀ {xs : List V} {us : List Value}, Vals xs us → xs.all flatV = true → us.any (eqU x) = xs.any fun y => eqV y x
  | _, _, .nil, _ => rfl
  | y :: xs, u :: us, .cons r t, f => by
    rw [List.all_cons, Bool.and_eq_true] at f
    rw [List.any_cons, List.any_cons, eqU_of r f.1, any_eqU t f.2]
theorem mem_eqAt {A : Around} {s : Shared} {x : V} {v : Value} (rx : RelV x v) (fx : flatV x = true) : ∀ {xs : List V} {us : List Value}, Vals xs us → xs.all flatV = true → ∀ u ∈ us, SeqAt.EqAt A s u v (eqU x u)
  | _, _, .nil, _ => fun u hu => by cases hu
  | y :: xs, u :: us, .cons r t, f => fun u' hu => by
    rw [List.all_cons, Bool.and_eq_true] at f
    rcases List.mem_cons.mp hu with rfl | hu
    · rw [eqU_of r f.1]; exact eqAt_V r rx f.1 fx
    · exact mem_eqAt rx fx t f.2 u' hu
def inV (x : V) (xs : List V) : Bool := xs.any fun y => eqV y x
def rIn (K : PySem.W.Frag) (neg : Bool) : R2 := fun x y H Q => ∃ p xs, y = .ref p ∧ (SqL K H p xs ∨ SqT K H p xs) ∧ flatV x = true ∧ xs.all flatV = true ∧ Q (.bl (if neg then !inV x xs else inV x xs)) H
theorem op_in_seq : OpR X (compareOp .In) (rIn X.K false) := by
  intro pins s σ H x y v u Q I rx ry h
  obtain ⟨p, xs, rfl, hq, fx, fs, q⟩ := h
  cases ry
  rcases hq with hq | hq
  · obtain ⟨its, r, pl, hz⟩ := I.list hq
    refine SeqAt.in_listAt (eqU x) pl.isList (fun w hw => mem_eqAt rx fx r fs w (by simpa using hw)) ⟨.bl _, H, I, rfl, ?_⟩
    rw [show its.toArray.any (eqU x) = its.any (eqU x) by simp, any_eqU r fs]
    exact q
  · obtain ⟨its, r, pl, hz⟩ := I.tuple hq
    refine SeqAt.in_tupleAt (eqU x) pl (fun w hw => mem_eqAt rx fx r fs w (by simpa using hw)) ⟨.bl _, H, I, rfl, ?_⟩
    rw [show its.toArray.any (eqU x) = its.any (eqU x) by simp, any_eqU r fs]
    exact q
theorem call_len_seq : CallR X (.builtin "len") (fun xs H Q => ∃ p ys, xs = [.ref p] ∧ (SqL X.K H p ys ∨ SqT X.K H p ys) ∧ Q (.int ys.length) H) := by
  intro pins s σ H xs us Q I r h
  obtain ⟨p, ys, rfl, hq, q⟩ := h
  obtain ⟨u, rfl, rx⟩ := vals1 r
  cases rx
  have hn := line63
  rcases hq with hq | hq
  · obtain ⟨its, r', pl, hz⟩ := I.list hq
    have hlen := r'.length
    exact Calls.call_len_list pl.isList (by simp only [List.size_toArray] <;> omega) ⟨.int ys.length, H, I.tok _, ⟨s.toks + 1, by rw [List.size_toArray, hlen]⟩, q⟩
  · obtain ⟨its, r', pl, hz⟩ := I.tuple hq
    have hlen := r'.length
    exact len_tuple pl (by simp only [List.size_toArray] <;> omega) ⟨.int ys.length, H, I.tok _, ⟨s.toks + 1, by rw [List.size_toArray, hlen]⟩, q⟩
theorem call_len_str : CallR X (.builtin "len") (fun xs H Q => ∃ z, xs = [.str z] ∧ z.length ≤ sizeLine ∧ Q (.int z.length) H) := by
  intro pins s σ H xs us Q I r h
  obtain ⟨z, rfl, hz, q⟩ := h
  obtain ⟨u, rfl, t, rfl⟩ := vals1 r
  have hn := line63
  exact len_str (by omega) ⟨.int z.length, H, I.tok _, ⟨_, rfl⟩, q⟩
theorem call_list_of : CallR X (.type "list") (fun xs H Q => ∃ p ys, xs = [.ref p] ∧ (SqL X.K H p ys ∨ SqT X.K H p ys) ∧ ∀ l, H l = none → Q (.ref l) (upd H l (.lst ys))) := by
  intro pins s σ H xs us Q I r h
  obtain ⟨p, ys, rfl, hq, q⟩ := h
  obtain ⟨u, rfl, rx⟩ := vals1 r
  cases rx
  have fin : ∀ (its : List Value), Vals ys its → ys.length ≤ sizeLine → ∀ (h' : Heap) (c' : Nat), (∀ b o', s.heap.get? b = some o' → h'.get? b = some o') →
      h'.get? s.heap.objs.size = some { cls := .type "list", dict := none, data := .seq its.toArray c', slots := #[] } → EP X pins σ Q (.ref s.heap.objs.size) { s with heap := h' } := fun its r' hz h' c' kp e =>
    ⟨.ref s.heap.objs.size, _, I.laid (t' := s.toks) kp (Nat.le_refl _) (show ObjOk X.prog X.w _ h' _ (.lst ys) from ⟨hz, its, c', r', e⟩), rfl, q _ (I.hok.fresh (Nat.le_refl _))⟩
  rcases hq with hq | hq
  · obtain ⟨its, r', pl, hz⟩ := I.list hq
    have hlen := r'.length
    obtain ⟨o, ho, hc, n, hd⟩ := pl.isList
    exact call_list_seq p (.inl rfl) ho hc hd (fun h' c' kp e => fin its r' hz h' c' kp e) (by simp only [List.size_toArray] <;> omega)
  · obtain ⟨its, r', pl, hz⟩ := I.tuple hq
    have hlen := r'.length
    obtain ⟨o, ho, hc, n, hd⟩ := pl
    exact call_list_seq p (.inr rfl) ho hc hd (fun h' c' kp e => fin its r' hz h' c' kp e) (by simp only [List.size_toArray] <;> omega)
theorem call_tuple_of : CallR X (.type "tuple") (fun xs H Q => ∃ p ys, xs = [.ref p] ∧ ((SqL X.K H p ys ∧ ∀ l, H l = none → Q (.ref l) (upd H l (.tup ys))) ∨ (SqT X.K H p ys ∧ Q (.ref p) H))) := by
  intro pins s σ H xs us Q I r h
  obtain ⟨p, ys, rfl, h⟩ := h
  obtain ⟨u, rfl, rx⟩ := vals1 r
  cases rx
  rcases h with ⟨hq, q⟩ | ⟨hq, q⟩
  · obtain ⟨its, r', pl, hz⟩ := I.list hq
    have hlen := r'.length
    refine call_tuple_list pl.isList (fun h' kp => ?_) (by simp only [List.size_toArray] <;> omega)
    have I1 : Inv X pins σ H { s with heap := h' } := I.kept (t' := s.toks) kp
    have I2 : Inv X pins σ (upd H h'.objs.size (.tup ys)) { s with heap := h'.push { cls := .type "tuple", data := .seq its.toArray } } :=
      I1.laid (t' := s.toks) (fun b o e => Heap.get?_push_of_some _ e) (Nat.le_refl _) (show ObjOk X.prog X.w _ _ _ (.tup ys) from ⟨hz, its, r', IsTup.new _ _⟩)
    exact ⟨.ref h'.objs.size, _, I2, rfl, q _ (I1.hok.fresh (Nat.le_refl _))⟩
  · obtain ⟨its, r', pl, hz⟩ := I.tuple hq
    exact call_tuple_same pl ⟨.ref p, H, I, rfl, q⟩
def tyV (K : PySem.W.Frag) (T : String) (x : V) (H : Hp) : Prop := match x with
  | .str _ => T = "str"
  | .int _ => T = "int"
  | .ref p => (T = "list" ∧ ∃ xs, SqL K H p xs) ∨ (T = "tuple" ∧ ∃ o, K.lookup p = some o ∧ o.cls = .type "tuple" ∧ o.dict = none) ∨
      (T = "dict" ∧ ((∃ kvs, H p = some (.dK kvs)) ∨ ∃ kvs, H p = some (.dT kvs))) ∨ (T = "set" ∧ ∃ S n, H p = some (.set S n))
  | _ => False
theorem tyV_is {pins : List (Addr × Obj)} {σ : St} {H : Hp} {s : Shared} {T : String} {x : V} {v : Value} (I : Inv X pins σ H s) (r : RelV x v) (ty : tyV X.K T x H) :
    s.TypeIs v T ∧ ∀ a, v = .ref a → ∃ ob, s.heap.get? a = some ob ∧ ob.dict = none := by
  cases x with
  | str z =>
    obtain ⟨t, rfl⟩ := r
    cases (show T = "str" from ty)
    exact ⟨typeIs_str s z t, fun _ e => nomatch e⟩
  | int i =>
    obtain ⟨t, rfl⟩ := r
    cases (show T = "int" from ty)
    exact ⟨typeIs_int s i t, fun _ e => nomatch e⟩
  | ref p =>
    cases r
    rcases ty with ⟨rfl, xs, hq⟩ | ⟨rfl, o, hk, hc, hd⟩ | ⟨rfl, hk⟩ | ⟨rfl, S, n, hk⟩
    · obtain ⟨its, _, pl, _⟩ := I.list hq
      refine ⟨pl.isList.typeIs, fun a e => ?_⟩
      cases e
      obtain ⟨o, n, e, c, hd, _⟩ := pl
      exact ⟨o, e, hd⟩
    · refine ⟨⟨o, I.kIn p o hk, hc⟩, fun a e => ?_⟩
      cases e
      exact ⟨o, I.kIn _ o hk, hd⟩
    · have z : ∃ o, s.heap.get? p = some o ∧ o.ExactDict := by
        rcases hk with ⟨kvs, hk⟩ | ⟨kvs, hk⟩
        · obtain ⟨_, _, _, _, o, _, _, e, ex, _⟩ := I.hok p _ hk
          exact ⟨o, e, ex⟩
        · obtain ⟨_, _, _, _, o, _, _, e, ex, _⟩ := I.hok p _ hk
          exact ⟨o, e, ex⟩
      obtain ⟨o, e, ex⟩ := z
      refine ⟨⟨o, e, ex.1⟩, fun a e2 => ?_⟩
      cases e2
      exact ⟨o, e, ex.2.1⟩
    · obtain ⟨o, _, _, _, e, ex, _⟩ := I.hok p _ hk
      refine ⟨⟨o, e, ex.1⟩, fun a e2 => ?_⟩
      cases e2
      exact ⟨o, e, ex.2.1⟩
  | _ => exact False.elim ty
def tBM0 (K : PySem.W.Frag) (T : String) (r : V → List V → Hp → VK → Prop) (to : TE) : TE := fun σ H Q => to σ H fun x H1 => tyV K T x H1 ∧ r x [] H1 Q
def tBM (K : PySem.W.Frag) (T : String) (r : V → List V → Hp → VK → Prop) (to : TE) (t : TA) : TE := fun σ H Q => to σ H fun x H1 => tyV K T x H1 ∧ t σ H1 fun xs H2 => r x xs H2 Q
variable {o e : Expr} {es : List Expr} {to : TE} {t : TA} {name : Str} {apos cpos : Pos} {T id : String} {r : V → List V → Hp → VK → Prop}
theorem pe_bm (pa : PlainAttrs T) (slot : Slot T name id) (hty : typeOf (.builtin id) = pure (.type "method_descriptor")) (hm : MtR X id r) (ho : PE X o to) (ha : PA X (e :: es) t)
    (hbase : attributeBase o name X.env (eval o X.env) = eval o X.env := by rfl)
    (hfew : ((backTo cpos (starEach (e :: es) X.env)).all (fun x => !x.1) && (backToKw cpos (keywordEach [] X.env)).all (fun x => x.1.isSome)
      && decide ((e :: es).length + ([] : List Keyword).length + (if ([] : List Keyword).isEmpty then 0 else 1) < 30)) = true := by rfl)
    (hline : (apos.endLine == cpos.line) = true := by rfl) (hs : starEach (e :: es) X.env = (false, eval e X.env) :: starEach es X.env := by rfl) (hplain : (backTo cpos (starEach es X.env)).any (·.1) = false := by rfl) :
    PE X (.Call (.Attribute o name apos) (e :: es) [] cpos) (tBM X.K T r to t) := by
  intro pins s σ H Q I h
  refine wpAny_Call_method_late hbase hfew hline rfl (thn (ho pins s σ H _ I h) fun v s1 ⟨x, H1, I1, r1, ty, q1⟩ => ?_)
  obtain ⟨h1, h2⟩ := tyV_is I1 r1 ty
  refine ⟨T, id, pa, slot, hty, h1, h2, ?_⟩
  have hA := ha cpos pins s1 σ H1 _ I1 q1
  rw [hs] at hA ⊢
  refine Calls.callWith_builtin (by show (false || (backTo cpos (starEach es X.env)).any (·.1)) = false; rw [hplain] <;> rfl) (Calls.evalArgs_plain ?_)
  exact thn hA fun us s2 ⟨vs, H2, I2, r2, q2⟩ => hm pins s2 σ H2 x vs v us Q I2 r1 r2 q2
end
end L2
namespace L2
open PySem PySem.Spec PyProof.Rows
def MtM (X : Cx) (id : String) (r : V → List V → Hp → VK → Prop) : Prop :=
  ∀ (pins : List (Addr × Obj)) (s : Shared) (σ : St) (H : Hp) (x : V) (xs : List V) (v : Value) (us : List Value) (Q : VK), Inv X pins σ H s → RelV x v → Vals xs us → r x xs H Q →
    wpAny (model X.prog X.w) X.A (call (.builtin id) (v :: us)) (EP X pins σ Q) X.xe s
theorem Vals.one : ∀ {x : V} {us : List Value}, Vals [x] us → ∃ u, us = [u] ∧ RelV x u
  | _, _, .cons r .nil => ⟨_, rfl, r⟩
theorem Vals.two : ∀ {x y : V} {us : List Value}, Vals [x, y] us → ∃ u v, us = [u, v] ∧ RelV x u ∧ RelV y v
  | _, _, _, .cons r (.cons q .nil) => ⟨_, _, rfl, r, q⟩
theorem Vals.rep {xs : List V} {us : List Value} (h : Vals xs us) : ∀ k : Nat, Vals (List.replicate k xs).flatten (List.replicate k us).flatten
  | 0 => .nil
  | k + 1 => by
    rw [List.replicate_succ, List.replicate_succ, List.flatten_cons, List.flatten_cons]
    exact Vals.append h (Vals.rep h k)
theorem foldl_rep (its : List Value) : ∀ (k : Nat) (acc : List Value),
    List.foldl (fun x1 x2 => x1 ++ x2) acc.toArray (List.replicate k its.toArray) = (acc ++ (List.replicate k its).flatten).toArray
  | 0, acc => by simp
  | k + 1, acc => by
    have e : acc.toArray ++ its.toArray = (acc ++ its).toArray := by simp
    have e2 : (acc ++ its) ++ (List.replicate k its).flatten = acc ++ (List.replicate (k + 1) its).flatten := by
      rw [List.replicate_succ, List.flatten_cons, List.append_assoc]
    rw [← e2, ← foldl_rep its k (acc ++ its), ← e, List.replicate_succ, List.foldl_cons]
section
variable {X : Cx} {pins : List (Addr × Obj)} {σ : St} {H : Hp} {s : Shared} {l b : Addr} {xs ys zs : List V}
theorem Inv.lset {its its' : List Value} {n : Nat} {f : Array Value → Array Value} {t' : Nat} (I : Inv X pins σ H s) (hH : H l = some (.lst xs))
    (e : s.heap.get? l = some { cls := .type "list", data := .seq its.toArray n }) (hf : f its.toArray = its'.toArray) (hv : Vals ys its') (hz : ys.length ≤ sizeLine) :
    Inv X pins σ (upd H l (.lst ys)) { s with heap := s.heap.update l (Obj.mapSeq f), toks := t' } := by
  have q := PySem.IsL.update e f
  rw [hf] at q
  refine I.write (x := l) (e := l) (by rw [hH]; exact trivial) (.inl rfl) (fun b' u hb hu => (Heap.get?_update_other s.heap (Obj.mapSeq f) (Ne.symm hb)).trans hu) ⟨_, q⟩ ?_
  exact ⟨hz, its', _, hv, q⟩
theorem Inv.lnew {its : List Value} {t' : Nat} (I : Inv X pins σ H s) (hv : Vals ys its) (hz : ys.length ≤ sizeLine) :
    Inv X pins σ (upd H s.heap.objs.size (.lst ys)) { s with heap := s.heap.push { cls := .type "list", data := .seq its.toArray }, toks := t' } :=
  I.laid (fun _ _ q => Heap.get?_push_of_some _ q) (Nat.le_refl _) ⟨hz, its, 0, hv, Heap.get?_push_size _ rfl⟩
theorem Inv.fresh (I : Inv X pins σ H s) : H s.heap.objs.size = none := I.hok.fresh (Nat.le_refl _)
theorem Inv.lstM (I : Inv X pins σ H s) (hH : H l = some (.lst xs)) : xs.length ≤ sizeLine ∧ ∃ (its : List Value) (n : Nat), Vals xs its ∧ xs.length = its.length ∧ s.heap.get? l = some { cls := .type "list", data := .seq its.toArray n } := by
  obtain ⟨z, its, n, r, e⟩ := I.hok l _ hH
  exact ⟨z, its, n, r, r.length, e⟩
theorem notLongL {n : Nat} (h : n ≤ sizeLine) : Builtin.List.listTooLong n = false := by
  unfold Builtin.List.listTooLong
  exact decide_eq_false (by omega)
end
section
variable {X : Cx}
def rAppend : V → List V → Hp → VK → Prop := fun x vs H Q => ∃ l xs y, x = .ref l ∧ vs = [y] ∧ H l = some (.lst xs) ∧ xs.length < sizeLine ∧ Q .non (upd H l (.lst (xs ++ [y])))
theorem mt_append : MtM X "list.append" rAppend := by
  intro pins s σ H x vs v us Q I rx rv h
  obtain ⟨l, xs, y, rfl, rfl, hH, hz, q⟩ := h
  cases rx
  obtain ⟨u, rfl, ru⟩ := rv.one
  obtain ⟨z, its, n, r, hl, e⟩ := I.lstM hH
  refine call_meets F.slot_list_append ⟨_, e, rfl⟩ F.entry_list_append (F.args_list_append_2 _ _) (PySem.list_append l its.toArray n u (by rw [List.size_toArray]; omega)) ⟨e, ?_⟩
  refine ⟨.non, _, I.lset (its' := its ++ [u]) hH e (by simp) (r.append (.cons ru .nil)) ?_, rfl, q⟩
  rw [List.length_append, List.length_singleton]
  omega
def rExtend : V → List V → Hp → VK → Prop := fun x vs H Q => ∃ l b xs zs, x = .ref l ∧ vs = [.ref b] ∧ H l = some (.lst xs) ∧ H b = some (.lst zs) ∧ xs.length + zs.length ≤ sizeLine ∧ Q .non (upd H l (.lst (xs ++ zs)))
def rPop : V → List V → Hp → VK → Prop := fun x vs H Q => ∃ l xs y, x = .ref l ∧ vs = [] ∧ H l = some (.lst xs) ∧ xs[xs.length - 1]? = some y ∧ Q y (upd H l (.lst xs.dropLast))
def rPopAt : V → List V → Hp → VK → Prop := fun x vs H Q => ∃ l xs i k y, x = .ref l ∧ vs = [.int i] ∧ H l = some (.lst xs) ∧ -(2 ^ 63) ≤ i ∧ i < 2 ^ 63 ∧ seqIndex? i xs.length = some k ∧ xs[k]? = some y ∧ Q y (upd H l (.lst (xs.eraseIdx k)))
def rReverse : V → List V → Hp → VK → Prop := fun x vs H Q => ∃ l xs, x = .ref l ∧ vs = [] ∧ H l = some (.lst xs) ∧ Q .non (upd H l (.lst xs.reverse))
def rClear : V → List V → Hp → VK → Prop := fun x vs H Q => ∃ l xs, x = .ref l ∧ vs = [] ∧ H l = some (.lst xs) ∧ Q .non (upd H l (.lst []))
def rCat : R2 := fun x y H Q => ∃ l b xs zs, x = .ref l ∧ y = .ref b ∧ H l = some (.lst xs) ∧ H b = some (.lst zs) ∧ xs.length + zs.length ≤ sizeLine ∧ ∀ p, H p = none → Q (.ref p) (upd H p (.lst (xs ++ zs)))
theorem op_cat : OpR X (binaryOp .Add) rCat := by
  intro pins s σ H x y v u Q I rx ry h
  obtain ⟨l, b, xs, zs, rfl, rfl, hH, hB, hz, q⟩ := h
  cases rx
  cases ry
  obtain ⟨z, its, n, r, hl, e⟩ := I.lstM hH
  obtain ⟨z2, its2, n2, r2, hl2, e2⟩ := I.lstM hB
  refine PySem.P.add_list e e2 ?_ (by rw [List.size_toArray, List.size_toArray]; omega)
  have ea : its.toArray ++ its2.toArray = (its ++ its2).toArray := by simp
  rw [ea]
  exact ⟨.ref _, _, I.lnew (t' := s.toks) (r.append r2) (by rw [List.length_append]; omega), rfl, q _ I.fresh⟩
def rRep : R2 := fun x y H Q => ∃ l k xs, x = .ref l ∧ y = .int k ∧ H l = some (.lst xs) ∧ -(2 ^ 63) ≤ k ∧ k < 2 ^ 63 ∧ xs.length * k.toNat ≤ sizeLine ∧
  ∀ p, H p = none → Q (.ref p) (upd H p (.lst (List.replicate k.toNat xs).flatten))
theorem len_rep {α : Type} (xs : List α) (k : Nat) : (List.replicate k xs).flatten.length = k * xs.length := by
  induction k with
  | zero => simp
  | succ k ih => rw [List.replicate_succ, List.flatten_cons, List.length_append, ih, Nat.succ_mul, Nat.add_comm]
theorem op_rep : OpR X (binaryOp .Mult) rRep := by
  intro pins s σ H x y v u Q I rx ry h
  obtain ⟨l, k, xs, rfl, rfl, hH, h1, h2, hz, q⟩ := h
  cases rx
  obtain ⟨t, rfl⟩ := ry
  obtain ⟨z, its, n, r, hl, e⟩ := I.lstM hH
  have hlen : its.toArray.size * k.toNat ≤ sizeLine := by rw [List.size_toArray, ← hl]; exact hz
  have hcap : ¬ its.toArray.size * k.toNat > (2 ^ 63 - 1) / 8 := by
    have : (sizeLine : Nat) ≤ (2 ^ 63 - 1) / 8 := by decide
    omega
  have hfit : ¬ (!Builtin.List.listFitsIndex k) = true := by
    rw [fitsIndex_both h1 h2]
    exact Bool.false_ne_true
  have hlong : ¬ Builtin.List.listTooLong (its.toArray.size * k.toNat) = true := by
    rw [notLongL hlen]
    exact Bool.false_ne_true
  have hnew : List.foldl (fun x1 x2 => x1 ++ x2) #[] (List.replicate (if its.toArray.isEmpty = true then 0 else k.toNat) its.toArray) = (List.replicate k.toNat its).flatten.toArray := by
    have f0 : ∀ m : Nat, List.foldl (fun x1 x2 => x1 ++ x2) #[] (List.replicate m its.toArray) = (List.replicate m its).flatten.toArray := fun m => by
      have := foldl_rep its m []
      rw [List.nil_append] at this
      exact this
    rw [f0]
    cases its with
    | nil => simp
    | cons a r' => rw [if_neg (by simp)]
  refine wpAny_binaryOp_repeat_ref (T := "list") (U := "int") (by decide) ⟨_, e, rfl⟩ (fun s' => typeIs_int s' k t) noFill_list_mul F.fills_int_mul F.slot_int_rmul repeat_list F.slot_int_index.lookup
    (call_meets F.slot_int_rmul (typeIs_int s k t) F.entry_int_rmul (F.args_int_rmul_2 _ _) (int___rmul___int_list k t l its.toArray n)
      ⟨e, rfl, ⟨_, e, rfl⟩, call_meets F.slot_list_mul ⟨_, e, rfl⟩ F.entry_list_mul (F.args_list_mul_2 _ _) (AutoListH.list___mul___list_int_3 l its.toArray n k t hfit hcap hlong) ⟨e, ?_⟩⟩)
  rw [hnew]
  exact ⟨.ref _, _, I.lnew (t' := s.toks) (r.rep k.toNat) (by rw [len_rep, Nat.mul_comm]; exact hz), rfl, q _ I.fresh⟩
end
section
variable {prog : Program} {w : World} {A : Around} {E : Value → Shared → Prop} {s : Shared}
set_option maxRecDepth 100000 in
end
section
variable {X : Cx}
end
end L2
namespace Att
open PySem PySem.W PySem.Calls PyProof.Rows
theorem ints_of_wellAll {P : Params} {h : Heap} : ∀ (ns : List Int) (vs : List Value), WellAll P h vs (ns.map WData.int) → IntsAre vs ns := by
  intro ns
  induction ns with
  | nil =>
    intro vs w
    rw [List.map_nil] at w
    cases w
    exact .nil
  | cons n ns ih =>
    intro vs w
    rw [List.map_cons] at w
    cases w with
    | cons a b =>
      cases a
      exact .cons _ _ (ih _ b)
theorem script_of {l : OpenLaw} {n : Nat} (hn : l.most = some n) {P : Params} {h : Heap} {args : List WData} {vals : List Value}
    (hpre : l.row.toRowW.claim.pre args = true) (hwl : WellAll P h vals args) :
    ∃ a vs ns, vals = [Value.ref a] ∧ args = [WData.list (ns.map WData.int)] ∧ h.get? a = some { cls := .type "list", data := .seq vs.toArray } ∧ IntsAre vs ns ∧ ns.length ≤ n := by
  have hsh : WShape.hasAll [] args [.list .int] = true := (pre_splitW hpre).1
  have hc : l.pre.holds [] { args := args } = true := (pre_splitW hpre).2
  obtain ⟨d, r, rfl, h1, h2⟩ := hasAllW_cons hsh
  obtain rfl := hasAllW_nil h2
  obtain ⟨xs, rfl, h3⟩ := hasW_list h1
  obtain ⟨ns, rfl⟩ := items_int h3
  have hlen : ns.length ≤ n := by
    unfold OpenLaw.pre at hc
    have h4 : (WTm.not (.lt (.lit (.int (n : Int))) (.len (.arg 0)))).holds [] { args := [.list (ns.map .int)] } = true := by
      have h4 := (holds_andW hc).1
      rw [hn] at h4
      exact h4
    have h5 := condW_of h4 (w_not (w_lt w_lit (w_len_list (w_arg rfl))))
    rw [List.length_map] at h5
    refine Nat.le_of_not_lt fun q => ?_
    have q' : (n : Int) < ((ns.length : Nat) : Int) := by omega
    first
      | (rw [decide_eq_true q'] at h5; exact absurd h5 (by decide))
      | (simp at h5; omega)
  cases hwl with
  | cons w1 w2 =>
    cases w2
    cases w1 with
    | list ho hall => exact ⟨_, _, ns, rfl, rfl, ho, ints_of_wellAll ns _ hall, hlen⟩
theorem post_true (l : OpenLaw) (args : List WData) : l.row.toRowW.claim.post args (.bool true) args = true :=
  postW_of (r := l.row.toRowW) (X := (true == true))
    (show WShape.has [] (.bool true) .bool = true by first | rfl | decide | simp [WShape.has, WShape.arms, WShape.armsAll])
    (show (WTm.eq .res (.lit (.bool true))).value [] { args := args, res := some (.bool true), after := args } = some (.bool (true == true)) from w_eq_bool (w_res rfl) w_lit) rfl
theorem attach_call {l : OpenLaw} {n : Nat} {q : Program} {loose : List Str} {XP : (Str → Option Value) → Heap → Prop} {YP : World → Heap → Prop} {d : DefRec}
    (hn : l.most = some n) (hdf : d.params.defaults = [])
    (call : ∀ (w : World) (s₀ s₁ : Shared) (mg mb : Str → Option Value) (fa : Addr) (o : Obj) (pm cd doc : Value) (a : Addr) (vs : List Value) (ns : List Int),
      Ground q loose [] XP w s₀ mg mb s₁.heap → YP w s₁.heap →
      s₁.heap.get? fa = some o → o.data = .func (docDef d.name d.params d.body d.scope pm cd doc) → s₁.heap.CodeRec cd d.name → mg d.name = some (.ref fa) →
      s₁.heap.get? a = some { cls := .type "list", data := .seq vs.toArray } → IntsAre vs ns → ns.length ≤ n → s₁.gens = #[] →
      codeAny (model l.prog w) callerA (.call (.ref fa) ⟨[.ref a], []⟩) (fun r s' => r = .ok (.ret (.bool true)) ∧ OldK s₁.heap s'.heap ∧ s'.os = s₁.os ∧ AllBare s'.gens) s₁) :
    WalkO q loose XP YP l.row.toRowW d [] (fun f vs => PySem.call f vs) := by
  intro w s₀ s₁ mg mb G Y fa o pm cd doc dV kV ho hd hcd hD hmg hg args vals as hpre hlay hrd hwl hlo
  obtain rfl : dV = .none := Dflts.none hD hdf
  obtain rfl : kV = .none := Dflts.noKw hD
  obtain ⟨a, vs, ns, rfl, rfl, hobj, hints, hlen⟩ := script_of hn hpre hwl
  refine enter_call (codeAny_mono (call w s₀ s₁ mg mb fa o pm cd doc a vs ns G Y ho (fd_plain hd) hcd hmg hobj hints hlen hg) fun r s' hq => ?_)
  obtain ⟨rfl, h2, h3, h4⟩ := hq
  exact ⟨.inl ⟨.bool true, .bool true, [], rfl, fun _ => rfl, .bool true, post_true l _, fun _ => ⟨List.Pairwise.nil, fun _ hm => (nomatch hm)⟩⟩, h2, h3, h4⟩
section
variable {prog : Program} {w : World} {A : Around} {E : Value → Shared → Prop} {s : Shared} {K : Frag}
def noObjs (h : Heap) : Heap := { h with objs := #[] }
def ledger (h : Heap) (L d : Addr) : List (Addr × Obj) := (List.range h.objs.size).filterMap fun a => if a = L ∨ a = d then none else (h.get? a).map fun o => (a, o)
end
end Att
namespace L2
open PySem PySem.Spec PyProof.Rows
theorem vals_ints : ∀ {vs : List Value} {ns : List Int}, IntsAre vs ns → Vals (ns.map V.int) vs
  | _, _, .nil => .nil
  | _, _, .cons n t h => .cons ⟨t, rfl⟩ (vals_ints h)
def Only (H : Hp) : Prop := ∀ b, H b = none ∨ ∃ o xs, H b = some (.frz o (.lst xs))
theorem law_call {P : Program} {w : World} {K : PySem.W.Frag} {mg mb : Str → Option Value} {CX : CXT} {k : Nat} {fa a : Addr} {fd : FuncData} {x : Str} {sp : Sp} {s₁ : Shared} {vs : List Value} {ns : List Int}
    (KX : K.In s₁.heap) (hns : s₁.heap.Ns mainGlobals mg) (hb : s₁.heap.Ns builtinsNs mb) (hbb : ∀ x : Str, x ≠ "__name__" → mb x = bootBuiltins x) (hlim : s₁.heap.NoLimit) (hg : s₁.gens = #[])
    (ha : s₁.heap.get? a = some { cls := .type "list", data := .seq vs.toArray }) (hi : IntsAre vs ns) (hl : ns.length ≤ sizeLine) (hr : Room k callerA)
    (F : ∀ base : Heap, K.In base → base.Ns mainGlobals mg → FnOk P w K mg base CX k fa fd [x] sp) (hbind : ∀ (s : Shared) (u : Value), BindsTo s fd ⟨[u], []⟩ [(x, u)])
    (hsp : ∀ H : Hp, Only H → SqL K H a (ns.map V.int) → sp [.ref a] H (fun v _ => v = .bl true) fun _ _ _ => False)
    (hCX : ∀ H e s', CX [] H s₁ (fun _ _ _ => False) e s' → False) :
    codeAny (model P w) callerA (.call (.ref fa) ⟨[.ref a], []⟩) (fun r s' => r = .ok (.ret (.bool true)) ∧ OldK s₁.heap s'.heap ∧ s'.os = s₁.os ∧ AllBare s'.gens) s₁ := by
  have rv := vals_ints hi
  have lenV := hi.length
  have core : ∀ H : Hp, Only H → SqL K H a (ns.map V.int) → HOk P w H s₁.heap → (∀ b, H b ≠ none → b = a) → (H a ≠ none → K.lookup a = none) →
      codeAny (model P w) callerA (.call (.ref fa) ⟨[.ref a], []⟩) (fun r s' => r = .ok (.ret (.bool true)) ∧ OldK s₁.heap s'.heap ∧ s'.os = s₁.os ∧ AllBare s'.gens) s₁ := by
    intro H hO hS hok hA hK
    have base_of : ∀ {b : Addr} {o : Obj}, s₁.heap.get? b = some o → H b = none → (hidT s₁.heap H).get? b = some o := fun e n => hidT_get e n
    have noA : ∀ {b : Addr} {o : Obj} {es : Array DictEntry} {ep : Nat}, s₁.heap.get? b = some o → o.data = .dict es ep → H b = none := fun {b o es ep} e d => by
      cases q : H b with
      | none => rfl
      | some u =>
        have e' : b = a := hA b (by rw [q]; simp)
        subst e'
        rw [ha] at e; cases e
        have d' : Data.seq vs.toArray _ = Data.dict es ep := d
        cases d'
    have nsK : ∀ {b : Addr} {m : Str → Option Value}, s₁.heap.Ns b m → (hidT s₁.heap H).Ns b m := fun {b m} ⟨o, es, ep, e, d, r⟩ => ⟨o, es, ep, base_of e (noA e d), d, r⟩
    have hKb : K.In (hidT s₁.heap H) := fun b o e => base_of (KX b o e) (by
      cases q : H b with
      | none => rfl
      | some u =>
        have e' : b = a := hA b (by rw [q]; simp)
        subst e'
        rw [hK (by rw [q]; simp)] at e; cases e)
    have hM : Mod K mg (hidT s₁.heap H) := ⟨hKb, nsK hns, ⟨mb, nsK hb, hbb⟩, let ⟨mc, h1, h2⟩ := hlim; ⟨mc, nsK h1, h2⟩⟩
    have e0 : Env0 P w K mg (hidT s₁.heap H) callerA [] s₁ H := ⟨rfl, hM, fun b o e => of_hidT e, Nat.le_of_eq (hidT_size _ _), trivial, fun b hb => absurd (show b ∈ ([] : List Addr) from hb) (by simp), hok, .of_eq hg⟩
    refine codeAny_mono ((F _ hKb (nsK hns)).run callerA [] s₁ H ⟨[.ref a], []⟩ [.ref a] [.ref a] _ _ hr e0 (hbind s₁ (.ref a)) (.cons rfl .nil) (hsp H hO hS)) fun r s' h => ?_
    cases r with
    | error e => exact (hCX H e s' h).elim
    | ok fl =>
      cases fl with
      | next => exact False.elim h
      | brk => exact False.elim h
      | cont => exact False.elim h
      | ret u =>
        obtain ⟨v, H', os, bare, un, hok', r', q⟩ := h
        have q' : v = .bl true := q
        subst q'
        obtain rfl : u = Value.bool true := r'
        refine ⟨rfl, OldK.of_keep fun b o e => ?_, os, bare⟩
        cases q : H b with
        | none => exact un.keep b o e q (by intro z; exact absurd (show b ∈ ([] : List Addr) from z) (by simp)) (by simp)
        | some u =>
          rcases hO b with z | ⟨ob, xs, z⟩
          · rw [q] at z; cases z
          · have z2 := un.frzs b ob _ z
            obtain ⟨e1, _⟩ := hok b _ z
            obtain ⟨e2, _⟩ := hok' b _ z2
            rw [e] at e1; cases e1
            exact e2
  cases hk : K.lookup a with
  | some o =>
    have e := KX a o hk
    rw [ha] at e
    cases e
    refine core (fun _ => none) (fun _ => .inl rfl) (.inr ⟨_, vs.toArray, _, hk, rfl, rfl, rfl, by rw [List.size_toArray, lenV]; exact hl, by simpa using rv⟩) (fun b u z => by have z' : (none : Option HO) = some u := z; cases z') (fun b z => absurd rfl z) fun z => absurd rfl z
  | none =>
    refine core (fun b => if b = a then some (.frz { cls := .type "list", data := .seq vs.toArray } (.lst (ns.map V.int))) else none) (fun b => ?_) (.inl (.inr ⟨{ cls := .type "list", data := .seq vs.toArray }, if_pos rfl⟩)) (fun b u z => ?_) (fun b z => ?_) fun _ => hk
    · by_cases hb : b = a
      · exact .inr ⟨_, _, if_pos hb⟩
      · exact .inl (if_neg hb)
    · by_cases hb : b = a
      · have z' := (if_pos hb).symm.trans z
        cases z'
        subst hb
        exact ⟨ha, by rw [List.length_map]; exact hl, vs, _, rv, ha⟩
      · have z' := (if_neg hb).symm.trans z
        cases z'
    · by_cases hb : b = a
      · exact hb
      · exact absurd (if_neg hb) z
end L2
namespace L2
open PySem PySem.Spec PyProof.Rows
abbrev KOf {K : PySem.W.Frag} {h : Heap} (_ : K.In h) : PySem.W.Frag := K
theorem walk_of {l : PySem.W.OpenLaw} {n k : Nat} {q : Program} {loose : List Str} {XP : (Str → Option Value) → Heap → Prop} {YP : World → Heap → Prop} {d : DefRec} {K : Params → PySem.W.Frag} {CX : World → CXT} {sp : World → Sp} {x : Str}
    (hn : l.most = some n) (hn2 : n ≤ sizeLine) (hdf : d.params.defaults = []) (hr : Room k callerA)
    (hY : ∀ (w : World) (h : Heap), YP w h → (K w.params).In h)
    (F : ∀ (w : World) (mg : Str → Option Value) (fa : Addr) (h : Heap), (K w.params).In h → h.Ns mainGlobals mg → mg d.name = some (.ref fa) →
      ∃ fd : FuncData, (∀ (s : Shared) (u : Value), BindsTo s fd ⟨[u], []⟩ [(x, u)]) ∧
        ∀ base : Heap, (K w.params).In base → base.Ns mainGlobals mg → FnOk l.prog w (K w.params) mg base (CX w) k fa fd [x] (sp w))
    (hsp : ∀ (w : World) (H : Hp) (a : Addr) (ns : List Int), ns.length ≤ n → Only H → SqL (K w.params) H a (ns.map V.int) → sp w [.ref a] H (fun v _ => v = .bl true) fun _ _ _ => False)
    (hCX : ∀ (w : World) (H : Hp) (s : Shared) (e : Value) (s' : Shared), CX w [] H s (fun _ _ _ => False) e s' → False) :
    PySem.W.WalkO q loose XP YP l.row.toRowW d [] (fun f vs => PySem.call f vs) := by
  refine Att.attach_call hn hdf fun w s₀ s₁ mg mb fa o pm cd doc a vs ns G Y ho hd hcd hmg hobj hints hlen hg => ?_
  have KX := hY w _ Y
  obtain ⟨fd, hb, hF⟩ := F w mg fa _ KX G.T.g hmg
  exact law_call KX G.T.g G.T.b G.T.builtins G.T.nolimit hg hobj hints (Nat.le_trans hlen hn2) hr hF hb (fun H hO hS => hsp w H a ns hlen hO hS) fun H e s' => hCX w H s₁ e s'
end L2
namespace L2
open PySem PySem.Spec PyProof.Rows
def inClass (s : Stmt) (j : Nat) : Stmt := match s with
  | .ClassDef _ _ _ body _ _ _ _ _ _ _ => body.getD j (.Pass ⟨0, 0, 0, 0⟩)
  | _ => .Pass ⟨0, 0, 0, 0⟩
def defArgs (s : Stmt) : Arguments := match s with
  | .FunctionDef _ a _ _ _ _ _ _ _ _ => a
  | _ => { posonlyargs := [], args := [], vararg := none, kwonlyargs := [], kw_defaults := [], kwarg := none, defaults := [] }
def defBody (s : Stmt) : List Stmt := match s with
  | .FunctionDef _ _ b _ _ _ _ _ _ _ => b
  | _ => []
def defScope (s : Stmt) : Scope := match s with
  | .FunctionDef _ _ _ _ _ _ sc _ _ _ => sc
  | _ => { kind := .function, names := [], isGenerator := false, isCoroutine := false }
abbrev CX0 : CXT := fun _ _ _ _ _ _ => False
abbrev E0 : XK := fun _ _ _ => False
theorem pass0 {X : Cx} : Passes CX0 X E0 := fun _ _ _ _ _ _ _ h => h.elim
structure Fun (K : PySem.W.Frag) (x qual : Str) (st : Stmt) (f : Addr) (fd : FuncData) : Prop where
  ex : ∃ (oc : Value) (od : Option Addr) (kV doc pm : Value) (an : Option Addr) (cdv ct : Value) (osl : Array (Option Value)),
    fd = PySem.W.fnOf x qual (defArgs st) (defBody st) (defScope st) .none kV doc pm an cdv ct ∧ K.lookup f = some ⟨oc, od, .func fd, osl⟩ ∧ PySem.W.codeIn K cdv qual = true
  kp : PySem.W.keepIn K (.ref f) = true
section
variable {P : Program} {w : World} {K : PySem.W.Frag} {mg : Str → Option Value} {base : Heap}
theorem Fun.ok {x qual : Str} {st : Stmt} {f : Addr} {fd : FuncData} {N ps : List Str} {k : Nat} {sp : Sp} (F : Fun K x qual st f fd) (S : FnScope N ps (defScope st)) (len : ∀ vs H Q E, sp vs H Q E → vs.length = ps.length)
    (hbody : ∀ (cdv : Value) (A : Around) (outer : List Env) (s : Shared) (H : Hp) (vs : List V) (Q : VK) (E : XK), Room k (A.deeper (envOfC qual (defScope st) s.heap.objs.size f cdv)) → sp vs H Q E →
      ∃ t, PSs (cxOf CX0 P w K mg base N qual (defScope st) f cdv A outer s H E).nox (defBody st) t ∧ t { nx := fun _ H' => Q .non H', rt := Q } (start N vs) H) : FnOk P w K mg base CX0 (k + 1) f fd ps sp := by
  obtain ⟨oc, od, kV, doc, pm, an, cdv, ct, osl, rfl, lk, hcd⟩ := F.ex
  refine fn_of lk hcd S len fun A outer s H vs Q E hr hsp => ?_
  obtain ⟨t, h, q⟩ := hbody cdv A outer s H vs Q E hr hsp
  exact ⟨t, h.nox, q⟩
theorem Fun.binds {x qual : Str} {st : Stmt} {f : Addr} {fd : FuncData} {ps : List Str} (F : Fun K x qual st f fd)
    (h : ∀ (kV doc pm : Value) (an : Option Addr) (cdv ct : Value) (us : List Value), us.length = ps.length → bindArgs (PySem.W.fnOf x qual (defArgs st) (defBody st) (defScope st) .none kV doc pm an cdv ct) ⟨us, []⟩ = pure (ps.zip us)) : Binds K fd ps [] := by
  obtain ⟨oc, od, kV, doc, pm, an, cdv, ct, osl, rfl, lk, hcd⟩ := F.ex
  exact .all (h kV doc pm an cdv ct)
theorem fun_mk {x qual : Str} {st : Stmt} {f : Addr} {oc : Value} {od an : Option Addr} {osl : Array (Option Value)} {kV doc pm cdv ct : Value} (l : K.lookup f = some ⟨oc, od, .func (PySem.W.fnOf x qual (defArgs st) (defBody st) (defScope st) .none kV doc pm an cdv ct), osl⟩)
    (c : PySem.W.codeIn K cdv qual = true) (k : PySem.W.keepIn K (.ref f) = true) : Fun K x qual st f (PySem.W.fnOf x qual (defArgs st) (defBody st) (defScope st) .none kV doc pm an cdv ct) := ⟨⟨oc, od, kV, doc, pm, an, cdv, ct, osl, rfl, l, c⟩, k⟩
end
theorem small1000 {n : Nat} (h : n ≤ 1000) : n < sizeLine := Nat.lt_of_le_of_lt h (by decide)
section
variable {X : Cx}
theorem pv (i : Nat) {x : Str} {pos : Pos} (hN : X.N[i]? = some x := by rfl) (hv : Vis X.env.scope x := by first | exact Or.inl rfl | exact Or.inr (Or.inl rfl) | exact Or.inr (Or.inr rfl)) (hd : (x == ("__debug__" : Str)) = false := by decide)
    (hcd : (x == ("__classdict__" : Str)) = false := by decide) : PE X (.Name x pos) (tVar i) := pe_var hN hv hd hcd
end
theorem iteF {A B : Prop} (h : B) : if false = true then A else B := by
  rw [if_neg Bool.false_ne_true]
  exact h
theorem iteT {A B : Prop} (h : A) : if true = true then A else B := by
  rw [if_pos rfl]
  exact h
theorem ite2 {c A B : Prop} [Decidable c] (h1 : c → A) (h2 : ¬ c → B) : if c then A else B := by
  by_cases h : c
  · rw [if_pos h]
    exact h1 h
  · rw [if_neg h]
    exact h2 h
theorem iteNS {c A B : Prop} [Decidable c] (hc : c) (h : B) : if (!decide c) = true then A else B := by
  rw [decide_eq_true hc]
  exact iteF h
def Same (H H' : Hp) : Prop := ∀ b o, H b = some o → H' b = some o
theorem Same.refl (H : Hp) : Same H H := fun _ _ h => h
theorem Same.trans {H H1 H2 : Hp} (a : Same H H1) (b : Same H1 H2) : Same H H2 := fun c o h => b c o (a c o h)
theorem Same.free {H H' : Hp} (e : Same H H') {l : Addr} (h : H' l = Option.none) : H l = Option.none := by
  cases q : H l with
  | none => rfl
  | some o =>
    rw [e l o q] at h
    cases h
theorem Same.seq {K : PySem.W.Frag} {H H' : Hp} {a : Addr} {xs : List V} (e : Same H H') (h : SqL K H a xs) : SqL K H' a xs := by
  rcases h with (h | ⟨o, h⟩) | h
  · exact .inl (.inl (e _ _ h))
  · exact .inl (.inr ⟨o, e _ _ h⟩)
  · exact .inr h
end L2
set_option maxHeartbeats 4000000
namespace L2
open PySem PySem.Spec PyProof.Rows
theorem PSs.imp {X : Cx} {e : List Stmt} {t t' : TS} (h : PSs X e t) (f : ∀ D σ H, t' D σ H → t D σ H) : PSs X e t' := fun pins s σ H D I q => h pins s σ H D I (f D σ H q)
theorem forIn_yield_fold {α β : Type} {f : α → β → Sem (ForInStep β)} {g : α → β → β} : ∀ {l : List α} (c : β), (∀ x ∈ l, ∀ c, f x c = pure (.yield (g x c))) →
    forIn l c f = pure (l.foldl (fun c x => g x c) c)
  | [], c, _ => rfl
  | x :: l, c, h => by
    rw [List.forIn_cons, h x List.mem_cons_self, pure_bind]
    exact forIn_yield_fold (g x c) fun y hy => h y (List.mem_cons_of_mem _ hy)
def clIn (env : Env) (x : Str × NameKind) (cs : List (Str × Addr)) : List (Str × Addr) :=
  if x.2 = .free then (x.1, (env.cells.lookup x.1).getD 0) :: cs else cs
def clOf (scope : Scope) (env : Env) : List (Str × Addr) := scope.names.foldl (fun c x => clIn env x c) []
theorem closureFor_free {scope : Scope} {env : Env} (h : ∀ x ∈ scope.names, x.2 = .free → ∃ c, env.cells.lookup x.1 = some c) : closureFor scope env = pure (clOf scope env) := by
  simp only [closureFor]
  rw [forIn_yield_fold (g := clIn env) [] (fun x hx c => by
    obtain ⟨n, k⟩ := x
    by_cases hk : k = .free
    · obtain ⟨a, e⟩ := h _ hx hk
      have e' : env.cells.lookup n = some a := e
      have hb : (k == NameKind.free) = true := by simpa using hk
      simp only [if_true, cellOf, e', clIn, hk, Option.getD_some]
      rfl
    · have hb : (k == NameKind.free) = false := by simpa using hk
      simp only [hb, Bool.false_eq_true, if_false, clIn, hk])]
  rfl
theorem clFold_lookup (env : Env) {x : Str} {c : Addr} : ∀ (names : List (Str × NameKind)) (cs : List (Str × Addr)), (names.foldl (fun c x => clIn env x c) cs).lookup x = some c →
    (∃ k, (x, k) ∈ names ∧ k = .free ∧ c = (env.cells.lookup x).getD 0) ∨ cs.lookup x = some c
  | [], cs, h => .inr h
  | (n, k) :: r, cs, h => by
    rcases clFold_lookup env r _ h with ⟨k', hm, hk, e⟩ | h
    · exact .inl ⟨k', List.mem_cons_of_mem _ hm, hk, e⟩
    · unfold clIn at h
      dsimp only at h
      by_cases hk : k = .free
      · rw [if_pos hk] at h
        rw [List.lookup_cons] at h
        by_cases hx : (x == n) = true
        · rw [hx] at h
          have hx' : x = n := by simpa using hx
          subst hx'
          exact .inl ⟨k, List.mem_cons_self, hk, (Option.some.inj h).symm⟩
        · have hx2 : (x == n) = false := by simpa using hx
          rw [hx2] at h
          exact .inr h
      · rw [if_neg hk] at h
        exact .inr h
theorem clFold_some (env : Env) {x : Str} : ∀ (names : List (Str × NameKind)) (cs : List (Str × Addr)), ((∃ k, (x, k) ∈ names ∧ k = .free) ∨ ∃ c, cs.lookup x = some c) → ∃ c, (names.foldl (fun c x => clIn env x c) cs).lookup x = some c
  | [], cs, h => by
    rcases h with ⟨k, hm, _⟩ | h
    · cases hm
    · exact h
  | (n, k) :: r, cs, h => by
    refine clFold_some env r _ ?_
    rcases h with ⟨k', hm, hk⟩ | ⟨c, h⟩
    · rcases List.mem_cons.mp hm with e | hm
      · cases e
        refine .inr ⟨(env.cells.lookup x).getD 0, ?_⟩
        unfold clIn
        dsimp only
        rw [if_pos hk, List.lookup_cons]
        simp
      · exact .inl ⟨k', hm, hk⟩
    · refine .inr ?_
      unfold clIn
      dsimp only
      by_cases hk : k = .free
      · rw [if_pos hk, List.lookup_cons]
        by_cases hx : (x == n) = true
        · exact ⟨_, by rw [hx]⟩
        · have hx2 : (x == n) = false := by simpa using hx
          exact ⟨c, by rw [hx2]; exact h⟩
      · rw [if_neg hk]
        exact ⟨c, h⟩
theorem lookup_relabel {env : Env} : ∀ {names : List (Str × NameKind)} {x : Str} {k : NameKind},
    (names.map fun (n, k) => if (k == NameKind.free && env.scope.kind == .function && env.kindOf n == some .cell) then (n, NameKind.cell) else (n, k)).lookup x = some k →
    names.lookup x = some k ∨ (k = .cell ∧ names.lookup x = some .free)
  | [], _, _, h => by simp at h
  | (n, k) :: r, x, k', h => by
    have ih := @lookup_relabel env r x k'
    have h' : List.lookup x ((if (k == NameKind.free && env.scope.kind == .function && env.kindOf n == some .cell) = true then (n, NameKind.cell) else (n, k)) :: (r.map fun (n, k) => if (k == NameKind.free && env.scope.kind == .function && env.kindOf n == some .cell) then (n, NameKind.cell) else (n, k))) = some k' := h
    by_cases hc : (k == NameKind.free && env.scope.kind == .function && env.kindOf n == some .cell) = true
    · rw [if_pos hc] at h'
      simp only [List.lookup_cons] at h' ⊢
      cases hx : x == n with
      | true =>
        rw [hx] at h'
        simp only [Bool.and_eq_true, beq_iff_eq] at hc
        exact .inr ⟨(Option.some.inj h').symm, by rw [hc.1.1]⟩
      | false => rw [hx] at h'; exact ih h'
    · rw [if_neg hc] at h'
      simp only [List.lookup_cons] at h' ⊢
      cases hx : x == n with
      | true => rw [hx] at h'; exact .inl h'
      | false => rw [hx] at h'; exact ih h'
structure CompScope (sc scope : Scope) (N : List Str) (x : Str) (js : List Nat) (fr : List Str) : Prop where
  kind : scope.kind = .function
  noc : ∀ y ∈ scope.names, y.2 ≠ .cell
  loc : ∀ y ∈ scope.names, y.2 = .local → scope.names.lookup y.1 = some .local
  var : scope.names.lookup x = some .local
  fre : ∀ y ∈ scope.names, y.2 = .free → sc.names.lookup y.1 = some .cell ∨ sc.names.lookup y.1 = some .free
  imp : js.map (fun j => N[j]?) = fr.map some
  frf : ∀ y ∈ fr, scope.names.lookup y = some .free
  nd : (x :: fr).Nodup
abbrev cxComp (X : Cx) (scope : Scope) (N : List Str) (pins : List (Addr × Obj)) (fp : List Addr) (s : Shared) (H : Hp) : Cx where
  prog := X.prog
  w := X.w
  K := X.K
  mg := X.mg
  base := X.base
  A := X.A
  N := N
  s₀ := s
  H₀ := H
  env := compEnvC scope (clOf scope X.env) s.heap.objs.size X.env
  outer := X.stack
  stack := X.stack
  ex := fp
  fn := fun _ => false
  calm := X.calm
  pn := X.pn ++ pins
  xe := fun _ _ => False
def impS (σ : St) (js : List Nat) : St := js.map fun j => (σ[j]?).getD none
def PTs (X : Cx) (ifs : List Expr) (t : TT) : Prop :=
  ∀ (pins : List (Addr × Obj)) (s : Shared) (σ : St) (H : Hp) (Q : Bool → Hp → Prop), Inv X pins σ H s → t σ H Q →
    wpAny (model X.prog X.w) X.A (forIn ifs true fun c r => if r = true then do let ok ← isTrue c X.env (eval c X.env); pure (ForInStep.yield ok) else pure (ForInStep.yield r)) (TP X pins σ Q) X.xe s
def tTrue : TT := fun _ H Q => Q true H
theorem tTrue_mk {σ : St} {H : Hp} {Q : Bool → Hp → Prop} (h : Q true H) : tTrue σ H Q := h
theorem pts_nil {X : Cx} : PTs X [] tTrue := fun _ _ _ H _ I h => wpAny_tests_nil ⟨H, I, h⟩
theorem pts_one {X : Cx} {c : Expr} {t : TT} (h : PT X c t) : PTs X [c] t := fun pins s σ H Q I q => wpAny_tests_one (h pins s σ H Q I q)
def CompT (J : It) (js : List Nat) (tc : TT) (te : TE) (σ : St) (acc : Addr) (H1 : Hp) (Q : VK) : Prop := ∃ (B : Nat) (W : Nat → List V → Hp → Prop), W 0 [] (upd H1 acc (.lst [])) ∧ ∀ i ys H, W i ys H →
  (J.stop i H ∧ Q (.ref acc) H) ∨ (i < B ∧ J.go i H ∧ ∀ x H', J.yld i H x H' → tc (some x :: impS σ js) H' fun b H2 =>
    if b = true then te (some x :: impS σ js) H2 fun y H3 => H3 acc = some (.lst ys) ∧ ys.length < sizeLine ∧ W (i + 1) (ys ++ [y]) (upd H3 acc (.lst (ys ++ [y])))
    else W (i + 1) ys H2)
def tComp (wi : TI) (js : List Nat) (tc : TT) (te : TE) : TE := fun σ H Q => wi σ H fun J H1 => ∀ acc, H1 acc = none → CompT J js tc te σ acc H1 Q
theorem comp_loop {prog : Program} {w : World} {A : Around} {R : Result → Shared → Prop} {s : Shared} {elt target iter : Expr} {ifs : List Expr} {scope : Scope} {pos : Pos} {it acc : Value} {env : Env} (I : Nat → Shared → Prop)
    (turn : ∀ n s, I n s → wpAny (model prog w) A (pyNext it) (fun r s₁ => match r with
      | none => R (.ok .next) s₁
      | some v => wpAny (model prog w) A (letOwnedTupleGo target it v) (fun _ s₁ => wpAny (model prog w) A (assign target env v) (fun _ s₂ =>
          wpAny (model prog w) A (forIn ifs true fun c r => if r = true then do let ok ← isTrue c env (eval c env); pure (ForInStep.yield ok) else pure (ForInStep.yield r)) (fun ok s₃ =>
            if ok = true then wpAny (model prog w) A (eval elt env) (fun x s₄ =>
              wpAny (model prog w) A (call (.builtin "list.append") [acc, x]) (fun _ s₅ => ∃ m, m < n ∧ I m s₅) (fun _ _ => False) s₄) (fun _ _ => False) s₃
            else ∃ m, m < n ∧ I m s₃) (fun _ _ => False) s₂) (fun _ _ => False) s₁) (fun _ _ => False) s₁) (fun _ _ => False) s)
    (n : Nat) (h : I n s) :
    codeAny (model prog w) A (.compLoop (.ListComp elt [⟨target, iter, ifs, 0⟩] scope pos) 0 it acc env) R s := by
  refine codeAny_loop rfl I (fun n s hI => ?_) n h
  show wpAny _ A ((compTurn (.ListComp elt [⟨target, iter, ifs, 0⟩] scope pos) 0 it acc env).onRaise (fun x => do noteFrame x env; theTreesLotGoes x)) _ _ s
  refine wpAny_noted ?_
  rw [compTurn_list]
  refine wpAny_bind (wpAny_standAt (wpAny_bind (wpAny_mono (turn n s hI) (fun r s₁ h₁ => ?_) fun _ _ h' => h'.elim)))
  cases r with
  | none => exact wpAny_pure h₁
  | some v =>
    refine wpAny_bind (wpAny_mono h₁ (fun _ s₂ h₂ => ?_) fun _ _ h' => h'.elim)
    refine wpAny_bind (wpAny_mono h₂ (fun _ s₂ h₂ => wpAny_bind (wpAny_mono h₂ (fun ok s₃ h₃ => ?_) fun _ _ h' => h'.elim)) fun _ _ h' => h'.elim)
    cases ok with
    | false => exact wpAny_pure ⟨rfl, h₃⟩
    | true =>
      exact wpAny_bind (wpAny_bind (wpAny_mono h₃ (fun x s₄ h₄ => wpAny_bind (wpAny_mono h₄ (fun _ s₅ h₅ => wpAny_pure (wpAny_pure ⟨rfl, h₅⟩)) fun _ _ h' => h'.elim)) fun _ _ h' => h'.elim))
section
variable {X : Cx} {elt iter : Expr} {x : Str} {px pos : Pos} {ifs : List Expr} {scope : Scope} {js : List Nat} {fr : List Str} {wi : TI} {tc : TT} {te : TE}
theorem cl_sub {env : Env} (S : ∀ y ∈ scope.names, y.2 = .free → ∃ c, env.cells.lookup y.1 = some c) {y : Str} {c : Addr} (h : (clOf scope env).lookup y = some c) : env.cells.lookup y = some c := by
  rcases clFold_lookup env scope.names [] h with ⟨k, hm, hk, e⟩ | h
  · obtain ⟨c', e'⟩ := S _ hm hk
    have e2 : env.cells.lookup y = some c' := e'
    rw [e2] at e ⊢
    rw [e]
    rfl
  · cases h
theorem cells_of (S : CompScope X.env.scope scope X.N x js fr) (ok : X.Ok) : ∀ y ∈ scope.names, y.2 = .free → ∃ c, X.env.cells.lookup y.1 = some c := fun y hy hk => ok.has y.1 (S.fre y hy hk)
theorem mem_of_lookup' {names : List (Str × NameKind)} {y : Str} {k : NameKind} (h : names.lookup y = some k) : (y, k) ∈ names := PySem.mem_of_lookup h
theorem comp_ok {pins : List (Addr × Obj)} {σ : St} {H : Hp} {s : Shared} {fp : List Addr} (S : CompScope X.env.scope scope X.N x js fr) (I : Inv X pins σ H s) (f : ∀ b ∈ fp, FpOk X pins H b) (hlt : ∀ b ∈ fp, b < s.heap.objs.size) :
    (cxComp X scope (x :: fr) pins fp s H).Ok where
  mod := I.ok.mod
  kind := S.kind
  glob := I.ok.glob
  blt := I.ok.blt
  above := Nat.le_refl _
  inj := fun y z c h1 h2 => I.ok.inj y z c (cl_sub (cells_of S I.ok) h1) (cl_sub (cells_of S I.ok) h2)
  has := fun y hy => by
    have hy' : (relabel scope X.env).names.lookup y = some .cell ∨ (relabel scope X.env).names.lookup y = some .free := hy
    have fr' : scope.names.lookup y = some .free := by
      rcases hy' with h | h
      · rcases lookup_relabel h with h | ⟨_, h⟩
        · exact absurd rfl (S.noc _ (mem_of_lookup' h))
        · exact h
      · rcases lookup_relabel h with h | ⟨h, _⟩
        · exact h
        · cases h
    exact clFold_some X.env scope.names [] (.inl ⟨.free, mem_of_lookup' fr', rfl⟩)
  cab := fun y c h => by cases h
  hd := I.ok.hd
  frames := I.ok.frames
  stk := .inl rfl
  exf := fun b hb => ⟨Nat.ne_of_lt (hlt b hb), fun y c h => (f b hb).2.2.2.2.1 y c (cl_sub (cells_of S I.ok) h)⟩
  bs := I.bs
  bsz := Nat.le_trans I.ok.bsz I.sz
  noex := fun b o e hb => by
    rcases (f b hb).2.2.2.1 with z | z
    · exact I.ok.noex b o e z
    · exact absurd (Nat.lt_of_lt_of_le (Heap.lt_size e) (Nat.le_trans I.ok.bsz z)) (Nat.lt_irrefl _)
  exfs := fun b hb z => by
    rcases List.mem_cons.mp (I.stkSub b z) with e | e
    · exact (f b hb).2.1 e
    · exact (f b hb).2.2.1 e
  funs := I.stack
  frf := I.stkFree
theorem comp_start {pins : List (Addr × Obj)} {σ : St} {H : Hp} {s : Shared} {fp : List Addr} {h1 : Heap} {m1 : Str → Option Value} {tk : Nat} (S : CompScope X.env.scope scope X.N x js fr) (I : Inv X pins σ H s) (f : ∀ b ∈ fp, FpOk X pins H b) (hlt : ∀ b ∈ fp, b < s.heap.objs.size)
    (hn : h1.Ns s.heap.objs.size m1) (old : ∀ b o, s.heap.get? b = some o → h1.get? b = some o) : Inv (cxComp X scope (x :: fr) pins fp s H) [] (none :: impS σ js) H { s with heap := h1, toks := tk } := by
  refine ⟨comp_ok S I f hlt, rfl, I.bare, Un.kept old, ⟨m1, hn, fun i y v e1 e2 e3 => ?_⟩, fun y c h => ?_, I.fresh, fun y c h => I.freeC y c (cl_sub (cells_of S I.ok) h), fun p hp => ?_, I.hok.kept old, ?_⟩
  ·
    cases i with
    | zero => cases e2
    | succ i =>
      have e1' : fr[i]? = some y := by simpa using e1
      have e2' : (impS σ js)[i]? = some (some v) := by simpa using e2
      have hj : (js.map fun j => X.N[j]?)[i]? = some (some y) := by rw [S.imp, List.getElem?_map, e1']; rfl
      rw [List.getElem?_map] at hj
      cases ej : js[i]? with
      | none => rw [ej] at hj; cases hj
      | some j =>
        rw [ej] at hj
        have hjN : X.N[j]? = some y := Option.some.inj hj
        unfold impS at e2'
        rw [List.getElem?_map, ej] at e2'
        have hv : (σ[j]?).getD none = some v := Option.some.inj e2'
        have hσ : σ[j]? = some (some v) := by
          cases q : σ[j]? with
          | none => rw [q] at hv; cases hv
          | some o => rw [q] at hv; exact congrArg some hv
        have hfr : scope.names.lookup y = some .free := S.frf y (List.mem_of_getElem? e1')
        have hk := S.fre _ (mem_of_lookup' hfr) rfl
        have hvis : Vis X.env.scope y := hk.elim (fun z => .inr (.inl z)) fun z => .inr (.inr z)
        obtain ⟨m, _, hl⟩ := I.loc
        obtain ⟨u, ru, lk⟩ := hl j y v hjN hσ hvis
        refine ⟨u, ru, .inr ⟨?_, ?_⟩⟩
        · have e3' : (relabel scope X.env).names.lookup y = some .local ∨ (relabel scope X.env).names.lookup y = some .cell ∨ (relabel scope X.env).names.lookup y = some .free := e3
          rcases e3' with z | z | z
          · rcases lookup_relabel z with q | ⟨q, _⟩
            · rw [hfr] at q; cases q
            · cases q
          · exact .inl z
          · exact .inr z
        · rcases lk with ⟨z, _⟩ | ⟨_, c, ec, ic⟩
          · rcases hk with hk | hk
            · have z' : X.env.scope.names.lookup y = some .local := z
              rw [hk] at z'; cases z'
            · have z' : X.env.scope.names.lookup y = some .local := z
              rw [hk] at z'; cases z'
          · obtain ⟨c', ec'⟩ := clFold_some X.env scope.names [] (x := y) (.inl ⟨.free, mem_of_lookup' hfr, rfl⟩)
            have ec2 := cl_sub (cells_of S I.ok) ec'
            rw [ec] at ec2
            cases ec2
            obtain ⟨o, ho, hd⟩ := ic
            exact ⟨c, ec', o, old _ _ ho, hd⟩
  · obtain ⟨v, o, ho, hd⟩ := I.cell y c (cl_sub (cells_of S I.ok) h)
    exact ⟨v, o, old _ _ ho, hd⟩
  · have hp' : p ∈ X.pn ++ pins := by simpa using hp
    obtain ⟨e, n, ne, nf, d⟩ := I.pin p hp'
    refine ⟨old _ _ e, n, Nat.ne_of_lt (Heap.lt_size e), fun z => ?_, d⟩
    rcases List.mem_cons.mp (I.stkSub p.1 z) with q | q
    · exact ne q
    · exact nf q
  · show (none :: impS σ js).length = (x :: fr).length
    have := congrArg List.length S.imp
    rw [List.length_map, List.length_map] at this
    unfold impS
    rw [List.length_cons, List.length_cons, List.length_map, this]
theorem comp_core {pins : List (Addr × Obj)} {σ : St} {H : Hp} {s : Shared} {Q : VK} {RR : Value → Addr → Result → Shared → Prop}
    (hc : X.calm = true) (S : CompScope X.env.scope scope X.N x js fr) (hi : PI X (.Name x px) iter wi)
    (ht : ∀ pins fp s H, PTs (cxComp X scope (x :: fr) pins fp s H) ifs tc) (he : ∀ pins fp s H, PE (cxComp X scope (x :: fr) pins fp s H) elt te)
    (I : Inv X pins σ H s) (h : tComp wi js tc te σ H Q)
    (hRR : ∀ (acc C : Addr) (H' : Hp) (s' : Shared) (m : Str → Option Value), s'.heap.Ns C m → Inv X pins σ H' s' → H' C = none → C ≠ X.env.locals → X.s₀.heap.objs.size ≤ C → (∀ y c, X.env.cells.lookup y = some c → c ≠ C) →
      (∀ p ∈ X.pn ++ pins, p.1 ≠ C) → Q (.ref acc) H' → RR (.ref acc) C (.ok .next) s') :
    wpAny (model X.prog X.w) X.A (eval iter X.env) (fun xv s₁ => wpAny (model X.prog X.w) X.A (pyIter xv) (fun it s₂ => wpAny (model X.prog X.w) X.A (newList []) (fun acc s₃ =>
      wpAny (model X.prog X.w) X.A (newFunctionEnv scope X.env.globals (clOf scope X.env) [] X.env.qual none .none (some X.env)) (fun cenv s₄ =>
        codeAny (model X.prog X.w) X.A (.compStart (.ListComp elt [⟨.Name x px, iter, ifs, 0⟩] scope pos) 0 it acc { cenv with scope := relabel scope X.env }) (RR acc cenv.locals) s₄) X.xe s₃) X.xe s₂) X.xe s₁) X.xe s := by
  refine thn (hi pins s σ H _ I h) fun xv s1 h1 => thn h1 fun itv s2 h2 => ?_
  obtain ⟨it, fp, tn, J, H2, e, I2, T, st2, f2, hW⟩ := h2
  subst e
  have hacc : H2 s2.heap.objs.size = none := I2.fresh
  obtain ⟨B, W, w0, turn⟩ := hW s2.heap.objs.size hacc
  have I3 : Inv X pins σ (upd H2 s2.heap.objs.size (.lst [])) { s2 with heap := s2.heap.push { cls := .type "list", data := .seq ([] : List Value).toArray } } := I2.lnew (t' := s2.toks) .nil (Nat.zero_le _)
  have flt2 : ∀ b ∈ fp, b < s2.heap.objs.size := fun b hb => by
    obtain ⟨o, e, _⟩ := T.obj _ _ st2 b hb
    exact Heap.lt_size e
  refine wpAny_newObj_type (wpAny_newFunctionEnv S.noc (by intro y hy; simp at hy) (fun h₁ hns₁ hsb₁ => ?_) S.kind)
  dsimp only at hns₁ hsb₁ ⊢
  have keep3 : ∀ b o, s2.heap.get? b = some o → (s2.heap.push { cls := .type "list", dict := none, data := .seq ([] : List Value).toArray }).get? b = some o := fun b o e => Heap.get?_push_of_some _ e
  generalize hs3 : s2.heap.push { cls := .type "list", dict := none, data := .seq ([] : List Value).toArray } = h3 at hns₁ hsb₁ I3 keep3 ⊢
  have sz3 : h3.objs.size = s2.heap.objs.size + 1 := by rw [← hs3, Heap.size_push]
  generalize hH3 : upd H2 s2.heap.objs.size (.lst []) = H3 at w0 I3
  have f3 : ∀ b ∈ fp, FpOk X pins H3 b := fun b hb => ⟨by rw [← hH3, upd_ne (Nat.ne_of_lt (flt2 b hb))]; exact (f2 b hb).1, (f2 b hb).2⟩
  have flt3 : ∀ b ∈ fp, b < h3.objs.size := fun b hb => by rw [sz3]; exact Nat.lt_succ_of_lt (flt2 b hb)
  have old : ∀ b o, h3.get? b = some o → h₁.get? b = some o := fun b o e => (hsb₁.2 b (Nat.ne_of_lt (Heap.lt_size e))).trans (Heap.get?_push_of_some _ e)
  have I4 : Inv (cxComp X scope (x :: fr) pins fp { s2 with heap := h3 } H3) [] (none :: impS σ js) H3 { s2 with heap := h₁, toks := s2.toks + ([] : List (Str × Value)).length } :=
    comp_start (s := { s2 with heap := h3 }) S I3 f3 flt3 hns₁ old
  have st4 : tn 0 h₁ := T.keep _ _ _ st2 fun b hb o e => old b o (keep3 b o e)
  have X' := cxComp X scope (x :: fr) pins fp { s2 with heap := h3 } H3
  have stat : ∀ {H' : Hp}, (∀ b ∈ fp, H' b = none) → ∀ b ∈ fp, FpOk (cxComp X scope (x :: fr) pins fp { s2 with heap := h3 } H3) [] H' b := fun {H'} hn b hb =>
    ⟨hn b hb, Nat.ne_of_lt (flt3 b hb), I4.ok.exfs b hb, .inl hb, (I4.ok.exf b hb).2, fun p hp => (f3 b hb).2.2.2.2.2 p (by simpa using hp)⟩
  have back : ∀ {σ' : St} {H' : Hp} {s' : Shared}, Inv (cxComp X scope (x :: fr) pins fp { s2 with heap := h3 } H3) [] σ' H' s' → Inv X pins σ H' s' := fun {σ' H' s'} J' =>
    I3.call' J'.os J'.base J'.hok J'.bare fun b hb => ⟨(f3 b hb).2.2.2.1, (f3 b hb).2.1, (f3 b hb).2.2.2.2.1, (f3 b hb).2.2.2.2.2⟩
  have fin : ∀ {σ' : St} {H' : Hp} {s' : Shared}, Inv (cxComp X scope (x :: fr) pins fp { s2 with heap := h3 } H3) [] σ' H' s' → Q (.ref s2.heap.objs.size) H' → RR (.ref s2.heap.objs.size) h3.objs.size (.ok .next) s' := fun {σ' H' s'} J' q => by
    obtain ⟨m, hm, _⟩ := J'.loc
    refine hRR _ _ H' s' m hm (back J') J'.free (Nat.ne_of_gt I3.lt) I3.sz (fun y c e z => ?_) (fun p hp z => ?_) q
    · obtain ⟨v, o, ho, _⟩ := I3.cell y c e
      rw [z] at ho
      exact absurd (Heap.lt_size ho) (Nat.lt_irrefl _)
    · have ho := (I3.pin p hp).1
      rw [z] at ho
      exact absurd (Heap.lt_size ho) (Nat.lt_irrefl _)
  have loop : ∀ s₃ : Shared, s₃ = { s2 with heap := h₁, toks := s2.toks + ([] : List (Str × Value)).length } →
      codeAny (model X.prog X.w) X.A (.compLoop (.ListComp elt [⟨.Name x px, iter, ifs, 0⟩] scope pos) 0 (.ref it) (.ref s2.heap.objs.size) (compEnvC scope (clOf scope X.env) h3.objs.size X.env)) (RR (.ref s2.heap.objs.size) h3.objs.size) s₃ := by
    rintro s₃ rfl
    refine comp_loop (fun n s' => ∃ i ys v0 H', Inv (cxComp X scope (x :: fr) pins fp { s2 with heap := h3 } H3) [] (v0 :: impS σ js) H' s' ∧ tn i s'.heap ∧ (∀ b ∈ fp, H' b = none) ∧ W i ys H' ∧ n = B - i) ?_ B ⟨0, [], none, H3, I4, st4, fun b hb => (f3 b hb).1, w0, rfl⟩
    rintro n s5 ⟨i, ys, v0, H5, I5, st5, fr5, w5, rfl⟩
    rcases turn i ys H5 w5 with ⟨stop, q⟩ | ⟨hB, go, step⟩
    · refine thn (T.done (cxComp X scope (x :: fr) pins fp { s2 with heap := h3 } H3) rfl rfl rfl hc i [] s5 _ H5 (fun _ _ => False) I5 (stat fr5) st5 stop) fun r s6 ⟨hr, I6⟩ => ?_
      subst hr
      exact fin I6 q
    · refine thn (T.item (cxComp X scope (x :: fr) pins fp { s2 with heap := h3 } H3) rfl rfl rfl hc i [] s5 _ H5 (fun _ _ => False) I5 (stat fr5) st5 go) fun r s6 ⟨u, hr, h6⟩ => ?_
      subst hr
      refine thn h6 fun _ s7 ⟨z, H7, I7, r7, y7, st7, fr7⟩ => ?_
      have I7' := I7.pinned (stat fr7) (T.obj _ _ st7)
      have again : ∀ {σ8 : St} {H8 : Hp} {s8 : Shared}, Inv (cxComp X scope (x :: fr) pins fp { s2 with heap := h3 } H3) ([] ++ pinsAt fp s7.heap) σ8 H8 s8 → tn (i + 1) s8.heap ∧ ∀ b ∈ fp, H8 b = none := fun {σ8 H8 s8} I8 => by
        refine ⟨T.keep _ _ _ st7 fun b hb o e => (I8.pin (b, o) (List.mem_append_right _ (List.mem_append_right _ (mem_pinsAt hb e)))).1, fun b hb => ?_⟩
        obtain ⟨o, e, d⟩ := T.obj _ _ st7 b hb
        exact (I8.pin (b, o) (List.mem_append_right _ (List.mem_append_right _ (mem_pinsAt hb e)))).2.1
      have hg : PG (cxComp X scope (x :: fr) pins fp { s2 with heap := h3 } H3) (.Name x px) (gName 0) := pg_name (i := 0) S.nd rfl (.inl (lookup_relabel_local S.var)) (.inr (lookup_relabel_local S.var))
      refine thn (hg _ s7 _ H7 z u _ I7' r7 (show gName 0 z _ H7 (fun σ' H' => σ' = some z :: impS σ js ∧ H' = H7) from ⟨rfl, rfl⟩)) fun _ s8 ⟨σ8, H8, I8, e8, eH8⟩ => ?_
      subst e8 eH8
      refine thn (ht _ _ _ _ _ s8 _ _ _ I8 (step z _ y7)) fun ok s9 ⟨H9, I9, q9⟩ => ?_
      cases ok with
      | false =>
        rw [if_neg Bool.false_ne_true] at q9 ⊢
        exact ⟨B - (i + 1), by omega, i + 1, ys, some z, H9, I9.unpinned, (again I9).1, (again I9).2, q9, rfl⟩
      | true =>
        rw [if_pos rfl] at q9 ⊢
        refine thn (he _ _ _ _ _ s9 _ _ _ I9 q9) fun v s10 ⟨y, H10, I10, r10, ha, hz, w10⟩ => ?_
        refine thn (mt_append _ s10 _ H10 (.ref s2.heap.objs.size) [y] (.ref s2.heap.objs.size) [v] (fun _ H' => H' = upd H10 s2.heap.objs.size (.lst (ys ++ [y]))) I10 rfl (.cons r10 .nil) ⟨_, ys, y, rfl, rfl, ha, hz, rfl⟩) fun _ s11 ⟨_, H11, I11, _, e11⟩ => ?_
        subst e11
        exact ⟨B - (i + 1), by omega, i + 1, ys ++ [y], some z, _, I11.unpinned, (again I11).1, (again I11).2, w10, rfl⟩
  exact codeAny_compStart_list (loop _ rfl) (T.self _ 0 _ _ _ st4 (loop _ rfl))
theorem pe_comp (hc : X.calm = true) (S : CompScope X.env.scope scope X.N x js fr) (hi : PI X (.Name x px) iter wi)
    (ht : ∀ pins fp s H, PTs (cxComp X scope (x :: fr) pins fp s H) ifs tc) (he : ∀ pins fp s H, PE (cxComp X scope (x :: fr) pins fp s H) elt te)
    (hs : ∀ v, foldedSetIterable iter X.env v = pure v := by intro _; rfl) : PE X (.ListComp elt [⟨.Name x px, iter, ifs, 0⟩] scope pos) (tComp wi js tc te) := by
  intro pins s σ H Q I h
  rw [eval_ListComp]
  refine wpAny_comprehension_free (use := none) rfl hs (closureFor_free (cells_of S I.ok)) S.kind S.loc (comp_core (RR := fun acc C => compPost (model X.prog X.w) X.A X.xe none (EP X pins σ Q) acc C) hc S hi ht he I h ?_)
  intro acc C H' s' m hn I' hC h1 h2 h3 h4 q
  exact ⟨m, hn, fun h' hs' => ⟨.ref acc, H', I'.turned (t' := s'.toks) (fun b o hb e => (hs'.2 b hb).trans e) hC (Ne.symm (Ne.symm h1)) (.inr h2) h3 h4, rfl, q⟩⟩
end
theorem comp_list {K : PySem.W.Frag} {a : Addr} {xs : List V} {js : List Nat} {tc : TT} {te : TE} {σ : St} {H1 : Hp} {Q : VK} {acc : Addr} (Pv : Nat → List V → Hp → Prop) (h0 : Pv 0 [] (upd H1 acc (.lst []))) (hl : ∀ i ys H, Pv i ys H → i ≤ xs.length ∧ SqL K H a xs)
    (hs : ∀ i x ys H, xs[i]? = some x → Pv i ys H → tc (some x :: impS σ js) H fun b H2 => if b = true then te (some x :: impS σ js) H2 fun y H3 => H3 acc = some (.lst ys) ∧ ys.length < sizeLine ∧ Pv (i + 1) (ys ++ [y]) (upd H3 acc (.lst (ys ++ [y]))) else Pv (i + 1) ys H2)
    (hd : ∀ ys H, Pv xs.length ys H → Q (.ref acc) H) :
    CompT (Itl K a) js tc te σ acc H1 Q := by
  refine ⟨xs.length, Pv, h0, fun i ys H p => ?_⟩
  obtain ⟨hi, q⟩ := hl i ys H p
  by_cases hlt : i < xs.length
  · refine .inr ⟨hlt, ⟨xs, xs[i], q, by simp [hlt]⟩, fun x H' y => ?_⟩
    obtain ⟨e, y⟩ := y
    subst e
    exact hs i x ys _ (y xs q) p
  · have e : i = xs.length := by omega
    subst e
    exact .inl ⟨⟨xs, q, Nat.le_refl _⟩, hd ys H p⟩
theorem comp_range {lo : Int} {n : Nat} {js : List Nat} {tc : TT} {te : TE} {σ : St} {H1 : Hp} {Q : VK} {acc : Addr} (Pv : Nat → List V → Hp → Prop) (h0 : Pv 0 [] (upd H1 acc (.lst []))) (hl : ∀ i ys H, Pv i ys H → i ≤ n)
    (hs : ∀ i ys H, i < n → Pv i ys H → tc (some (.int (lo + i)) :: impS σ js) H fun b H2 => if b = true then te (some (.int (lo + i)) :: impS σ js) H2 fun y H3 => H3 acc = some (.lst ys) ∧ ys.length < sizeLine ∧ Pv (i + 1) (ys ++ [y]) (upd H3 acc (.lst (ys ++ [y]))) else Pv (i + 1) ys H2)
    (hd : ∀ ys H, Pv n ys H → Q (.ref acc) H) :
    CompT (Itr lo n) js tc te σ acc H1 Q := by
  refine ⟨n, Pv, h0, fun i ys H p => ?_⟩
  have hi := hl i ys H p
  by_cases hlt : i < n
  · refine .inr ⟨hlt, hlt, fun x H' y => ?_⟩
    obtain ⟨e, y⟩ := y
    subst e y
    exact hs i ys _ hlt p
  · have e : i = n := by omega
    subst e
    exact .inl ⟨Nat.le_refl _, hd ys H p⟩
theorem bools_get {bs : List Bool} {its : List Value} (r : Vals (bs.map V.bl) its) {i : Nat} {v : Value} (h : its[i]? = some v) : ∃ b, bs[i]? = some b ∧ v = .bool b := by
  have hl := r.length
  rw [List.length_map] at hl
  have hi : i < bs.length := by rw [hl]; exact (List.getElem?_eq_some_iff.mp h).1
  obtain ⟨u, hu, ru⟩ := r.get (i := i) (x := V.bl bs[i]) (by simp [hi])
  rw [h] at hu
  cases hu
  exact ⟨bs[i], by simp [hi], ru⟩
section
variable {X : Cx}
theorem call_all (hc : X.calm = true) : CallR X (.builtin "all") (fun xs H Q => ∃ (p : Addr) (bs : List Bool), xs = [.ref p] ∧ SqL X.K H p (bs.map V.bl) ∧ Q (.bl (bs.all id)) H) := by
  intro pins s σ H xs us Q I r h
  obtain ⟨p, bs, rfl, hq, q⟩ := h
  obtain ⟨u, rfl, rx⟩ := vals1 r
  cases rx
  obtain ⟨its, rv, pl, hz⟩ := I.list hq
  have hl := pl.isList
  have hlt : p < s.heap.objs.size := by obtain ⟨_, e, _⟩ := hl; exact Heap.lt_size e
  have hlen := rv.length
  rw [List.length_map] at hlen
  refine call_all_walk (wpAny_pyIter_list hl ?_)
  refine ⟨s.heap.objs.size, [s.heap.objs.size, p], [s.heap.objs.size], its.toArray.size, _, _, fun i => (bs[i]?).getD true, rfl, Walks.list (A := X.A.in1) (I.ok.hd hc) _ p (Nat.ne_of_lt hlt) its.toArray,
    ⟨⟨_, Heap.get?_push_size _ rfl, rfl, rfl⟩, hl.push _⟩, fun i v s' Q' E' hP hQ => ?_, fun h' tk hk => ?_⟩
  · obtain ⟨b, e, rfl⟩ := bools_get rv (i := i) (v := v) (by simpa using hP)
    simp only [e, Option.getD_some] at hQ
    exact wpAny_truthy_bool hQ
  · have e : ((List.range its.toArray.size).all fun i => (bs[i]?).getD true) = bs.all id := by
      rw [List.size_toArray, ← hlen]; exact LSm.range_all bs
    rw [e]
    exact ⟨.bl _, H, I.kept (LSm.kept_iter hk), rfl, q⟩
theorem call_any (hc : X.calm = true) : CallR X (.builtin "any") (fun xs H Q => ∃ (p : Addr) (bs : List Bool), xs = [.ref p] ∧ SqL X.K H p (bs.map V.bl) ∧ Q (.bl (bs.any id)) H) := by
  intro pins s σ H xs us Q I r h
  obtain ⟨p, bs, rfl, hq, q⟩ := h
  obtain ⟨u, rfl, rx⟩ := vals1 r
  cases rx
  obtain ⟨its, rv, pl, hz⟩ := I.list hq
  have hl := pl.isList
  have hlt : p < s.heap.objs.size := by obtain ⟨_, e, _⟩ := hl; exact Heap.lt_size e
  have hlen := rv.length
  rw [List.length_map] at hlen
  refine call_any_walk (wpAny_pyIter_list hl ?_)
  refine ⟨s.heap.objs.size, [s.heap.objs.size, p], [s.heap.objs.size], its.toArray.size, _, _, fun i => (bs[i]?).getD false, rfl, Walks.list (A := X.A.in1) (I.ok.hd hc) _ p (Nat.ne_of_lt hlt) its.toArray,
    ⟨⟨_, Heap.get?_push_size _ rfl, rfl, rfl⟩, hl.push _⟩, fun i v s' Q' E' hP hQ => ?_, fun h' tk hk => ?_⟩
  · obtain ⟨b, e, rfl⟩ := bools_get rv (i := i) (v := v) (by simpa using hP)
    simp only [e, Option.getD_some] at hQ
    exact wpAny_truthy_bool hQ
  · have e : ((List.range its.toArray.size).any fun i => (bs[i]?).getD false) = bs.any id := by
      rw [List.size_toArray, ← hlen]; exact LSm.range_any bs
    rw [e]
    exact ⟨.bl _, H, I.kept (LSm.kept_iter hk), rfl, q⟩
def rIsi (K : PySem.W.Frag) : List V → Hp → VK → Prop := fun xs H Q => ∃ x T t b, xs = [x, .ty T] ∧ TyOf K H x t ∧ PySem.W.kitOne K t (.type T) = some b ∧ Q (.bl b) H
theorem call_isinst : CallR X (.builtin "isinstance") (rIsi X.K) := by
  intro pins s σ H xs us Q I r h
  obtain ⟨x, T, t, b, rfl, ty, e, q⟩ := h
  obtain ⟨u, v, rfl, rx, ry⟩ := r.two
  cases ry
  exact isinst_ok I rx ty e fun tk => ⟨.bl b, H, I.tok tk, rfl, q⟩
def eqVs : List V → List V → Bool
  | [], [] => true
  | x :: xs, y :: ys => eqV x y && eqVs xs ys
  | _, _ => false
def rEqL (K : PySem.W.Frag) (neg : Bool) : R2 := fun x y H Q => ∃ a b xs ys, x = .ref a ∧ y = .ref b ∧ SqL K H a xs ∧ SqL K H b ys ∧ xs.all flatV = true ∧ ys.all flatV = true ∧ Q (.bl (if neg then !eqVs xs ys else eqVs xs ys)) H
end
end L2
set_option maxHeartbeats 4000000
namespace L2
open PySem PySem.Spec PyProof.Rows
section
variable {X : Cx}
def repS (z : Str) (k : Nat) : Str := ⟨(List.replicate k z.cps).foldl (· ++ ·) #[]⟩
theorem repS_one (z : Str) : repS z 1 = z := by
  show (⟨#[] ++ z.cps⟩ : Str) = z
  rw [Array.empty_append]
theorem foldl_emp : ∀ (k : Nat), (List.replicate k (#[] : Array Nat)).foldl (· ++ ·) #[] = #[]
  | 0 => rfl
  | k + 1 => by
    rw [List.replicate_succ, List.foldl_cons, Array.empty_append]
    exact foldl_emp k
theorem repS_emp {z : Str} (h : z.length = 0) (k : Nat) : repS z k = z := by
  have e : z.cps = #[] := Array.eq_empty_of_size_eq_zero h
  unfold repS
  rw [e, foldl_emp]
  cases z
  cases e
  rfl
def rRepS : R2 := fun x y H Q => ∃ (z : Str) (n : Nat), x = .str z ∧ y = .int n ∧ n ≤ 1000 ∧ z.length ≤ 1000 ∧ Q (.str (repS z n)) H
theorem post_str {s : Shared} {pins : List (Addr × Obj)} {σ : St} {H : Hp} {z : Str} {Q : VK} (I : Inv X pins σ H s) (hz : z.length ≤ sizeLine) (q : Q (.str z) H) : (Made.str z).post (EP X pins σ Q) s :=
  ⟨hz, .str z, H, I.tok _, ⟨_, rfl⟩, q⟩
theorem size_rep (c : Array Nat) : ∀ (k : Nat) (acc : Array Nat), ((List.replicate k c).foldl (· ++ ·) acc).size = acc.size + k * c.size
  | 0, acc => by simp
  | k + 1, acc => by
    rw [List.replicate_succ, List.foldl_cons, size_rep c k, Array.size_append, Nat.succ_mul]
    omega
theorem length_repS (z : Str) (k : Nat) : (repS z k).length = k * z.length := by
  show ((List.replicate k z.cps).foldl (· ++ ·) #[]).size = k * z.cps.size
  rw [size_rep]
  simp
theorem op_repS : OpR X (binaryOp .Mult) rRepS := by
  intro pins s σ H x y v u Q I rx ry h
  obtain ⟨z, n, rfl, rfl, hn, hz, q⟩ := h
  obtain ⟨t, rfl⟩ := rx
  obtain ⟨t', rfl⟩ := ry
  have hb : n * z.length ≤ 1000000 := Nat.mul_le_mul hn hz
  have hs : (1000000 : Nat) ≤ sizeLine := by decide
  refine PySem.P.mul_str (by
      rw [decide_eq_false (by omega), decide_eq_false (by omega)]
      rfl) (fun h1 _ => ?_) (fun h1 _ => ?_) ?_
  · have : (1000 : Int) ≤ (2 ^ 63 - 1) / 1000 := by decide
    have h3 : ((2 ^ 63 - 1 : Int)) / 1000 ≤ (2 ^ 63 - 1) / (n : Int) := by
      refine Int.le_ediv_of_mul_le (by omega) ?_
      have := Int.ediv_mul_le (2 ^ 63 - 1) (show (1000 : Int) ≠ 0 by decide)
      refine Int.le_trans (Int.mul_le_mul_of_nonneg_left (show (n : Int) ≤ 1000 by omega) (by decide)) this
    omega
  · unfold Builtin.Str.tooLong
    rw [Int.toNat_natCast, Nat.mul_comm]
    exact decide_eq_false (by omega)
  · by_cases h1 : (n : Int) < 1
    · rw [if_pos h1]
      have : n = 0 := by omega
      subst this
      exact post_str I (by decide) q
    · rw [if_neg h1]
      by_cases h2 : ((n : Int) == 1 || z.length == 0) = true
      · rw [if_pos h2]
        refine ⟨.str z, H, I, ⟨t, rfl⟩, ?_⟩
        rcases Bool.or_eq_true _ _ ▸ h2 with h2 | h2
        · have : n = 1 := by
            have := eq_of_beq h2
            omega
          subst this
          rw [repS_one] at q
          exact q
        · rw [repS_emp (eq_of_beq h2)] at q
          exact q
      · rw [if_neg h2, Int.toNat_natCast]
        exact post_str I (by show (repS z n).length ≤ sizeLine; rw [length_repS]; omega) q
theorem strs_of : ∀ {zs : List Str} {us : List Value}, Vals (zs.map V.str) us → ∃ l : List (Str × Tok), us = strValues l ∧ l.map (·.1) = zs
  | [], _, r => by cases r; exact ⟨[], rfl, rfl⟩
  | z :: zs, _, r => by
    cases r with
    | cons r1 r2 =>
      obtain ⟨t, rfl⟩ := r1
      obtain ⟨l, rfl, e⟩ := strs_of r2
      exact ⟨(z, t) :: l, rfl, by rw [List.map_cons, e]⟩
theorem of_strs : ∀ (l : List (Str × Tok)), Vals ((l.map (·.1)).map V.str) (strValues l)
  | [] => .nil
  | p :: l => .cons ⟨p.2, rfl⟩ (of_strs l)
def rJoin (K : PySem.W.Frag) : V → List V → Hp → VK → Prop := fun x vs H Q => ∃ (sep : Str) (p : Addr) (zs : List Str), x = .str sep ∧ vs = [.ref p] ∧ SqL K H p (zs.map V.str) ∧ JoinOk sep zs = true ∧ Q (.str (Txt.join sep zs)) H
theorem mt_join : MtR X "str.join" (rJoin X.K) := by
  intro pins s σ H x vs v us Q I rx rv h
  obtain ⟨sep, p, zs, rfl, rfl, hq, ok, q⟩ := h
  obtain ⟨t, rfl⟩ := rx
  obtain ⟨u, rfl, ru⟩ := rv.one
  cases ru
  obtain ⟨its, r, pl, hz⟩ := I.list hq
  obtain ⟨l, rfl, e⟩ := strs_of r
  exact SC.join pl.isList e ok fun t' k => ⟨.str _, H, I.tok k, ⟨t', rfl⟩, q⟩
open Builtin Builtin.Str in
def rSplit : V → List V → Hp → VK → Prop := fun x vs H Q => ∃ (z y : Str), x = .str z ∧ vs = [.str y] ∧ (y.length == 0) = false ∧ z.length ≤ sizeLine ∧ (partsBetween z (occurrences z y 0 z.length (z.length + 1)) y.length).length ≤ sizeLine ∧
  ∀ p, H p = none → Q (.ref p) (upd H p (.lst ((Txt.split z y).map V.str)))
open Builtin Builtin.Str in
theorem mt_split : MtR X "str.split" rSplit := by
  intro pins s σ H x vs v us Q I rx rv h
  obtain ⟨z, y, rfl, rfl, hy, h1, h2, q⟩ := h
  obtain ⟨t, rfl⟩ := rx
  obtain ⟨u, rfl, ru⟩ := rv.one
  obtain ⟨t', rfl⟩ := ru
  have fin : ∀ (l : List (Str × Tok)) (k : Nat), l.map (·.1) = Txt.split z y → l.length ≤ sizeLine → EP X pins σ Q (.ref s.heap.objs.size) { s with toks := k, heap := s.heap.push { cls := .type "list", data := .seq (strValues l).toArray } } := fun l k e hz => by
    refine ⟨.ref _, _, I.lnew (t' := k) (ys := (Txt.split z y).map V.str) (its := strValues l) ?_ ?_, rfl, q _ I.fresh⟩
    · rw [← e]
      exact of_strs l
    · rw [List.length_map, ← e, List.length_map]
      exact hz
  cases c1 : (decide (z.length < y.length) || decide (strKind z < strKind y)) with
  | true => exact call_meets F.slot_str_split (typeIs_str _ _ _) F.entry_str_split (F.args_str_split_2 _ _) (meets_str_split_cannot_occur z y t t' c1) (fin [(z, t)] s.toks (if_pos c1).symm (by show 1 ≤ sizeLine; decide))
  | false =>
    have e1 : Txt.split z y = if (occurrences z y 0 z.length (z.length + 1)).isEmpty = true then [z] else partsBetween z (occurrences z y 0 z.length (z.length + 1)) y.length := if_neg (by rw [c1]; exact Bool.false_ne_true)
    cases c2 : (occurrences z y 0 z.length (z.length + 1)).isEmpty with
    | true => exact call_meets F.slot_str_split (typeIs_str _ _ _) F.entry_str_split (F.args_str_split_2 _ _) (meets_str_split_not_found z y t t' c1 hy c2) (fin [(z, t)] s.toks (by rw [e1, if_pos c2]; rfl) (by show 1 ≤ sizeLine; decide))
    | false =>
      refine call_meets F.slot_str_split (typeIs_str _ _ _) F.entry_str_split (F.args_str_split_2 _ _) (meets_str_split_sep z y t t' c1 hy c2 h1 h2) ?_
      have hn := numbered_texts s.toks (partsBetween z (occurrences z y 0 z.length (z.length + 1)) y.length)
      have := fin (numbered s.toks (partsBetween z (occurrences z y 0 z.length (z.length + 1)) y.length)) (s.toks + (partsBetween z (occurrences z y 0 z.length (z.length + 1)) y.length).length) (by
        rw [hn, e1, if_neg (by rw [c2]; exact Bool.false_ne_true)]) (by
        have := congrArg List.length hn
        rw [List.length_map] at this
        rw [this]
        exact h2)
      rw [← strsFrom_eq] at this
      exact this
def rSlS : V → Option Int → Option Int → Hp → VK → Prop := fun x lo hi H Q => ∃ z, x = .str z ∧ z.length ≤ sizeLine ∧ Q (.str (Txt.slice z lo hi)) H
theorem part_of {v : Value} {o : Option Int} (h : IsPart v o) : ∃ p : Option (Int × Tok), v = partValue p ∧ p.map (·.1) = o := by
  cases h with
  | none => exact ⟨none, rfl, rfl⟩
  | int i t => exact ⟨some (i, t), rfl, rfl⟩
theorem sl_str : SlR X rSlS := by
  intro pins s σ H x v vl vu lo hi sl Q I rx hs pl pu h
  obtain ⟨z, rfl, hz, q⟩ := h
  obtain ⟨t, rfl⟩ := rx
  obtain ⟨p, rfl, rfl⟩ := part_of pl
  obtain ⟨p', rfl, rfl⟩ := part_of pu
  refine ⟨"str", _, F.slot_str_getitem.lookup, typeIs_str _ _ _, wpAny_getItem_str_slice (l := p) (u := p') (st := none) hs rfl ?_⟩
  exact post_val_or_str ⟨Nat.le_trans (Txt.slice_le z _ _) hz, fun t' k => ⟨.str _, H, I.tok k, ⟨t', rfl⟩, q⟩⟩
def Its (z : Str) : It := ⟨fun i _ => i < z.cps.size, fun i H x H' => H' = H ∧ ∃ c, z.cps[i]? = some c ∧ x = .str ⟨#[c]⟩, fun i _ => z.cps.size ≤ i⟩
def iStr (tl : TE) : TI := fun σ H R => tl σ H fun x H1 => ∃ z, x = .str z ∧ R (Its z) H1
theorem turn_str {P : Program} {w : World} {K : PySem.W.Frag} {tg : Expr} (it : Addr) (z : Str) (t : Tok) (ty : String) (hty : ty = "str_ascii_iterator" ∨ ty = "str_iterator") : Turn P w K tg (Its z) [it] it (fun i h => i ≤ z.cps.size ∧ h.IsStrIter it ty z t i) where
  mem := by simp
  obj := fun i h st b hb => by
    have e : b = it := by simpa using hb
    subst e
    obtain ⟨_, o, e, c, d⟩ := st
    exact ⟨o, e, fun v y => by rw [d] at y; cases y⟩
  keep := fun i h h' st k => by
    obtain ⟨hi, o, e, r⟩ := st
    exact ⟨hi, o, k it (by simp) o e, r⟩
  item := by
    intro X hP hw hK hc i pins s σ H E I hf st hg
    subst hP hw hK
    obtain ⟨f0, f1, f2, f3, f4, f5⟩ := hf it (by simp)
    have W : Walks X.prog X.w X.A it [it] [it] z.cps.size (SignAt z) (fun i h => h.IsStrIter it ty z t i) := by
      rcases hty with rfl | rfl
      · exact Walks.strAscii (I.ok.hd hc) it z t
      · exact Walks.strWide (I.ok.hd hc) it z t
    refine W.item i s _ _ hg st.2 fun v h' tk hv st' kk => ?_
    obtain ⟨c, u, hcu, rfl⟩ := hv
    have I1 : Inv X pins σ H { s with heap := h', toks := tk } := I.turned (fun b o hb e => kk b o (by simpa using hb) e) f0 f1 f3 f4 f5
    obtain ⟨o, e, hcl, hd⟩ := id st'
    exact ⟨_, rfl, go_of (s := { s with heap := h', toks := tk }) e hcl hd (by rcases hty with rfl | rfl <;> decide) ⟨.str ⟨#[c]⟩, H, I1, ⟨u, rfl⟩, ⟨rfl, c, hcu, rfl⟩, ⟨hg, st'⟩, fun b hb => (hf b hb).1⟩⟩
  done := by
    intro X hP hw hK hc i pins s σ H E I hf st hg
    subst hP hw hK
    obtain ⟨f0, f1, f2, f3, f4, f5⟩ := hf it (by simp)
    have W : Walks X.prog X.w X.A it [it] [it] z.cps.size (SignAt z) (fun i h => h.IsStrIter it ty z t i) := by
      rcases hty with rfl | rfl
      · exact Walks.strAscii (I.ok.hd hc) it z t
      · exact Walks.strWide (I.ok.hd hc) it z t
    have hi : i = z.cps.size := Nat.le_antisymm st.1 hg
    subst hi
    exact W.done s _ _ st.2 fun h' tk kk => ⟨rfl, I.turned (fun b o hb e => kk b o (by simpa using hb) e) f0 f1 f3 f4 f5⟩
  self := fun _ _ _ _ _ st h => by
    rcases hty with rfl | rfl
    · exact wpAny_pyIter_striter_ascii st.2 h
    · exact wpAny_pyIter_striter_wide st.2 h
theorem pi_str {tg l : Expr} {tl : TE} (hl : PE X l tl) : PI X tg l (iStr tl) := by
  intro pins s σ H R I h
  refine thn (hl pins s σ H _ I h) fun v s1 ⟨x, H1, I1, r1, q1⟩ => ?_
  obtain ⟨z, rfl, q⟩ := q1
  obtain ⟨t, rfl⟩ := r1
  have fp : ∀ b ∈ [s1.heap.objs.size], FpOk X pins H1 b := fun b hb => by
    have e : b = s1.heap.objs.size := by simpa using hb
    subst e
    exact I1.fpOk (Nat.le_refl _) (I1.hok.fresh (Nat.le_refl _))
  cases ha : z.cps.all (· < 128) with
  | false => exact wpAny_pyIter_wide ha ⟨_, _, _, _, H1, rfl, I1.kept (t' := s1.toks) fun b o e => Heap.get?_push_of_some _ e, turn_str _ z t "str_iterator" (.inr rfl), ⟨Nat.zero_le _, _, Heap.get?_push_size _ rfl, rfl, rfl⟩, fp, q⟩
  | true => exact wpAny_pyIter_ascii ha ⟨_, _, _, _, H1, rfl, I1.kept (t' := s1.toks) fun b o e => Heap.get?_push_of_some _ e, turn_str _ z t "str_ascii_iterator" (.inl rfl), ⟨Nat.zero_le _, _, Heap.get?_push_size _ rfl, rfl, rfl⟩, fp, q⟩
theorem comp_str {z : Str} {js : List Nat} {tc : TT} {te : TE} {σ : St} {H1 : Hp} {Q : VK} {acc : Addr} (Pv : Nat → List V → Hp → Prop) (h0 : Pv 0 [] (upd H1 acc (.lst []))) (hl : ∀ i ys H, Pv i ys H → i ≤ z.cps.size)
    (hs : ∀ i c ys H, z.cps[i]? = some c → Pv i ys H → tc (some (.str ⟨#[c]⟩) :: impS σ js) H fun b H2 => if b = true then te (some (.str ⟨#[c]⟩) :: impS σ js) H2 fun y H3 => H3 acc = some (.lst ys) ∧ ys.length < sizeLine ∧ Pv (i + 1) (ys ++ [y]) (upd H3 acc (.lst (ys ++ [y]))) else Pv (i + 1) ys H2)
    (hd : ∀ ys H, Pv z.cps.size ys H → Q (.ref acc) H) : CompT (Its z) js tc te σ acc H1 Q := by
  refine ⟨z.cps.size, Pv, h0, fun i ys H p => ?_⟩
  have hi := hl i ys H p
  by_cases hlt : i < z.cps.size
  · refine .inr ⟨hlt, hlt, fun x H' y => ?_⟩
    obtain ⟨e, c, hc, rfl⟩ := y
    subst e
    exact hs i c ys _ hc p
  · have e : i = z.cps.size := by omega
    subst e
    exact .inl ⟨Nat.le_refl _, hd ys H p⟩
def rIsiC (K : PySem.W.Frag) : List V → Hp → VK → Prop := fun xs H Q => ∃ x C t b, xs = [x, .ref C] ∧ TyOf K H x t ∧ PySem.W.kitOne K t (.ref C) = some b ∧ Q (.bl b) H
end
end L2
set_option maxHeartbeats 4000000
namespace L2
open PySem PySem.Spec PyProof.Rows
def Stay (h h' : Heap) : Prop := ∀ b o, h.get? b = some o → h'.get? b = some o
section
variable {P : Program} {w : World} {A : Around} {s : Shared} {l I S : Addr} {kid : String} {vs : List Value} {R : Result → Shared → Prop}
def KeyTurn (P : Program) (w : World) (A : Around) (s : Shared) (kid : String) (vs : List Value) (kf : Nat → Int) : Prop :=
  ∀ (i : Nat) (v : Value), vs[i]? = some v → ∀ (h : Heap) (tk : Nat) (Q E : Value → Shared → Prop), Stay s.heap h → (∀ t tk', Q (.int (kf i) t) { s with heap := h, toks := tk' }) → wpAny (model P w) A.in1 (call (.builtin kid) [v]) Q E { s with heap := h, toks := tk }
def Best (kf : Nat → Int) (i n : Nat) : Prop := ∀ j, j < n → kf i ≤ kf j ∧ (j < i → kf i < kf j)
end
section
variable {X : Cx}
def MinWant (K : PySem.W.Frag) (Q : VK) (x : V) (H1 : Hp) : Prop := ∃ (p : Addr) (ps : List (Addr × List V)), x = .ref p ∧ SqL K H1 p (ps.map fun e => V.ref e.1) ∧ (∀ e ∈ ps, SqL K H1 e.1 e.2) ∧ ps ≠ [] ∧ ∀ e ∈ ps, (∀ e' ∈ ps, e.2.length ≤ e'.2.length) → Q (.ref e.1) H1
def tMinLen (K : PySem.W.Frag) (te : TE) : TE := fun σ H Q => te σ H (MinWant K Q)
def one1 (B : V → Hp → Prop) : List V → Hp → Prop
  | [x], H => B x H
  | _, _ => False
def Ite (K : PySem.W.Frag) (a : Addr) : It :=
  ⟨fun i H => ∃ xs x, SqL K H a xs ∧ xs[i]? = some x, fun i H y H' => ∃ T, H T = none ∧ y = .ref T ∧ ∃ x, (∀ xs, SqL K H a xs → xs[i]? = some x) ∧ H' = upd H T (.tup [.int i, x]), fun i H => ∃ xs, SqL K H a xs ∧ xs.length ≤ i⟩
def iEnum (K : PySem.W.Frag) (ta : TA) : TI := fun σ H R => ta σ H (one1 fun x H1 => ∃ a, x = .ref a ∧ (∃ xs, SqL K H1 a xs) ∧ R (Ite K a) H1)
end
end L2
set_option maxHeartbeats 4000000
namespace L2
open PySem PySem.Spec PyProof.Rows
structure CompScope2 (sc scope : Scope) (N : List Str) (x1 x2 : Str) (js : List Nat) (fr : List Str) : Prop where
  kind : scope.kind = .function
  noc : ∀ y ∈ scope.names, y.2 ≠ .cell
  loc : ∀ y ∈ scope.names, y.2 = .local → scope.names.lookup y.1 = some .local
  var1 : scope.names.lookup x1 = some .local
  var2 : scope.names.lookup x2 = some .local
  fre : ∀ y ∈ scope.names, y.2 = .free → sc.names.lookup y.1 = some .cell ∨ sc.names.lookup y.1 = some .free
  imp : js.map (fun j => N[j]?) = fr.map some
  frf : ∀ y ∈ fr, scope.names.lookup y = some .free
  nd : (x1 :: x2 :: fr).Nodup
def CompT2 (K : PySem.W.Frag) (J : It) (js : List Nat) (tc : TT) (te : TE) (σ : St) (acc : Addr) (H1 : Hp) (Q : VK) : Prop := ∃ (B : Nat) (W : Nat → List V → Hp → Prop), W 0 [] (upd H1 acc (.lst [])) ∧ ∀ i ys H, W i ys H →
  (J.stop i H ∧ Q (.ref acc) H) ∨ (i < B ∧ J.go i H ∧ ∀ x H', J.yld i H x H' → ∃ T a b, x = .ref T ∧ SqT K H' T [a, b] ∧ tc (some a :: some b :: impS σ js) H' fun c H2 =>
    if c = true then te (some a :: some b :: impS σ js) H2 fun y H3 => H3 acc = some (.lst ys) ∧ ys.length < sizeLine ∧ W (i + 1) (ys ++ [y]) (upd H3 acc (.lst (ys ++ [y])))
    else W (i + 1) ys H2)
def tComp2 (K : PySem.W.Frag) (wi : TI) (js : List Nat) (tc : TT) (te : TE) : TE := fun σ H Q => wi σ H fun J H1 => ∀ acc, H1 acc = none → CompT2 K J js tc te σ acc H1 Q
section
variable {X : Cx} {elt iter : Expr} {x1 x2 : Str} {px1 px2 pt pos : Pos} {kt} {ifs : List Expr} {scope : Scope} {js : List Nat} {fr : List Str} {wi : TI} {tc : TT} {te : TE}
theorem cells2_of (S : CompScope2 X.env.scope scope X.N x1 x2 js fr) (ok : X.Ok) : ∀ y ∈ scope.names, y.2 = .free → ∃ c, X.env.cells.lookup y.1 = some c := fun y hy hk => ok.has y.1 (S.fre y hy hk)
theorem comp2_ok {pins : List (Addr × Obj)} {σ : St} {H : Hp} {s : Shared} {fp : List Addr} (S : CompScope2 X.env.scope scope X.N x1 x2 js fr) (I : Inv X pins σ H s) (f : ∀ b ∈ fp, FpOk X pins H b) (hlt : ∀ b ∈ fp, b < s.heap.objs.size) :
    (cxComp X scope (x1 :: x2 :: fr) pins fp s H).Ok where
  mod := I.ok.mod
  kind := S.kind
  glob := I.ok.glob
  blt := I.ok.blt
  above := Nat.le_refl _
  inj := fun y z c h1 h2 => I.ok.inj y z c (cl_sub (cells2_of S I.ok) h1) (cl_sub (cells2_of S I.ok) h2)
  has := fun y hy => by
    have hy' : (relabel scope X.env).names.lookup y = some .cell ∨ (relabel scope X.env).names.lookup y = some .free := hy
    have fr' : scope.names.lookup y = some .free := by
      rcases hy' with h | h
      · rcases lookup_relabel h with h | ⟨_, h⟩
        · exact absurd rfl (S.noc _ (mem_of_lookup' h))
        · exact h
      · rcases lookup_relabel h with h | ⟨h, _⟩
        · exact h
        · cases h
    exact clFold_some X.env scope.names [] (.inl ⟨.free, mem_of_lookup' fr', rfl⟩)
  cab := fun y c h => by cases h
  hd := I.ok.hd
  frames := I.ok.frames
  stk := .inl rfl
  exf := fun b hb => ⟨Nat.ne_of_lt (hlt b hb), fun y c h => (f b hb).2.2.2.2.1 y c (cl_sub (cells2_of S I.ok) h)⟩
  bs := I.bs
  bsz := Nat.le_trans I.ok.bsz I.sz
  noex := fun b o e hb => by
    rcases (f b hb).2.2.2.1 with z | z
    · exact I.ok.noex b o e z
    · exact absurd (Nat.lt_of_lt_of_le (Heap.lt_size e) (Nat.le_trans I.ok.bsz z)) (Nat.lt_irrefl _)
  exfs := fun b hb z => by
    rcases List.mem_cons.mp (I.stkSub b z) with e | e
    · exact (f b hb).2.1 e
    · exact (f b hb).2.2.1 e
  funs := I.stack
  frf := I.stkFree
theorem comp2_start {pins : List (Addr × Obj)} {σ : St} {H : Hp} {s : Shared} {fp : List Addr} {h1 : Heap} {m1 : Str → Option Value} {tk : Nat} (S : CompScope2 X.env.scope scope X.N x1 x2 js fr) (I : Inv X pins σ H s) (f : ∀ b ∈ fp, FpOk X pins H b) (hlt : ∀ b ∈ fp, b < s.heap.objs.size)
    (hn : h1.Ns s.heap.objs.size m1) (old : ∀ b o, s.heap.get? b = some o → h1.get? b = some o) : Inv (cxComp X scope (x1 :: x2 :: fr) pins fp s H) [] (none :: none :: impS σ js) H { s with heap := h1, toks := tk } := by
  refine ⟨comp2_ok S I f hlt, rfl, I.bare, Un.kept old, ⟨m1, hn, fun i y v e1 e2 e3 => ?_⟩, fun y c h => ?_, I.fresh, fun y c h => I.freeC y c (cl_sub (cells2_of S I.ok) h), fun p hp => ?_, I.hok.kept old, ?_⟩
  ·
    match i, e1, e2 with
    | 0, _, e2 => cases e2
    | 1, _, e2 => cases e2
    | i + 2, e1, e2 =>
      have e1' : fr[i]? = some y := by simpa using e1
      have e2' : (impS σ js)[i]? = some (some v) := by simpa using e2
      have hj : (js.map fun j => X.N[j]?)[i]? = some (some y) := by rw [S.imp, List.getElem?_map, e1']; rfl
      rw [List.getElem?_map] at hj
      cases ej : js[i]? with
      | none => rw [ej] at hj; cases hj
      | some j =>
        rw [ej] at hj
        have hjN : X.N[j]? = some y := Option.some.inj hj
        unfold impS at e2'
        rw [List.getElem?_map, ej] at e2'
        have hv : (σ[j]?).getD none = some v := Option.some.inj e2'
        have hσ : σ[j]? = some (some v) := by
          cases q : σ[j]? with
          | none => rw [q] at hv; cases hv
          | some o => rw [q] at hv; exact congrArg some hv
        have hfr : scope.names.lookup y = some .free := S.frf y (List.mem_of_getElem? e1')
        have hk := S.fre _ (mem_of_lookup' hfr) rfl
        have hvis : Vis X.env.scope y := hk.elim (fun z => .inr (.inl z)) fun z => .inr (.inr z)
        obtain ⟨m, _, hl⟩ := I.loc
        obtain ⟨u, ru, lk⟩ := hl j y v hjN hσ hvis
        refine ⟨u, ru, .inr ⟨?_, ?_⟩⟩
        · have e3' : (relabel scope X.env).names.lookup y = some .local ∨ (relabel scope X.env).names.lookup y = some .cell ∨ (relabel scope X.env).names.lookup y = some .free := e3
          rcases e3' with z | z | z
          · rcases lookup_relabel z with q | ⟨q, _⟩
            · rw [hfr] at q; cases q
            · cases q
          · exact .inl z
          · exact .inr z
        · rcases lk with ⟨z, _⟩ | ⟨_, c, ec, ic⟩
          · rcases hk with hk | hk
            · have z' : X.env.scope.names.lookup y = some .local := z
              rw [hk] at z'; cases z'
            · have z' : X.env.scope.names.lookup y = some .local := z
              rw [hk] at z'; cases z'
          · obtain ⟨c', ec'⟩ := clFold_some X.env scope.names [] (x := y) (.inl ⟨.free, mem_of_lookup' hfr, rfl⟩)
            have ec2 := cl_sub (cells2_of S I.ok) ec'
            rw [ec] at ec2
            cases ec2
            obtain ⟨o, ho, hd⟩ := ic
            exact ⟨c, ec', o, old _ _ ho, hd⟩
  · obtain ⟨v, o, ho, hd⟩ := I.cell y c (cl_sub (cells2_of S I.ok) h)
    exact ⟨v, o, old _ _ ho, hd⟩
  · have hp' : p ∈ X.pn ++ pins := by simpa using hp
    obtain ⟨e, n, ne, nf, d⟩ := I.pin p hp'
    refine ⟨old _ _ e, n, Nat.ne_of_lt (Heap.lt_size e), fun z => ?_, d⟩
    rcases List.mem_cons.mp (I.stkSub p.1 z) with q | q
    · exact ne q
    · exact nf q
  · show (none :: none :: impS σ js).length = (x1 :: x2 :: fr).length
    have := congrArg List.length S.imp
    rw [List.length_map, List.length_map] at this
    unfold impS
    rw [List.length_cons, List.length_cons, List.length_cons, List.length_cons, List.length_map, this]
theorem comp2_core {pins : List (Addr × Obj)} {σ : St} {H : Hp} {s : Shared} {Q : VK} {RR : Value → Addr → Result → Shared → Prop}
    (hc : X.calm = true) (S : CompScope2 X.env.scope scope X.N x1 x2 js fr) (hi : PI X (.Tuple [.Name x1 px1, .Name x2 px2] kt pt) iter wi)
    (ht : ∀ pins fp s H, PTs (cxComp X scope (x1 :: x2 :: fr) pins fp s H) ifs tc) (he : ∀ pins fp s H, PE (cxComp X scope (x1 :: x2 :: fr) pins fp s H) elt te)
    (I : Inv X pins σ H s) (h : tComp2 X.K wi js tc te σ H Q)
    (hRR : ∀ (acc C : Addr) (H' : Hp) (s' : Shared) (m : Str → Option Value), s'.heap.Ns C m → Inv X pins σ H' s' → H' C = none → C ≠ X.env.locals → X.s₀.heap.objs.size ≤ C → (∀ y c, X.env.cells.lookup y = some c → c ≠ C) →
      (∀ p ∈ X.pn ++ pins, p.1 ≠ C) → Q (.ref acc) H' → RR (.ref acc) C (.ok .next) s') :
    wpAny (model X.prog X.w) X.A (eval iter X.env) (fun xv s₁ => wpAny (model X.prog X.w) X.A (pyIter xv) (fun it s₂ => wpAny (model X.prog X.w) X.A (newList []) (fun acc s₃ =>
      wpAny (model X.prog X.w) X.A (newFunctionEnv scope X.env.globals (clOf scope X.env) [] X.env.qual none .none (some X.env)) (fun cenv s₄ =>
        codeAny (model X.prog X.w) X.A (.compStart (.ListComp elt [⟨.Tuple [.Name x1 px1, .Name x2 px2] kt pt, iter, ifs, 0⟩] scope pos) 0 it acc { cenv with scope := relabel scope X.env }) (RR acc cenv.locals) s₄) X.xe s₃) X.xe s₂) X.xe s₁) X.xe s := by
  refine thn (hi pins s σ H _ I h) fun xv s1 h1 => thn h1 fun itv s2 h2 => ?_
  obtain ⟨it, fp, tn, J, H2, e, I2, T, st2, f2, hW⟩ := h2
  subst e
  have hacc : H2 s2.heap.objs.size = none := I2.fresh
  obtain ⟨B, W, w0, turn⟩ := hW s2.heap.objs.size hacc
  have I3 : Inv X pins σ (upd H2 s2.heap.objs.size (.lst [])) { s2 with heap := s2.heap.push { cls := .type "list", data := .seq ([] : List Value).toArray } } := I2.lnew (t' := s2.toks) .nil (Nat.zero_le _)
  have flt2 : ∀ b ∈ fp, b < s2.heap.objs.size := fun b hb => by
    obtain ⟨o, e, _⟩ := T.obj _ _ st2 b hb
    exact Heap.lt_size e
  refine wpAny_newObj_type (wpAny_newFunctionEnv S.noc (by intro y hy; simp at hy) (fun h₁ hns₁ hsb₁ => ?_) S.kind)
  dsimp only at hns₁ hsb₁ ⊢
  have keep3 : ∀ b o, s2.heap.get? b = some o → (s2.heap.push { cls := .type "list", dict := none, data := .seq ([] : List Value).toArray }).get? b = some o := fun b o e => Heap.get?_push_of_some _ e
  generalize hs3 : s2.heap.push { cls := .type "list", dict := none, data := .seq ([] : List Value).toArray } = h3 at hns₁ hsb₁ I3 keep3 ⊢
  have sz3 : h3.objs.size = s2.heap.objs.size + 1 := by rw [← hs3, Heap.size_push]
  generalize hH3 : upd H2 s2.heap.objs.size (.lst []) = H3 at w0 I3
  have f3 : ∀ b ∈ fp, FpOk X pins H3 b := fun b hb => ⟨by rw [← hH3, upd_ne (Nat.ne_of_lt (flt2 b hb))]; exact (f2 b hb).1, (f2 b hb).2⟩
  have flt3 : ∀ b ∈ fp, b < h3.objs.size := fun b hb => by rw [sz3]; exact Nat.lt_succ_of_lt (flt2 b hb)
  have old : ∀ b o, h3.get? b = some o → h₁.get? b = some o := fun b o e => (hsb₁.2 b (Nat.ne_of_lt (Heap.lt_size e))).trans (Heap.get?_push_of_some _ e)
  have I4 : Inv (cxComp X scope (x1 :: x2 :: fr) pins fp { s2 with heap := h3 } H3) [] (none :: none :: impS σ js) H3 { s2 with heap := h₁, toks := s2.toks + ([] : List (Str × Value)).length } :=
    comp2_start (s := { s2 with heap := h3 }) S I3 f3 flt3 hns₁ old
  have st4 : tn 0 h₁ := T.keep _ _ _ st2 fun b hb o e => old b o (keep3 b o e)
  have X' := cxComp X scope (x1 :: x2 :: fr) pins fp { s2 with heap := h3 } H3
  have stat : ∀ {H' : Hp}, (∀ b ∈ fp, H' b = none) → ∀ b ∈ fp, FpOk (cxComp X scope (x1 :: x2 :: fr) pins fp { s2 with heap := h3 } H3) [] H' b := fun {H'} hn b hb =>
    ⟨hn b hb, Nat.ne_of_lt (flt3 b hb), I4.ok.exfs b hb, .inl hb, (I4.ok.exf b hb).2, fun p hp => (f3 b hb).2.2.2.2.2 p (by simpa using hp)⟩
  have back : ∀ {σ' : St} {H' : Hp} {s' : Shared}, Inv (cxComp X scope (x1 :: x2 :: fr) pins fp { s2 with heap := h3 } H3) [] σ' H' s' → Inv X pins σ H' s' := fun {σ' H' s'} J' =>
    I3.call' J'.os J'.base J'.hok J'.bare fun b hb => ⟨(f3 b hb).2.2.2.1, (f3 b hb).2.1, (f3 b hb).2.2.2.2.1, (f3 b hb).2.2.2.2.2⟩
  have fin : ∀ {σ' : St} {H' : Hp} {s' : Shared}, Inv (cxComp X scope (x1 :: x2 :: fr) pins fp { s2 with heap := h3 } H3) [] σ' H' s' → Q (.ref s2.heap.objs.size) H' → RR (.ref s2.heap.objs.size) h3.objs.size (.ok .next) s' := fun {σ' H' s'} J' q => by
    obtain ⟨m, hm, _⟩ := J'.loc
    refine hRR _ _ H' s' m hm (back J') J'.free (Nat.ne_of_gt I3.lt) I3.sz (fun y c e z => ?_) (fun p hp z => ?_) q
    · obtain ⟨v, o, ho, _⟩ := I3.cell y c e
      rw [z] at ho
      exact absurd (Heap.lt_size ho) (Nat.lt_irrefl _)
    · have ho := (I3.pin p hp).1
      rw [z] at ho
      exact absurd (Heap.lt_size ho) (Nat.lt_irrefl _)
  have loop : ∀ s₃ : Shared, s₃ = { s2 with heap := h₁, toks := s2.toks + ([] : List (Str × Value)).length } →
      codeAny (model X.prog X.w) X.A (.compLoop (.ListComp elt [⟨.Tuple [.Name x1 px1, .Name x2 px2] kt pt, iter, ifs, 0⟩] scope pos) 0 (.ref it) (.ref s2.heap.objs.size) (compEnvC scope (clOf scope X.env) h3.objs.size X.env)) (RR (.ref s2.heap.objs.size) h3.objs.size) s₃ := by
    rintro s₃ rfl
    refine comp_loop (fun n s' => ∃ i ys v0 v1 H', Inv (cxComp X scope (x1 :: x2 :: fr) pins fp { s2 with heap := h3 } H3) [] (v0 :: v1 :: impS σ js) H' s' ∧ tn i s'.heap ∧ (∀ b ∈ fp, H' b = none) ∧ W i ys H' ∧ n = B - i) ?_ B ⟨0, [], none, none, H3, I4, st4, fun b hb => (f3 b hb).1, w0, rfl⟩
    rintro n s5 ⟨i, ys, v0, v1, H5, I5, st5, fr5, w5, rfl⟩
    rcases turn i ys H5 w5 with ⟨stop, q⟩ | ⟨hB, go, step⟩
    · refine thn (T.done (cxComp X scope (x1 :: x2 :: fr) pins fp { s2 with heap := h3 } H3) rfl rfl rfl hc i [] s5 _ H5 (fun _ _ => False) I5 (stat fr5) st5 stop) fun r s6 ⟨hr, I6⟩ => ?_
      subst hr
      exact fin I6 q
    · refine thn (T.item (cxComp X scope (x1 :: x2 :: fr) pins fp { s2 with heap := h3 } H3) rfl rfl rfl hc i [] s5 _ H5 (fun _ _ => False) I5 (stat fr5) st5 go) fun r s6 ⟨u, hr, h6⟩ => ?_
      subst hr
      refine thn h6 fun _ s7 ⟨z, H7, I7, r7, y7, st7, fr7⟩ => ?_
      have I7' := I7.pinned (stat fr7) (T.obj _ _ st7)
      have again : ∀ {σ8 : St} {H8 : Hp} {s8 : Shared}, Inv (cxComp X scope (x1 :: x2 :: fr) pins fp { s2 with heap := h3 } H3) ([] ++ pinsAt fp s7.heap) σ8 H8 s8 → tn (i + 1) s8.heap ∧ ∀ b ∈ fp, H8 b = none := fun {σ8 H8 s8} I8 => by
        refine ⟨T.keep _ _ _ st7 fun b hb o e => (I8.pin (b, o) (List.mem_append_right _ (List.mem_append_right _ (mem_pinsAt hb e)))).1, fun b hb => ?_⟩
        obtain ⟨o, e, d⟩ := T.obj _ _ st7 b hb
        exact (I8.pin (b, o) (List.mem_append_right _ (List.mem_append_right _ (mem_pinsAt hb e)))).2.1
      have hg : PG (cxComp X scope (x1 :: x2 :: fr) pins fp { s2 with heap := h3 } H3) (.Tuple [.Name x1 px1, .Name x2 px2] kt pt) (gTup X.K 2 (gCons (gName 0) (gCons (gName 1) gNil))) :=
        pg_tup hc (pgs_cons (pg_name (i := 0) S.nd rfl (.inl (lookup_relabel_local S.var1)) (.inr (lookup_relabel_local S.var1))) (pgs_cons (pg_name (i := 1) S.nd rfl (.inl (lookup_relabel_local S.var2)) (.inr (lookup_relabel_local S.var2))) pgs_nil))
      obtain ⟨Tq, za, zb, rfl, hT7, step7⟩ := step z _ y7
      refine thn (hg _ s7 _ H7 _ u _ I7' r7 (show gTup X.K 2 (gCons (gName 0) (gCons (gName 1) gNil)) (.ref Tq) _ H7 (fun σ' H' => σ' = some za :: some zb :: impS σ js ∧ H' = H7) from ⟨Tq, _, rfl, hT7, rfl, _, _, rfl, _, _, rfl, rfl, rfl, rfl⟩)) fun _ s8 ⟨σ8, H8, I8, e8, eH8⟩ => ?_
      subst e8 eH8
      refine thn (ht _ _ _ _ _ s8 _ _ _ I8 step7) fun ok s9 ⟨H9, I9, q9⟩ => ?_
      cases ok with
      | false =>
        rw [if_neg Bool.false_ne_true] at q9 ⊢
        exact ⟨B - (i + 1), by omega, i + 1, ys, some za, some zb, H9, I9.unpinned, (again I9).1, (again I9).2, q9, rfl⟩
      | true =>
        rw [if_pos rfl] at q9 ⊢
        refine thn (he _ _ _ _ _ s9 _ _ _ I9 q9) fun v s10 ⟨y, H10, I10, r10, ha, hz, w10⟩ => ?_
        refine thn (mt_append _ s10 _ H10 (.ref s2.heap.objs.size) [y] (.ref s2.heap.objs.size) [v] (fun _ H' => H' = upd H10 s2.heap.objs.size (.lst (ys ++ [y]))) I10 rfl (.cons r10 .nil) ⟨_, ys, y, rfl, rfl, ha, hz, rfl⟩) fun _ s11 ⟨_, H11, I11, _, e11⟩ => ?_
        subst e11
        exact ⟨B - (i + 1), by omega, i + 1, ys ++ [y], some za, some zb, _, I11.unpinned, (again I11).1, (again I11).2, w10, rfl⟩
  exact codeAny_compStart_list (loop _ rfl) (T.self _ 0 _ _ _ st4 (loop _ rfl))
theorem pe_comp2 (hc : X.calm = true) (S : CompScope2 X.env.scope scope X.N x1 x2 js fr) (hi : PI X (.Tuple [.Name x1 px1, .Name x2 px2] kt pt) iter wi)
    (ht : ∀ pins fp s H, PTs (cxComp X scope (x1 :: x2 :: fr) pins fp s H) ifs tc) (he : ∀ pins fp s H, PE (cxComp X scope (x1 :: x2 :: fr) pins fp s H) elt te)
    (hs : ∀ v, foldedSetIterable iter X.env v = pure v := by intro _; rfl) : PE X (.ListComp elt [⟨.Tuple [.Name x1 px1, .Name x2 px2] kt pt, iter, ifs, 0⟩] scope pos) (tComp2 X.K wi js tc te) := by
  intro pins s σ H Q I h
  rw [eval_ListComp]
  refine wpAny_comprehension_free (use := none) rfl hs (closureFor_free (cells2_of S I.ok)) S.kind S.loc (comp2_core (RR := fun acc C => compPost (model X.prog X.w) X.A X.xe none (EP X pins σ Q) acc C) hc S hi ht he I h ?_)
  intro acc C H' s' m hn I' hC h1 h2 h3 h4 q
  exact ⟨m, hn, fun h' hs' => ⟨.ref acc, H', I'.turned (t' := s'.toks) (fun b o hb e => (hs'.2 b hb).trans e) hC (Ne.symm (Ne.symm h1)) (.inr h2) h3 h4, rfl, q⟩⟩
end
section
variable {X : Cx}
theorem call_sumL (hc : X.calm = true) : CallR X (.builtin "sum") (fun xs H Q => ∃ (p : Addr) (ns : List Int), xs = [.ref p] ∧ SqL X.K H p (ns.map V.int) ∧ Q (.int ns.sum) H) := by
  intro pins s σ H xs us Q I r h
  obtain ⟨p, ns, rfl, hq, q⟩ := h
  obtain ⟨u, rfl, rx⟩ := vals1 r
  cases rx
  obtain ⟨its, rv, pl, hz⟩ := I.list hq
  have hi : IntsAre its ns := intsAre_of rv
  obtain ⟨zs, e⟩ := hi.allInts.items
  have hns : ns = zs.toList.map (·.1) := by rw [← hi.numsOf, ← nums_intItems, ← e]
  have hl := pl.isList
  rw [e] at hl
  refine sum_intListG (I.ok.hd hc) hl fun h' tk t' hk => ?_
  refine ⟨.int _, H, I.kept hk, ⟨t', rfl⟩, ?_⟩
  have e2 : preSum (numAt zs) zs.size = ns.sum := by
    rw [preSum_eq, List.take_of_length_le (by simp), hns]
  rw [e2]
  exact q
end
end L2
set_option maxHeartbeats 4000000
namespace L2
open PySem PySem.Spec PyProof.Rows
def Iten (z : Str) : It := ⟨fun i _ => i < z.cps.size, fun i H y H' => ∃ T c, H T = none ∧ y = .ref T ∧ z.cps[i]? = some c ∧ H' = upd H T (.tup [.int i, .str ⟨#[c]⟩]), fun i _ => z.cps.size ≤ i⟩
theorem turn_enumS {P : Program} {w : World} {K : PySem.W.Frag} {elts : List Expr} {x1} {tp : Pos} (e it : Addr) (hei : e ≠ it) (z : Str) (t : Tok) (ty : String) (hty : ty = "str_ascii_iterator" ∨ ty = "str_iterator") :
    Turn P w K (.Tuple elts x1 tp) (Iten z) [e, it] e (fun i h => i ≤ z.cps.size ∧ (∃ old, IsEnum h e it i old) ∧ h.IsStrIter it ty z t i) where
  mem := by simp
  obj := fun i h st b hb => by
    obtain ⟨_, ⟨old, he⟩, o, e2, c, d⟩ := st
    rcases List.mem_cons.mp hb with rfl | hb
    · exact ⟨_, he, fun v y => by
        have y' : Data.fields _ = Data.cell v := y
        cases y'⟩
    · have e1 : b = it := by simpa using hb
      subst e1
      exact ⟨o, e2, fun v y => by rw [d] at y; cases y⟩
  keep := fun i h h' st k => by
    obtain ⟨hi, ⟨old, he⟩, o, q, r⟩ := st
    exact ⟨hi, ⟨old, k e (by simp) _ he⟩, o, k it (by simp) o q, r⟩
  item := by
    intro X hP hw hK hc i pins s σ H E I hf st hg
    subst hP hw hK
    obtain ⟨hi, ⟨old, he⟩, hit⟩ := st
    obtain ⟨f0, f1, f2, f3, f4, f5⟩ := hf it (by simp)
    obtain ⟨g0, g1, g2, g3, g4, g5⟩ := hf e (by simp)
    have helt : e < s.heap.objs.size := Heap.lt_size he
    have hilt : it < s.heap.objs.size := by
      obtain ⟨o, q, _⟩ := id hit
      exact Heap.lt_size q
    have D : Draws X.prog X.w X.A.in1 it [it] z.cps.size (fun i v => ∃ c u, z.cps[i]? = some c ∧ v = .str ⟨#[c]⟩ u) (fun i h => h.IsStrIter it ty z t i) := by
      rcases hty with rfl | rfl
      · exact Draws.strAscii (A := X.A.in1) (I.ok.hd hc) it z t
      · exact Draws.strWide (A := X.A.in1) (I.ok.hd hc) it z t
    refine wpAny_pyNext_enum_itemD D he hit hg hei (by simpa using hei) fun u h1 tk hPu ho1 hit1 hT1 hz1 k1 => ⟨_, rfl, ?_⟩
    obtain ⟨c, uu, hcu, rfl⟩ := hPu
    refine wpAny_letOwnedTupleGo_enum ho1 fun h2 he2 sb2 => ?_
    have sb2' : Heap.SameBut e h1 h2 := sb2
    have I0 : Inv X pins σ (upd H s.heap.objs.size (.tup [.int i, .str ⟨#[c]⟩])) { s with heap := s.heap.push { cls := .type "tuple", data := .seq #[.int i tk, .str ⟨#[c]⟩ uu] }, toks := tk + 1 } :=
      I.laid (o := .tup [.int i, .str ⟨#[c]⟩]) (fun b o q => Heap.get?_push_of_some _ q) (Nat.le_refl _) ⟨(by show 2 ≤ sizeLine; decide), [.int i tk, .str ⟨#[c]⟩ uu], .cons ⟨_, rfl⟩ (.cons ⟨_, rfl⟩ .nil), _, Heap.get?_push_size _ rfl, rfl, _, rfl⟩
    have fit : (upd H s.heap.objs.size (.tup [.int i, .str ⟨#[c]⟩])) it = none := by rw [upd_ne (Nat.ne_of_lt hilt)]; exact f0
    have fie : (upd H s.heap.objs.size (.tup [.int i, .str ⟨#[c]⟩])) e = none := by rw [upd_ne (Nat.ne_of_lt helt)]; exact g0
    have he2' : h2.get? e = some _ := he2
    have gself : ((h2.update e fun _ => { cls := .type "enumerate", dict := none, data := .fields #[.none, .bool false, .ref it, rawInt i, .none, old], slots := #[] }).get? e) = some { cls := .type "enumerate", dict := none, data := .fields #[.none, .bool false, .ref it, rawInt i, .none, old], slots := #[] } := Heap.get?_update_self _ he2' rfl
    have I1 := I0.turned (h' := h2.update e fun _ => { cls := .type "enumerate", dict := none, data := .fields #[.none, .bool false, .ref it, rawInt i, .none, old], slots := #[] }) (t' := tk + 1) (it := it) (fun b o hb q => by
        by_cases hbe : b = e
        · subst hbe
          rcases Heap.get?_push_cases q with ⟨y, _⟩ | q
          · exact absurd y (Nat.ne_of_lt helt)
          · have he' : s.heap.get? b = some _ := he
            rw [he'] at q
            cases q
            exact gself
        · rw [Heap.get?_update_ne _ _ _ _ hbe, sb2'.2 b hbe]
          rcases Heap.get?_push_cases q with ⟨rfl, rfl⟩ | q
          · exact hT1
          · exact k1 b o hbe hb q) fit f1 f3 f4 f5
    have I2 := I1.turned (h' := h2) (t' := tk + 1) (it := e) (fun b o hb q => by
        have q' : (h2.update e fun _ => { cls := .type "enumerate", dict := none, data := .fields #[.none, .bool false, .ref it, rawInt i, .none, old], slots := #[] }).get? b = some o := q
        rw [Heap.get?_update_ne _ _ _ _ hb] at q'
        exact q') fie g1 g3 g4 g5
    have hit2 : h2.IsStrIter it ty z t (i + 1) := by
      obtain ⟨o, q, r⟩ := hit1
      exact ⟨o, (sb2'.2 it hei.symm).trans q, r⟩
    refine ⟨.ref s.heap.objs.size, _, I2, rfl, ⟨_, c, I.hok.fresh (Nat.le_refl _), rfl, hcu, rfl⟩, ⟨hg, ⟨_, he2⟩, hit2⟩, fun b hb => ?_⟩
    rcases List.mem_cons.mp hb with rfl | hb
    · exact fie
    · have e1 : b = it := by simpa using hb
      subst e1
      exact fit
  done := by
    intro X hP hw hK hc i pins s σ H E I hf st hg
    subst hP hw hK
    obtain ⟨hi, ⟨old, he⟩, hit⟩ := st
    obtain ⟨f0, f1, f2, f3, f4, f5⟩ := hf it (by simp)
    have D : Draws X.prog X.w X.A.in1 it [it] z.cps.size (fun i v => ∃ c u, z.cps[i]? = some c ∧ v = .str ⟨#[c]⟩ u) (fun i h => h.IsStrIter it ty z t i) := by
      rcases hty with rfl | rfl
      · exact Draws.strAscii (A := X.A.in1) (I.ok.hd hc) it z t
      · exact Draws.strWide (A := X.A.in1) (I.ok.hd hc) it z t
    have hi' : i = z.cps.size := Nat.le_antisymm hi hg
    subst hi'
    exact wpAny_pyNext_enum_endD D he hit fun h' eb => ⟨rfl, I.turned (t' := s.toks) (fun b o hb q => eb b o hb q) f0 f1 f3 f4 f5⟩
  self := fun _ _ _ _ _ st h => by
    obtain ⟨_, ⟨old, he⟩, _⟩ := st
    exact wpAny_pyIter_enum he h
section
variable {X : Cx}
def iEnumS (ta : TA) : TI := fun σ H R => ta σ H (one1 fun x H1 => ∃ z, x = .str z ∧ R (Iten z) H1)
theorem pi_enumS {elts : List Expr} {x1} {tp : Pos} {l : Expr} {ta : TA} {p pos : Pos} (hm : X.mg "enumerate" = none) (hl : PA X [l] ta) (hg : Gl X "enumerate" := by rfl)
    (hs : starEach [l] X.env = (false, eval l X.env) :: starEach [] X.env := by rfl) (hpl : (backTo pos (starEach [] X.env)).any (·.1) = false := by rfl) : PI X (.Tuple elts x1 tp) (.Call (.Name "enumerate" p) [l] [] pos) (iEnumS ta) := by
  intro pins s σ H R I h
  refine wpAny_Call_Name_kw (ld_blt I hg hm PyProof.Rows.boot_enumerate ?_)
  refine PyProof.Rows.callWith_type1 (thn (hl pos pins s σ H _ I h) fun us s1 ⟨vs, H1, I1, r1, q1⟩ => ?_) hs hpl
  match vs, q1 with
  | [x], q1 =>
  obtain ⟨z, rfl, q⟩ := q1
  obtain ⟨u, rfl, rx⟩ := vals1 r1
  obtain ⟨t, rfl⟩ := rx
  refine call_enumerate_str fun h' he hit hz' k => ?_
  refine wpAny_pyIter_enum he ?_
  have I2 : Inv X pins σ H1 { s1 with heap := h' } := I1.kept (t' := s1.toks) k
  have fp : ∀ b ∈ [s1.heap.objs.size + 1, s1.heap.objs.size], FpOk X pins H1 b := fun b hb => by
    rcases List.mem_cons.mp hb with rfl | hb
    · exact I1.fpOk (Nat.le_succ _) (I1.hok.fresh (Nat.le_succ _))
    · have e : b = s1.heap.objs.size := by simpa using hb
      subst e
      exact I1.fpOk (Nat.le_refl _) (I1.hok.fresh (Nat.le_refl _))
  have hty : strIterType z = "str_ascii_iterator" ∨ strIterType z = "str_iterator" := by
    unfold strIterType
    split
    · exact .inl rfl
    · exact .inr rfl
  exact ⟨s1.heap.objs.size + 1, [s1.heap.objs.size + 1, s1.heap.objs.size], _, _, H1, rfl, I2, turn_enumS (s1.heap.objs.size + 1) s1.heap.objs.size (Nat.succ_ne_self _) z t _ hty, ⟨Nat.zero_le _, ⟨_, he⟩, hit⟩, fp, q⟩
theorem comp_enumS {K : PySem.W.Frag} {z : Str} {js : List Nat} {tc : TT} {te : TE} {σ : St} {H1 : Hp} {Q : VK} {acc : Addr} (Pv : Nat → List V → Hp → Prop) (h0 : Pv 0 [] (upd H1 acc (.lst []))) (hl : ∀ i ys H, Pv i ys H → i ≤ z.cps.size)
    (hs : ∀ i c ys H T, z.cps[i]? = some c → Pv i ys H → H T = none → tc (some (.int i) :: some (.str ⟨#[c]⟩) :: impS σ js) (upd H T (.tup [.int i, .str ⟨#[c]⟩])) fun b H2 => if b = true then te (some (.int i) :: some (.str ⟨#[c]⟩) :: impS σ js) H2 fun y H3 => H3 acc = some (.lst ys) ∧ ys.length < sizeLine ∧ Pv (i + 1) (ys ++ [y]) (upd H3 acc (.lst (ys ++ [y]))) else Pv (i + 1) ys H2)
    (hd : ∀ ys H, Pv z.cps.size ys H → Q (.ref acc) H) : CompT2 K (Iten z) js tc te σ acc H1 Q := by
  refine ⟨z.cps.size, Pv, h0, fun i ys H p => ?_⟩
  have hi := hl i ys H p
  by_cases hlt : i < z.cps.size
  · refine .inr ⟨hlt, hlt, fun x H' y => ?_⟩
    obtain ⟨T, c, hT, rfl, hc, rfl⟩ := y
    exact ⟨T, _, _, rfl, SqT.of upd_same, hs i c ys H T hc p hT⟩
  · have e : i = z.cps.size := by omega
    subst e
    exact .inl ⟨Nat.le_refl _, hd ys H p⟩
end
end L2
set_option maxHeartbeats 4000000
namespace TX
open PySem PySem.Builtin PySem.Builtin.Str PySem.StrLaws
theorem occ_run (x sub : Str) (hs : sub.length = 1) (n limit : Nat) : ∀ (k a : Nat) (arr : Array Nat) (f : Nat), f ≤ a → arr.size ≤ a → a + k ≤ limit →
    (forIn (List.range' a k) (arr, f) (occBody x sub n limit)).run.fst.toList = arr.toList ++ (List.range' a k).filter (fun i => decide (i + 1 ≤ n) && subAt x sub i)
  | 0, a, arr, f, _, _, _ => by simp
  | k + 1, a, arr, f, h1, h2, h3 => by
    rw [List.range'_succ, List.forIn_cons]
    unfold occBody
    split
    · rename_i hc
      have ih := occ_run x sub hs n limit k (a + 1) (arr.push a) (a + sub.length) (by omega) (by rw [Array.size_push]; omega) (by omega)
      have hp : (decide (a + 1 ≤ n) && subAt x sub a) = true := by
        rw [hc.2, decide_eq_true (by have := hc.1.2; omega)]
        rfl
      rw [List.filter_cons, if_pos hp]
      refine Eq.trans ih ?_
      rw [Array.toList_push, List.append_assoc]
      rfl
    · rename_i hc
      have ih := occ_run x sub hs n limit k (a + 1) arr f (by omega) (by omega) (by omega)
      have hp : ¬ (decide (a + 1 ≤ n) && subAt x sub a) = true := fun z => by
        rw [Bool.and_eq_true] at z
        have := of_decide_eq_true z.1
        exact hc ⟨⟨⟨(by show arr.size < limit; omega), h1⟩, by omega⟩, z.2⟩
      rw [List.filter_cons, if_neg hp]
      exact ih
theorem occ_all (x sub : Str) (hs : sub.length = 1) : occurrences x sub 0 x.length (x.length + 1) = (List.range' 0 (x.length + 1)).filter (fun i => decide (i + 1 ≤ x.length) && subAt x sub i) := by
  rw [occ_eq]
  have := occ_run x sub hs x.length (x.length + 1) (x.length + 1 - 0) 0 #[] 0 (Nat.le_refl _) (Nat.le_refl _) (by omega)
  rw [this]
  rfl
def spl (c : Nat) : List Nat → List (List Nat)
  | [] => [[]]
  | d :: r => if d = c then [] :: spl c r else match spl c r with
    | p :: q => (d :: p) :: q
    | [] => [[d]]
theorem spl_ne (c : Nat) : ∀ l, spl c l ≠ []
  | [] => by simp [spl]
  | d :: r => by
    unfold spl
    split
    · simp
    · split <;> simp
def joinL (c : Nat) : List (List Nat) → List Nat
  | [] => []
  | [r] => r
  | r :: s :: t => r ++ c :: joinL c (s :: t)
theorem spl_free (c : Nat) : ∀ (r l : List Nat) (p : List Nat) (q : List (List Nat)), c ∉ r → spl c l = p :: q → spl c (r ++ l) = (r ++ p) :: q
  | [], _, _, _, _, h => h
  | d :: r, l, p, q, hf, h => by
    have hd : ¬ d = c := fun z => hf (z ▸ List.mem_cons_self)
    have ih := spl_free c r l p q (fun z => hf (List.mem_cons_of_mem _ z)) h
    show (if d = c then [] :: spl c (r ++ l) else match spl c (r ++ l) with
      | p :: q => (d :: p) :: q
      | [] => [[d]]) = _
    rw [if_neg hd, ih]
    rfl
theorem spl_join (c : Nat) : ∀ rows : List (List Nat), rows ≠ [] → (∀ r ∈ rows, c ∉ r) → spl c (joinL c rows) = rows
  | [], h, _ => absurd rfl h
  | [r], _, hf => by
    have := spl_free c r [] [] [] (hf r (.head _)) rfl
    rw [List.append_nil] at this
    exact this
  | r :: s :: t, _, hf => by
    have ih := spl_join c (s :: t) (by simp) fun a ha => hf a (.tail _ ha)
    have e : spl c (c :: joinL c (s :: t)) = [] :: (s :: t) := by
      show (if c = c then [] :: spl c (joinL c (s :: t)) else _) = _
      rw [if_pos rfl, ih]
    have := spl_free c r (c :: joinL c (s :: t)) [] (s :: t) (hf r (.head _)) e
    rw [List.append_nil] at this
    exact this
theorem take_one {L : List Nat} {a : Nat} (h : a < L.length) : L.drop a = L[a] :: L.drop (a + 1) := List.drop_eq_getElem_cons h
theorem subAt_one (x : Str) (c a : Nat) (h : a < x.cps.toList.length) : subAt x ⟨#[c]⟩ a = (x.cps.toList[a] == c) := by
  rw [subAt_eq, take_one h]
  show ([x.cps.toList[a]] == [c]) = _
  simp
def pre (d : Nat) : List (List Nat) → List (List Nat)
  | p :: q => (d :: p) :: q
  | [] => [[d]]
theorem parts_pre (x : Str) {a : Nat} (h : a < x.cps.toList.length) : ∀ cuts : List Nat, (∀ i ∈ cuts, a + 1 ≤ i) → (partsFrom x 1 a cuts).map (fun z => z.cps.toList) = pre x.cps.toList[a] ((partsFrom x 1 (a + 1) cuts).map fun z => z.cps.toList)
  | [], _ => by
    have hn : x.length = x.cps.toList.length := by simp [Str.length]
    show [(strSub x a x.length).cps.toList] = [x.cps.toList[a] :: (strSub x (a + 1) x.length).cps.toList]
    rw [strSub_toList, strSub_toList, take_one h, hn, show x.cps.toList.length - a = (x.cps.toList.length - (a + 1)) + 1 by omega, List.take_succ_cons]
  | c :: r, hc => by
    have h1 := hc c (.head _)
    show (strSub x a c).cps.toList :: _ = (x.cps.toList[a] :: (strSub x (a + 1) c).cps.toList) :: _
    rw [strSub_toList, strSub_toList, take_one h, show c - a = (c - (a + 1)) + 1 by omega, List.take_succ_cons]
theorem parts_spl (x : Str) (c : Nat) : ∀ (k a : Nat), a + k = x.cps.toList.length →
    (partsFrom x 1 a ((List.range' a (k + 1)).filter fun i => decide (i + 1 ≤ x.length) && subAt x ⟨#[c]⟩ i)).map (fun z => z.cps.toList) = spl c (x.cps.toList.drop a)
  | 0, a, h => by
    have hn : x.length = x.cps.toList.length := by simp [Str.length]
    have e : ((List.range' a (0 + 1)).filter fun i => decide (i + 1 ≤ x.length) && subAt x ⟨#[c]⟩ i) = [] := by
      rw [List.filter_eq_nil_iff]
      intro i hi
      have : i = a := by simpa using hi
      rw [decide_eq_false (by omega)]
      simp
    rw [e, List.drop_of_length_le (by omega)]
    show [(strSub x a x.length).cps.toList] = [[]]
    rw [strSub_toList, List.drop_of_length_le (by omega)]
    simp
  | k + 1, a, h => by
    have hn : x.length = x.cps.toList.length := by simp [Str.length]
    have hlt : a < x.cps.toList.length := by omega
    have ih := parts_spl x c k (a + 1) (by omega)
    rw [List.range'_succ, List.filter_cons, take_one hlt]
    have hp : (decide (a + 1 ≤ x.length) && subAt x ⟨#[c]⟩ a) = (x.cps.toList[a] == c) := by
      rw [decide_eq_true (by omega), subAt_one x c a hlt]
      rfl
    rw [hp]
    by_cases hc : x.cps.toList[a] = c
    · rw [if_pos (by rw [hc]; simp)]
      show (strSub x a a).cps.toList :: _ = (if x.cps.toList[a] = c then [] :: spl c (x.cps.toList.drop (a + 1)) else _)
      rw [if_pos hc, strSub_toList, Nat.sub_self, List.take_zero]
      exact congrArg _ ih
    · rw [if_neg (by simpa using hc)]
      rw [parts_pre x hlt _ fun i hi => by
        have := List.mem_range'_1.mp (List.mem_filter.mp hi).1
        omega, ih]
      show _ = (if x.cps.toList[a] = c then [] :: spl c (x.cps.toList.drop (a + 1)) else match spl c (x.cps.toList.drop (a + 1)) with
        | p :: q => (x.cps.toList[a] :: p) :: q
        | [] => [[x.cps.toList[a]]])
      rw [if_neg hc]
      cases spl c (x.cps.toList.drop (a + 1)) <;> rfl
def mkS (l : List Nat) : Str := ⟨l.toArray⟩
theorem mkS_toList (x : Str) : mkS x.cps.toList = x := by
  unfold mkS
  rw [Array.toArray_toList]
theorem split_eq (x : Str) (c : Nat) : partsBetween x (occurrences x ⟨#[c]⟩ 0 x.length (x.length + 1)) 1 = (spl c x.cps.toList).map mkS := by
  have hn : x.length = x.cps.toList.length := by simp [Str.length]
  have h := parts_spl x c x.cps.toList.length 0 (by omega)
  rw [List.drop_zero] at h
  rw [partsBetween_eq, occ_all x ⟨#[c]⟩ rfl, ← h, List.map_map]
  rw [show x.length + 1 = x.cps.toList.length + 1 by omega]
  refine (List.map_id _).symm.trans (List.map_congr_left fun z _ => ?_)
  exact (mkS_toList z).symm
theorem join_toList (sep : Str) (c : Nat) (hs : sep.cps.toList = [c]) : ∀ zs : List Str, (Str.join sep zs).cps.toList = joinL c (zs.map fun z => z.cps.toList)
  | [] => rfl
  | [z] => rfl
  | z :: y :: r => by
    have ih := join_toList sep c hs (y :: r)
    show (z ++ sep ++ Str.join sep (y :: r)).cps.toList = z.cps.toList ++ c :: joinL c ((y :: r).map fun z => z.cps.toList)
    rw [Str.cps_append, Str.cps_append, Array.toList_append, Array.toList_append, hs, ih]
    simp
theorem join0_toList : ∀ zs : List Str, (Str.join Str.empty zs).cps.toList = (zs.map fun z => z.cps.toList).flatten
  | [] => rfl
  | [z] => by
    show z.cps.toList = _
    simp
  | z :: y :: r => by
    have ih := join0_toList (y :: r)
    show (z ++ Str.empty ++ Str.join Str.empty (y :: r)).cps.toList = _
    rw [Str.cps_append, Str.cps_append, Array.toList_append, Array.toList_append, ih]
    simp [Str.empty]
end TX
namespace L2
open PySem PySem.Spec PyProof.Rows Builtin.ObjectAttr Builtin.Getset_descriptor
def ExcObj (x C : Addr) (h : Heap) : Prop := ∃ o, h.get? x = some o ∧ o.cls = .ref C ∧ ∃ vs, o.data = .fields vs ∧ vs[2]? = some .none
structure ExcC (K : PySem.W.Frag) (C : Addr) : Prop where
  ex : PySem.W.excIn K C [.type "ValueError", .type "Exception", .type "BaseException", .type "object"] "ValueError.__new__" = true
  ga : PySem.W.findIn K (.ref C) "__getattribute__" = some (some (.builtin "BaseException.__getattribute__"))
  gr : PySem.W.findIn K (.ref C) "__getattr__" = some none
  ha : PySem.W.findIn K (.ref C) "__class__" = some (some (.builtin "object.__class__"))
  hn : PySem.W.specialIn K (.builtin "object.__class__") "__get__" = some (some (.builtin "getset_descriptor.__get__"))
  tk : PySem.W.takesIn K (.builtin "object.__class__") = some true
  ob : PySem.W.mroIn K C (.type "object") = some true
  bs : PySem.W.mroIn K C (.type "BaseException") = some true
section
variable {prog : Program} {w : World} {A : Around} {E : Value → Shared → Prop} {s : Shared} {K : PySem.W.Frag} {x C : Addr} {R : Result → Shared → Prop}
theorem ExcObj.type {M : Model} {h : Heap} (p : ExcObj x C h) : PySem.W.Looks M h (typeOf (.ref x)) (.ref C) := by
  obtain ⟨o, h1, h2, _⟩ := p
  exact h2 ▸ (PySem.W.Looks.ld h1).andThen .now
open PySem.W in
theorem exc_class_get {tp : Value} (X : K.In s.heap) (p : ExcObj x C s.heap) (Z : ExcC K C) (h : R (.ok (.ret (.ref C))) s) :
    codeAny (model prog w) A (.call (.builtin "getset_descriptor.__get__") ⟨[.builtin "object.__class__", .ref x, tp], []⟩) R s := by
  obtain ⟨hh, g, dr, t, os⟩ := s
  have T0 := p.type (M := model prog w)
  have T1 := looks_mroIn (M := model prog w) X Z.ob
  refine codeAny_call_builtin KF.slot_gs.plain KF.entry_gs (KF.slot_gs.check _ _ _ _ _ _ _ _ KF.type_class (KF.args_gs _ _ _) ?_)
  unfold Builtin.«getset_descriptor.__get__» descrGet
  rw [dga_obj]
  refine wpAny_bind (wpAny_pure ?_)
  unfold descrGetter descrCheckInstance descrNameAndClass isInstance
  simp only [KF.owner_class]
  repeat lk
  refine ⟨Code.quiet_builtin _ (by decide +kernel), codeAny_builtin KF.entry_class ?_⟩
  unfold Builtin.«object.__class__» shownTypeOf
  repeat lk
  exact h
open PySem.W in
theorem exc_find {M : Model} {h : Heap} (X : K.In h) (Z : ExcC K C) : Looks M h (find (.ref x) (.ref C) "__class__") (.bind (.builtin "getset_descriptor.__get__") (.builtin "object.__class__")) := by
  have T1 := looks_findIn (M := M) X Z.ha
  have T2 : Looks M h (getOf (some (.builtin "object.__class__"))) (some (.builtin "getset_descriptor.__get__")) := looks_specialIn X Z.hn
  have T3 := looks_takesIn (M := M) X Z.tk
  refine T1.andThen (T2.andThen ?_)
  exact (show Looks M h (dataDescriptor? (some (.builtin "object.__class__")) (some (.builtin "getset_descriptor.__get__"))) (some (.builtin "getset_descriptor.__get__", .builtin "object.__class__")) from T3.andThen .now).andThen (Looks.tag .now)
open PySem.W in
theorem exc_ga {tk : Tok} {Q : Fin → Shared → Prop} (X : K.In s.heap) (p : ExcObj x C s.heap) (Z : ExcC K C) (h : Q (.done (.ret (.ref C))) s) :
    wpAny (model prog w) A (Builtin.«object.__getattribute__» ⟨[.ref x, .str "__class__" tk], []⟩) Q E s := by
  obtain ⟨hh, g, dr, t, os⟩ := s
  have T0 := p.type (M := model prog w)
  have T1 := exc_find (M := model prog w) (x := x) X Z
  unfold Builtin.«object.__getattribute__»
  refine wpAny_bind (wpAny_pure ?_)
  refine wpAny_bind (wpAny_pure ?_)
  refine wpAny_bind (T0.at ?_)
  refine wpAny_bind (T1.at ?_)
  show wpAny _ _ (holding [.builtin "object.__class__"] (call (.builtin "getset_descriptor.__get__") [.builtin "object.__class__", .ref x, .ref C]) >>= ret) _ _ _
  exact wpAny_bind (wpAny_holding (wpAny_call (exc_class_get X p Z (wpAny_pure h))))
open PySem.W in
theorem exc_check {M : Model} {nameV : Value} {Q : Unit → Shared → Prop} (X : K.In s.heap) (p : ExcObj x C s.heap) (Z : ExcC K C) (h : Q () s) : wpAny M A (checkBuiltinCall "BaseException.__getattribute__" ⟨[.ref x, nameV], []⟩) Q E s := by
  obtain ⟨hh, g, dr, t, os⟩ := s
  have hk : builtinKind "BaseException.__getattribute__" = some .slot := by decide +kernel
  have hs : splitId "BaseException.__getattribute__" = some ("BaseException", "__getattribute__") := by decide +kernel
  have ha := PySem.F.args_bexc_ga (.ref x) nameV
  have LI : Looks M hh (isInstance (.ref x) (.type "BaseException")) true := p.type.andThen (looks_mroIn X Z.bs)
  simp only [checkBuiltinCall, hk, hs]
  refine wpAny_bind (LI.at ?_)
  repeat (first | assumption | wp_step)
open PySem.W in
theorem exc_class {Q : Option Value → Shared → Prop} (X : K.In s.heap) (p : ExcObj x C s.heap) (Z : ExcC K C) (h : Q (some (.ref C)) { s with toks := s.toks + 1 }) : wpAny (model prog w) A (getAttr? (.ref x) "__class__") Q E s := by
  obtain ⟨hh, g, dr, t, os⟩ := s
  have T0 := p.type (M := model prog w)
  have T1 := looks_findIn (M := model prog w) X Z.ga
  have T2 := looks_findIn (M := model prog w) X Z.gr
  have f3 := PySem.F.attr_ValueError.ga.bind (.ref x)
  have hx2 : (Value.builtin "BaseException.__getattribute__" == Value.builtin "object.__getattribute__") = false := by decide +kernel
  have hx1 : (onTheHeap (Value.ref C) && Value.builtin "BaseException.__getattribute__" == Value.builtin "object.__getattribute__") = false := by rw [hx2]; rfl
  unfold getAttr? getAttrBy? getAttrBy
  refine wpAny_bind (wpAny_mkText (wpAny_bind (wpAny_attempt (wpAny_holding (wpAny_bind (T0.at (wpAny_bind (T1.at ?_))))))))
  show wpAny _ _ (if (onTheHeap (Value.ref C) && Value.builtin "BaseException.__getattribute__" == Value.builtin "object.__getattribute__") = true then _ else _) _ _ _
  rw [if_neg (by rw [hx1]; exact Bool.false_ne_true)]
  unfold getAttrByItsOwn
  refine wpAny_bind (show wpAny _ _ (typeLookup (.ref C) "__getattr__") _ _ _ from T2.at ?_)
  refine wpAny_bind (wpAny_attempt (wpAny_holding ?_))
  show wpAny _ _ (boundAndCalled _ _ _) _ _ _
  unfold boundAndCalled
  rw [f3]
  refine wpAny_bind (wpAny_pure ?_)
  refine wpAny_call (codeAny_call_builtin PySem.F.attr_ValueError.ga.plain PySem.F.entry_bexc_ga (exc_check X p Z (exc_ga X p Z ?_)))
  exact wpAny_pure (wpAny_pure h)
open PySem.W in
theorem kitx_exc (Z : ExcC K C) : KitX K (.ref x) (.ref C) (ExcObj x C) where
  ty := fun _ _ _ p => p.type
  it := fun _ _ X _ => by
    have hb := Z.ob
    unfold mroIn clsIn at hb
    split at hb
    · rename_i c' d' cd' sl' ho
      intro A' Q' E' s' k q
      unfold isType loadHead
      exact wpAny_bind (wpAny_loadPart (k _ _ (X _ _ ho)) (wpAny_pure q))
    · cases hb
  ne := fun h tp dd its n sl X htp => by
    have hb := Z.ob
    refine Bool.eq_false_iff.mpr fun q => ?_
    obtain rfl : C = tp := Value.ref.inj (beq_iff_eq.mp q)
    unfold mroIn clsIn at hb
    split at hb
    · rename_i c' d' cd' sl' ho
      have z := (X _ _ ho).symm.trans htp
      cases z
    · cases hb
  ca := fun X p k => exc_class X p Z k
end
end L2
namespace L2
open PySem PySem.Spec PyProof.Rows
def TrX (h B : Heap) (e C : Addr) (fl : Value) : Prop := ∃ (oe : Obj) (vs : Array Value) (T : Addr) (oT : Obj) (ts : Array Value), (h.get? e = some oe ∧ oe.cls = .ref C ∧ oe.data = .fields vs ∧ vs[1]? = some (.ref T) ∧ vs[2]? = some .none) ∧
  (B.get? T = none ∧ T ≠ e ∧ h.get? T = some oT ∧ oT.data = .fields ts ∧ ts[3]? = some fl)
structure FlyX (B : Heap) (l : List Env) (e C : Addr) (fl : Value) (h : Heap) : Prop where
  stay : B.StaysIn h
  new : B.get? e = none
  frs : h.FunFrames B l
  tr : TrX h B e C fl
theorem FlyX.pop {B h : Heap} {env : Env} {l : List Env} {e C : Addr} {fl : Value} (f : FlyX B (env :: l) e C fl h) : FlyX B l e C fl h := ⟨f.stay, f.new, f.frs.2.2, f.tr⟩
section
variable {M : Model} {A : Around} {E : Value → Shared → Prop} {s : Shared} {B h : Heap} {env : Env} {outer l : List Env} {L e C n : Addr} {oe ob : Obj} {vs ts : Array Value} {Q : Unit → Shared → Prop} {fl v : Value} {i : Nat}
theorem put_self (he : h.get? e = some oe) (hd : oe.data = .fields vs) : (h.update e (Obj.mapFields (·.setIfInBounds i v))).get? e = some (Obj.mapFields (·.setIfInBounds i v) oe) :=
  Heap.get?_update_self _ he (Obj.isFreed_of_fields (Obj.data_mapFields hd _))
theorem put_other {b : Addr} (hb : b ≠ e) : (h.update e (Obj.mapFields (·.setIfInBounds i v))).get? b = h.get? b := Heap.get?_update_other _ _ (Ne.symm hb)
theorem not_rec {b : Addr} {o : Obj} (he : h.get? e = some oe) (hd : oe.data = .fields vs) (hb : h.get? b = some o) (nf : ∀ ws, o.data ≠ .fields ws) : b ≠ e := fun z => by
  subst z
  rw [he] at hb
  cases hb
  exact nf vs hd
theorem put_up (he : h.get? e = some oe) (hd : oe.data = .fields vs) : h.UpToSlots (h.update e (Obj.mapFields (·.setIfInBounds i v))) := fun b o hb nf => ⟨o.slots, (put_other (not_rec he hd hb nf)).trans hb⟩
theorem put_fr (he : h.get? e = some oe) (hd : oe.data = .fields vs) (hl : h.FunFrames B l) : (h.update e (Obj.mapFields (·.setIfInBounds i v))).FunFrames B l :=
  hl.of_keeps fun b o hb nf => ⟨o, (put_other (not_rec he hd hb nf)).trans hb, rfl⟩
theorem put_stay (hn : B.get? e = none) (st : B.StaysIn h) : B.StaysIn (h.update e (Obj.mapFields (·.setIfInBounds i v))) := fun b o hb => (put_other fun z => by rw [z, hn] at hb; cases hb).trans (st b o hb)
theorem entryX {head : Value} {had : Bool} (hfr : A.frames = some (env :: outer)) (hf : env.frame = some L) (st : B.StaysIn s.heap) (hn : B.get? e = none) (hl : s.heap.FunFrames B (env :: outer)) (he : s.heap.get? e = some oe) (hc : oe.cls = .ref C)
    (hd : oe.data = .fields vs) (h1 : 1 < vs.size) (h2 : vs[2]? = some .none) (k : ∀ h', FlyX B (env :: outer) e C (rawInt L) h' → s.heap.UpToSlots h' → Q () { s with heap := h' }) :
    wpAny M A (do let a ← frameOf env; let pl ← entryPlaceOf L had; let b ← EntryCells.newEntry head a .none (rawInt L) .none pl; setField (.ref e) 1 b) Q E s := by
  refine wpAny_bind (wpAny_frameOf_fun hfr hl hf fun h₁ q₁ => wpAny_bind (wpAny_entryPlaceOf fun pl hpl => ?_))
  unfold EntryCells.newEntry newFields
  refine wpAny_bind (wpAny_newObj_type ?_ (hpl.sizeOk5 _ _ _ _ _))
  have ne : e ∉ (env :: outer).filterMap (·.frame) := fun hm => by
    obtain ⟨_, o, ho, nf⟩ := hl.mem hm
    exact not_rec he hd ho nf rfl
  have e1 : h₁.get? e = some oe := (q₁.2.1 e ne).trans he
  have st1 : B.StaysIn h₁ := fun b o hb => (q₁.2.1 b fun hm => by rw [(hl.mem hm).1] at hb; cases hb).trans (st b o hb)
  have fr1 : h₁.FunFrames B (env :: outer) := hl.of_slotsOnly q₁
  have h3 : (([head, .ref L, .none, rawInt L, .none] ++ (if pl.isEmpty then List.replicate 6 Value.none else pl)).toArray)[3]? = some (rawInt L) := by simp
  generalize ([head, .ref L, .none, rawInt L, .none] ++ (if pl.isEmpty then List.replicate 6 Value.none else pl)).toArray = tv at h3
  have nT : h₁.objs.size ≠ e := Nat.ne_of_gt (Heap.lt_size e1)
  have kp : ∀ b o, h₁.get? b = some o → (h₁.push { cls := .type "traceback", dict := none, data := .fields tv }).get? b = some o := fun b o hb => Heap.get?_push_of_some _ hb
  have up1 : s.heap.UpToSlots (h₁.push { cls := .type "traceback", dict := none, data := .fields tv }) := fun b o hb _ => by
    obtain ⟨sl, z⟩ := q₁.2.2 b o hb
    exact ⟨sl, kp _ _ z⟩
  refine wpAny_setField (kp _ _ e1) hd h1 (k _ ⟨put_stay hn fun b o hb => kp _ _ (st1 b o hb), hn, put_fr (kp _ _ e1) hd (fr1.of_keeps fun b o hb _ => ⟨o, kp _ _ hb, rfl⟩), _, _, h₁.objs.size, _, tv, ⟨put_self (kp _ _ e1) hd, (Obj.cls_mapFields _ _).trans hc, Obj.data_mapFields hd _, ?_, ?_⟩, st1.fresh, nT, (put_other nT).trans (Heap.get?_push_size _ rfl), rfl, h3⟩ (up1.trans (put_up (kp _ _ e1) hd)))
  · simp [h1]
  · rw [Array.getElem?_setIfInBounds_ne (by decide)]
    exact h2
theorem noteX0 (hfr : A.frames = some (env :: outer)) (hf : env.frame = some L) (st : B.StaysIn s.heap) (hn : B.get? e = none) (hl : s.heap.FunFrames B (env :: outer)) (he : s.heap.get? e = some oe) (hc : oe.cls = .ref C)
    (hd : oe.data = .fields vs) (h1 : vs[1]? = some .none) (h2 : vs[2]? = some .none) (k : ∀ h', FlyX B (env :: outer) e C (rawInt L) h' → s.heap.UpToSlots h' → Q () { s with heap := h' }) : wpAny M A (noteFrame (.ref e) env) Q E s := by
  unfold noteFrame
  simp only [hf]
  refine wpAny_bind (wpAny_field he hd h1 ?_)
  rw [if_neg (by decide)]
  exact entryX hfr hf st hn hl he hc hd (Array.getElem?_eq_some_iff.mp h1).1 h2 k
theorem noteX (hfr : A.frames = some (env :: outer)) (hf : env.frame = some L) (f : FlyX B (env :: outer) e C .none s.heap) (k : ∀ h', FlyX B (env :: outer) e C (rawInt L) h' → s.heap.UpToSlots h' → Q () { s with heap := h' }) : wpAny M A (noteFrame (.ref e) env) Q E s := by
  obtain ⟨oe, vs, T, oT, ts, ⟨he, hc, hd, h1, h2⟩, hBT, nT, hT, hdT, h3⟩ := f.tr
  unfold noteFrame
  simp only [hf]
  refine wpAny_bind (wpAny_field he hd h1 ?_)
  rw [if_pos (by simp)]
  refine wpAny_bind (wpAny_field hT hdT h3 ?_)
  rw [if_neg (by simp [rawInt])]
  refine wpAny_bind (wpAny_setField hT hdT (Array.getElem?_eq_some_iff.mp h3).1 ?_)
  exact entryX hfr hf (put_stay hBT f.stay) f.new (put_fr hT hdT f.frs) ((put_other (Ne.symm nT)).trans he) hc hd (Array.getElem?_eq_some_iff.mp h1).1 h2 fun h' f' u' => k h' f' ((put_up hT hdT).trans u')
theorem landX (f : FlyX B l e C fl s.heap) (k : ∀ h', FlyX B l e C .none h' → s.heap.UpToSlots h' → Q () { s with heap := h' }) : wpAny M A (setFlight (.ref e) none) Q E s := by
  obtain ⟨oe, vs, T, oT, ts, ⟨he, hc, hd, h1, h2⟩, hBT, nT, hT, hdT, h3⟩ := f.tr
  have hz := (Array.getElem?_eq_some_iff.mp h3).1
  unfold setFlight
  refine wpAny_bind (wpAny_field he hd h1 ?_)
  rw [if_pos (by simp)]
  exact wpAny_setField hT hdT hz (k _ ⟨put_stay hBT f.stay, f.new, put_fr hT hdT f.frs, oe, vs, T, _, _, ⟨(put_other (Ne.symm nT)).trans he, hc, hd, h1, h2⟩, hBT, nT, put_self hT hdT, Obj.data_mapFields hdT _, by simp [hz]⟩ (put_up hT hdT))
theorem leaveX0 (hfr : A.frames = some (env :: outer)) (hf : env.frame = some L) (st : B.StaysIn s.heap) (hn : B.get? e = none) (hl : s.heap.FunFrames B (env :: outer)) (he : s.heap.get? e = some oe) (hc : oe.cls = .ref C)
    (hd : oe.data = .fields vs) (h1 : vs[1]? = some .none) (h2 : vs[2]? = some .none) (k : ∀ h', FlyX B outer e C .none h' → s.heap.UpToSlots h' → Q () { s with heap := h' }) : wpAny M A (leaving env (.ref e)) Q E s := by
  unfold leaving
  exact wpAny_bind (noteX0 hfr hf st hn hl he hc hd h1 h2 fun h' f' u' => landX f' fun h2 f2 u2 => k h2 f2.pop (u'.trans u2))
end
end L2
namespace L2
open PySem PySem.Spec PyProof.Rows
section
variable {P : Program} {w : World} {H H' : Hp} {h h1 h2 B : Heap} {a : Addr} {o : HO} {fs : List Addr}
theorem ObjOk.there (x : ObjOk P w H h a o) : ∃ u, h.get? a = some u := by
  cases o with
  | lst xs => obtain ⟨_, _, _, _, e⟩ := x; exact ⟨_, e⟩
  | tup xs => obtain ⟨_, _, _, u, e, _⟩ := x; exact ⟨u, e⟩
  | dK kvs => obtain ⟨_, _, _, _, u, _, _, e, _⟩ := x; exact ⟨u, e⟩
  | dT kvs => obtain ⟨_, _, _, _, u, _, _, e, _⟩ := x; exact ⟨u, e⟩
  | set S n => obtain ⟨u, _, _, _, e, _⟩ := x; exact ⟨u, e⟩
  | ins C dx fs => obtain ⟨_, _, _, e, _⟩ := x; exact ⟨_, e⟩
  | own y => exact x
  | xd fs => obtain ⟨_, ⟨u, _, _, e, _⟩, _⟩ := x; exact ⟨u, e⟩
  | rng lo hi => obtain ⟨_, _, _, e⟩ := x; exact ⟨_, e⟩
  | frz ob u => obtain ⟨e, _⟩ := x; exact ⟨_, e⟩
  | tbl ps => exact ⟨_, (show h.get? a = some _ from x)⟩
  | met f y => exact ⟨_, (show h.get? a = some _ from x)⟩
  | ext φ => obtain ⟨_, e, _⟩ := x; exact e
theorem HOk.track (x : HOk P w H h) (hn : H a = none) (new : ObjOk P w (upd H a o) h a o) : HOk P w (upd H a o) h := fun b u e => by
  by_cases hb : b = a
  · subst hb; rw [upd_same] at e; cases e; exact new
  · rw [upd_ne hb] at e
    exact (x b u e).stay (fun _ _ _ q => q) (fun c q => by rw [upd_ne (ne_of_none q hn)]; exact q) fun c xs q => by rw [upd_ne (ne_of_none q hn)]; exact q
theorem Un.track (u : Un fs [] H H' h h1) (ha : h.get? a = none) (hn : H' a = none) : Un fs [] H (upd H' a o) h h1 where
  keep := u.keep
  slot := u.slot
  free := fun b ob q n hx => by
    have hb : b ≠ a := fun z => by rw [z, ha] at q; cases q
    rw [upd_ne hb]
    exact u.free b ob q n hx
  there := u.there
  tups := fun b xs q => by have z := u.tups b xs q; rw [upd_ne (ne_of_none z hn)]; exact z
  frzs := fun b ob v q => by have z := u.frzs b ob v q; rw [upd_ne (ne_of_none z hn)]; exact z
  tbls := fun b ps q => by
    obtain ⟨m, z⟩ := u.tbls b ps q
    exact ⟨m, by rw [upd_ne (ne_of_none z hn)]; exact z⟩
theorem Un.fly (u : Un fs [] H H' h h1) (hB : ∀ b ob, h.get? b = some ob → b ∉ fs → ∃ o', B.get? b = some o') (k1 : B.StaysIn h1) (k2 : B.StaysIn h2) (us : h1.UpToSlots h2)
    (nf : ∀ b ∈ fs, ∀ ob, h1.get? b = some ob → ∀ vs, ob.data ≠ .fields vs) (hf : ∀ b ∈ fs, H b = none) : Un fs [] H H' h h2 where
  keep := fun b ob q n hb hx => by
    obtain ⟨o', e⟩ := hB b ob q hb
    have z := u.keep b ob q n hb hx
    rw [k1 _ _ e] at z
    cases z
    exact k2 _ _ e
  slot := fun b ob q n hb hx => by
    obtain ⟨sl, e1⟩ := u.slot b ob q n hb hx
    obtain ⟨sl', e2⟩ := us b _ e1 (nf b hb _ e1)
    exact ⟨sl', e2⟩
  free := u.free
  there := fun b ob q hx => by
    by_cases hb : b ∈ fs
    · obtain ⟨sl, e1⟩ := u.slot b ob q (hf b hb) hb hx
      obtain ⟨sl', e2⟩ := us b _ e1 (nf b hb _ e1)
      exact ⟨_, e2⟩
    · obtain ⟨o', e⟩ := hB b ob q hb
      exact ⟨o', k2 _ _ e⟩
  tups := u.tups
  frzs := u.frzs
  tbls := u.tbls
end
structure Flies (P : Program) (w : World) (fs : List Env) (H H' : Hp) (h h' : Heap) (a C : Addr) : Prop where
  ex : ∃ (B : Heap), Un (frs fs) [] H H' h h' ∧ HOk P w H' B ∧ FlyX B fs a C .none h' ∧ ∀ b ob, h.get? b = some ob → b ∉ frs fs → ∃ o', B.get? b = some o'
def CXE (P : Program) (w : World) : CXT := fun outer H s E e s' => ∃ (a C : Addr) (H' : Hp), e = .ref a ∧ s'.os = s.os ∧ AllBare s'.gens ∧ Flies P w outer H H' s.heap s'.heap a C ∧ E (.ref C) none H'
section
variable {P : Program} {w : World} {K : PySem.W.Frag} {mg : Str → Option Value} {base : Heap} {N : List Str} {qual : Str} {scope : Scope} {f : Addr} {cd : Value} {A : Around} {outer : List Env} {s0 : Shared} {H0 : Hp} {E : XK}
theorem frs_cons {env : Env} {l : List Env} {L : Addr} (hf : env.frame = some L) : frs (env :: l) = L :: frs l := by unfold frs; rw [List.filterMap_cons, hf]
theorem frs_of {env : Env} {l : List Env} (he : env ∈ l) {L : Addr} (hf : env.frame = some L) : L ∈ frs l := List.mem_filterMap.mpr ⟨env, he, hf⟩
theorem raise_leaves {pins : List (Addr × Obj)} {σ : St} {H : Hp} {s : Shared} {h' : Heap} {e C : Addr} {vs : List Value} (I : Inv (cxOf (CXE P w) P w K mg base N qual scope f cd A outer s0 H0 E) pins σ H s) (hx : Heap.MadeExcOf s.heap h' e (.ref C) vs)
    (q : E (.ref C) none H) : (cxOf (CXE P w) P w K mg base N qual scope f cd A outer s0 H0 E).xe (.ref e) { s with heap := h' } := by
  have hfr : (A.deeper (envOfC qual scope s0.heap.objs.size f cd)).frames = some (envOfC qual scope s0.heap.objs.size f cd :: outer) := I.ok.frames
  have st : s.heap.FunFrames base (envOfC qual scope s0.heap.objs.size f cd :: outer) := I.stack
  have fl := PySem.W.funFrames_hide (as := frs (envOfC qual scope s0.heap.objs.size f cd :: outer)) st fun env he L hL => frs_of he hL
  obtain ⟨t, he, _, _⟩ := hx.there
  have hBe : (PySem.W.hideAll s.heap (frs (envOfC qual scope s0.heap.objs.size f cd :: outer))).get? e = none := by
    cases z : (PySem.W.hideAll s.heap (frs (envOfC qual scope s0.heap.objs.size f cd :: outer))).get? e with
    | none => rfl
    | some o => have y := PySem.W.of_hideAll _ z; rw [hx.new] at y; cases y
  refine leaveX0 (B := PySem.W.hideAll s.heap (frs (envOfC qual scope s0.heap.objs.size f cd :: outer))) hfr rfl (fun b o z => hx.keeps _ _ (PySem.W.of_hideAll _ z)) hBe (fl.of_keeps fun b o z _ => ⟨o, hx.keeps _ _ z, rfl⟩) he rfl rfl rfl rfl fun h2 x1 x4 => ?_
  have inB : ∀ b ob, s.heap.get? b = some ob → b ∉ frs (envOfC qual scope s0.heap.objs.size f cd :: outer) → (PySem.W.hideAll s.heap (frs (envOfC qual scope s0.heap.objs.size f cd :: outer))).get? b = some ob := fun b ob z hb => PySem.W.hideAll_get _ z hb
  have hokB : HOk P w H (PySem.W.hideAll s.heap (frs (envOfC qual scope s0.heap.objs.size f cd :: outer))) := fun b u z => by
    have nfr : ∀ c v, H c = some v → c ∉ frs (envOfC qual scope s0.heap.objs.size f cd :: outer) := fun c v y m => by
      have := I.stkFree c m
      rw [y] at this; cases this
    refine (I.hok b u z).stay (fun c v hc y => inB c v y ?_) (fun _ y => y) fun _ _ y => y
    rcases hc with rfl | hc
    · exact nfr _ _ z
    · exact nfr _ _ hc
  have nL : ∀ b ob, s0.heap.get? b = some ob → b ∉ frs outer → b ∉ frs (envOfC qual scope s0.heap.objs.size f cd :: outer) := fun b ob z hb m => by
    rw [frs_cons (L := s0.heap.objs.size) rfl] at m
    rcases List.mem_cons.mp m with y | y
    · exact absurd (Heap.lt_size z) (by rw [y]; exact Nat.lt_irrefl _)
    · exact hb y
  have hB : ∀ b ob, s0.heap.get? b = some ob → b ∉ frs outer → ∃ o', (PySem.W.hideAll s.heap (frs (envOfC qual scope s0.heap.objs.size f cd :: outer))).get? b = some o' := fun b ob z hb => by
    obtain ⟨o', y⟩ := I.base.there b ob z (by show b ∉ []; simp)
    exact ⟨o', inB b o' y (nL b ob z hb)⟩
  refine ⟨e, C, H, rfl, I.os, I.bare, ⟨_, ?_, hokB, x1, hB⟩, q⟩
  refine Un.fly (u := I.base) hB (fun b o z => PySem.W.of_hideAll _ z) x1.stay ((Heap.UpToSlots.of_keeps hx.keeps).trans x4) (fun b hb ob z vs => ?_) I.ok.frf
  obtain ⟨_, o2, y, nd⟩ := I.funs.mem hb
  rw [z] at y; cases y
  exact nd vs
theorem Fun.okE {x : Str} {st : Stmt} {fd : FuncData} {ps : List Str} {k : Nat} {sp : Sp} (F : Fun K x qual st f fd) (S : FnScope N ps (defScope st)) (len : ∀ vs H Q E, sp vs H Q E → vs.length = ps.length)
    (hbody : ∀ (cdv : Value) (A : Around) (outer : List Env) (s : Shared) (H : Hp) (vs : List V) (Q : VK) (E : XK), Room k (A.deeper (envOfC qual (defScope st) s.heap.objs.size f cdv)) → sp vs H Q E →
      ∃ t, PSs (cxOf (CXE P w) P w K mg base N qual (defScope st) f cdv A outer s H E) (defBody st) t ∧ t { nx := fun _ H' => Q .non H', rt := Q } (start N vs) H) : FnOk P w K mg base (CXE P w) (k + 1) f fd ps sp := by
  obtain ⟨oc, od, kV, doc, pm, an, cdv, ct, osl, rfl, lk, hcd⟩ := F.ex
  exact fn_of lk hcd S len fun A outer s H vs Q E hr hsp => hbody cdv A outer s H vs Q E hr hsp
end
theorem excObj_of {K : PySem.W.Frag} {h : Heap} {C : Addr} {bmB : List Value} {newId : String} (X : K.In h) (q : PySem.W.excIn K C bmB newId = true) :
    ∃ bm N nm qn bs hdct sn sub ab col dd k0 k1 k2 k3 k5 mN, h.get? C = some (excClassObj nm qn C N bs bm hdct sn sub ab col dd k0 k1 k2 k3 k5 newId) ∧ h.Ns N mN ∧ mN "__init__" = none ∧ OwnTail h bmB bm := by
  unfold PySem.W.excIn at q
  split at q
  · rename_i dd cls sl ho
    split at q
    · rename_i C' bm k0 k1 k2 k3 n k5 hm hs
      rw [Bool.and_eq_true, Bool.and_eq_true, Bool.and_eq_true, Bool.and_eq_true, Bool.and_eq_true] at q
      obtain ⟨⟨⟨⟨⟨q1, q2⟩, q3⟩, ht⟩, hok⟩, hni⟩ := q
      obtain rfl := beq_iff_eq.mp q1
      obtain rfl := beq_iff_eq.mp q2
      have hdel : cls.hasDel = false := by simpa using q3
      obtain ⟨nm, bs, mro, ns, qn, hd, sn, sub, ab, col, del⟩ := cls
      change mro = _ at hm
      change del = _ at hdel
      subst hm hdel
      have hsl : sl = #[k0, k1, k2, k3, some (.builtin n), k5] := by
        cases sl with
        | mk l => rw [show l = _ from hs]
      subst hsl
      exact ⟨bm, ns, nm, qn, bs, hd, sn, sub, ab, col, dd, k0, k1, k2, k3, k5, _, X _ _ ho, .of_isNs (PySem.W.isNs_of_in X hok), PySem.W.nsMap_none_of_in X hok (beq_iff_eq.mp hni), PySem.W.tail_of_in X ht⟩
    · cases q
  · cases q
section
variable {P : Program} {w : World} {K : PySem.W.Frag} {mg : Str → Option Value} {base : Heap} {N : List Str} {qual : Str} {scope : Scope} {f : Addr} {cd : Value} {A : Around} {outer : List Env} {s0 : Shared} {H0 : Hp} {E : XK}
def tRaise (E : XK) (C : Addr) : TS := fun _ _ H => E (.ref C) none H
theorem ps_raise {x : Str} {C : Addr} {txt : Str} {j pp np cpos pos} (Z : ExcC K C) (hm : mg x = some (.ref C)) (hg : Gl (cxOf (CXE P w) P w K mg base N qual scope f cd A outer s0 H0 E) x) (hdb : (x == ("__debug__" : Str)) = false := by decide) :
    PS (cxOf (CXE P w) P w K mg base N qual scope f cd A outer s0 H0 E) (.Raise (some (.Call (.Name x np) [.Constant (.str txt) j pp] [] cpos)) none pos) (tRaise E C) := by
  intro pins s σ H D I h
  obtain ⟨tl, NN, nm, q, bs, hdct, sn, sub, ab, col, dd, k0, k1, k2, k3, k5, mN, hC, hN, hni, T⟩ := excObj_of (h := base) I.ok.mod.kin Z.ex
  refine wpAny_Raise_call_subT (C := C) (nm := nm) (q := q) (N := NN) (bs := bs) (bm := tl) (hdct := hdct) (sn := sn) (sub := sub) (ab := ab) (col := col) (dd := dd) (k0 := k0) (k1 := k1) (k2 := k2) (k3 := k3) (k5 := k5)
    PySem.F.excBase_ValueError (mN := mN) (T.hasType PySem.F.excBase_ValueError.hasBase) (I.ok.hd rfl) rfl hni (ld_glob I hg hm ⟨rfl, ?_⟩ hdb)
  refine Calls.evalArgs_plain ?_
  have pa : PA (cxOf (CXE P w) P w K mg base N qual scope f cd A outer s0 H0 E) [.Constant (.str txt) j pp] (tCons (tC (.str txt)) tNil) := pa_cons pe_str pa_nil
  refine thn (pa cpos pins s σ H (fun vs H1 => vs = [V.str txt] ∧ H1 = H) I ⟨rfl, rfl⟩) fun us s1 ⟨vs, H1, I1, r, e1, e2⟩ => ?_
  subst e1 e2
  have hl : us.length = 1 := by rw [← r.length]; rfl
  exact ⟨rfl, by rw [hl]; decide, I1.bk _ _ hC, hN.keeps I1.bk, T.keeps I1.bk, fun h' e hx => raise_leaves I1 hx h⟩
end
end L2
namespace L2
open PySem PySem.Spec PyProof.Rows
abbrev Cx.hand (X : Cx) (e : Value) : Cx := { X with A := X.A.mark (some e), calm := false, xe := fun _ _ => False }
section
variable {X : Cx} {pins : List (Addr × Obj)} {σ : St} {H : Hp} {s : Shared}
theorem Cx.Ok.hand (ok : X.Ok) (e : Value) : (X.hand e).Ok :=
  ⟨ok.mod, ok.kind, ok.glob, ok.blt, ok.above, ok.inj, ok.has, ok.cab, fun z => Bool.noConfusion z, ok.frames, ok.stk, ok.exf, ok.bs, ok.bsz, ok.noex, ok.exfs, ok.funs, ok.frf⟩
theorem Inv.hand (I : Inv X pins σ H s) (e : Value) : Inv (X.hand e) pins σ H s := ⟨I.ok.hand e, I.os, I.bare, I.base, I.loc, I.cell, I.free, I.freeC, I.pin, I.hok, I.len⟩
theorem Inv.unhand {e : Value} (I : Inv (X.hand e) pins σ H s) (ok : X.Ok) : Inv X pins σ H s := ⟨ok, I.os, I.bare, I.base, I.loc, I.cell, I.free, I.freeC, I.pin, I.hok, I.len⟩
theorem Inv.lost {h' : Heap} {m' : Str → Option Value} {t : Nat} (I : Inv X pins σ H s) (hn : h'.Ns X.env.locals m') (hs : Heap.SameBut X.env.locals s.heap h') : Inv X pins (List.replicate X.N.length none) H { s with heap := h', toks := t } := by
  have neL : ∀ b o, X.s₀.heap.get? b = some o → b ≠ X.env.locals := fun b o e => Nat.ne_of_lt (Nat.lt_of_lt_of_le (Heap.lt_size e) I.ok.above)
  refine ⟨I.ok, I.os, I.bare, ⟨fun b o e n hb hx => ?_, fun b o e n hb hx => ?_, I.base.free, fun b o e hx => ?_, I.base.tups, I.base.frzs, I.base.tbls⟩, ⟨m', hn, fun i x v _ e2 _ => ?_⟩, fun y c e => ?_, I.free, I.freeC, fun p hp => ?_, fun b u e => ?_, by simp⟩
  · exact (hs.2 b (neL b o e)).trans (I.base.keep b o e n hb hx)
  · obtain ⟨sl, e1⟩ := I.base.slot b o e n hb hx
    exact ⟨sl, (hs.2 b (neL b o e)).trans e1⟩
  · obtain ⟨o', e1⟩ := I.base.there b o e hx
    exact ⟨o', (hs.2 b (neL b o e)).trans e1⟩
  · rw [List.getElem?_replicate] at e2
    split at e2 <;> cases e2
  · obtain ⟨v, z⟩ := I.cell y c e
    exact ⟨v, z.sameBut hs (I.cne y c e)⟩
  · obtain ⟨e, n, ne, nf, d⟩ := I.pin p hp
    exact ⟨(hs.2 p.1 ne).trans e, n, ne, nf, d⟩
  · have nt : ∀ c v, H c = some v → c ≠ X.env.locals := fun c v y z => by rw [z, I.free] at y; cases y
    refine (I.hok b u e).stay (fun c v hc y => (hs.2 c ?_).trans y) (fun _ y => y) fun _ _ y => y
    rcases hc with rfl | hc
    · exact nt _ _ e
    · exact nt _ _ hc
end
section
variable {X : Cx} {CX : CXT} {k : Nat} {f C0 : Addr} {fd : FuncData} {ps : List Str} {sp : Sp} {E : XK} {x y n : Str} {p pos epos np hpos tpos : Pos} {e : Expr} {es : List Expr} {t : TA} {b₀ : Stmt} {suite : List Stmt} {th : Addr → TS} {i : Nat}
theorem call_x {pins : List (Addr × Obj)} {σ : St} {H : Hp} {s : Shared} {Q : VK} {XE : Value → Shared → Prop} (F : FnOk X.prog X.w X.K X.mg X.base CX k f fd ps sp) (hr : Room k X.A) (hg : Gl X x) (hm : X.mg x = some (.ref f)) (hk : PySem.W.keepIn X.K (.ref f) = true)
    (hb : Binds X.K fd ps []) (ha : PA X.nox (e :: es) t) (I : Inv X pins σ H s) (h : t σ H fun vs H1 => sp vs H1 Q E) (hx : ∀ H1 s1 e s', Inv X pins σ H1 s1 → CX X.stack H1 s1 E e s' → XE e s')
    (hdb : (x == ("__debug__" : Str)) = false := by decide) (he : starEach (e :: es) X.env = (false, eval e X.env) :: starEach es X.env := by rfl) (hpl : (backTo pos (starEach es X.env)).any (·.1) = false := by rfl) :
    wpAny (model X.prog X.w) X.A (eval (.Call (.Name x p) (e :: es) [] pos) X.env) (EP X pins σ Q) XE s := by
  refine wpAny_Call_Name_kw (ld_glob I hg hm ?_ hdb)
  refine PySem.W.callWith_K (h₀ := X.base) I.ok.mod.kin hk (wpAny_mono (ha pos pins s σ H _ (I.wish _) h) (fun us s1 ⟨vs, H1, I1, r, q⟩ => ⟨I1.unwish.kIn, ?_⟩) fun _ _ z => z.elim) he hpl
  have I1' := I1.unwish
  have hl : us.length = ps.length := by rw [← r.length]; exact F.len _ _ _ _ q
  have hb' := hb s1 us I1'.kIn (by rw [List.append_nil]; exact hl)
  rw [List.append_nil] at hb'
  refine wpAny_call (codeAny_mono (F.run X.A X.stack s1 H1 ⟨us, []⟩ us vs Q E hr I1'.env0 hb' r q) fun rr s' hq => ?_)
  cases rr with
  | error e => exact hx H1 s1 e s' I1' hq
  | ok fl =>
    cases fl with
    | ret u => exact I1'.after hq
    | next => exact False.elim hq
    | brk => exact False.elim hq
    | cont => exact False.elim hq
def tTry (K : PySem.W.Frag) (C0 : Addr) (i : Nat) (sp : Sp) (t : TA) (th : Addr → TS) : TS := fun D σ H => t σ H fun vs H1 => sp vs H1 (fun _ H2 => D.nx σ H2) fun c _ H2 => ∃ C, c = .ref C ∧ PySem.W.exmOne K (.ref C) (.ref C0) = some true ∧
  ∀ a, H2 a = none → th a { nx := fun _ _ => False, rt := D.rt } (σ.set i (some (.ref a))) (upd H2 a (.ext (ExcObj a C)))
theorem ps_try (F : FnOk X.prog X.w X.K X.mg X.base (CXE X.prog X.w) k f fd ps sp) (hr : Room k X.A) (hg : Gl X x) (hm : X.mg x = some (.ref f)) (hk : PySem.W.keepIn X.K (.ref f) = true)
    (hb : Binds X.K fd ps []) (ha : PA X.nox (e :: es) t) (hgy : Gl X y) (hmy : X.mg y = some (.ref C0)) (hN : X.N.Nodup) (hi : X.N[i]? = some n) (hln : X.env.scope.names.lookup n = some .local) (hstk : X.stack = X.env :: X.outer) (hfm : X.env.frame = some X.env.locals)
    (hs : ∀ a, PSs (X.hand (.ref a)) (b₀ :: suite) (th a))
    (hdb : (x == ("__debug__" : Str)) = false := by decide) (hdy : (y == ("__debug__" : Str)) = false := by decide) (he : starEach (e :: es) X.env = (false, eval e X.env) :: starEach es X.env := by rfl) (hpl : (backTo pos (starEach es X.env)).any (·.1) = false := by rfl)
    (hsw : swapsWith (.Call (.Name x p) (e :: es) [] pos) none epos.line X.env = pure false := by rfl) :
    PS X (.Try [.Expr (.Call (.Name x p) (e :: es) [] pos) epos] [.ExceptHandler (some (.Name y np)) (some n) (b₀ :: suite) hpos] [] [] tpos) (tTry X.K C0 i sp t th) := by
  intro pins s σ H D I h
  refine wpAny_Try_except (wpAny_execs_cons (wpAny_Expr_any (thn (call_x F hr hg hm hk hb ha I h ?_ hdb he hpl) fun v s1 ⟨z, H1, I1, r1, q1⟩ => wpAny_execs_nil (wpAny_execs_nil ⟨σ, H1, I1, q1⟩)) I.quiet hsw))
  intro H1 s1 ex s' I1 hx
  obtain ⟨a, C, H', rfl, os, bare, ⟨B, un, hokB, fl, hB⟩, C', hC', hmat, hq⟩ := hx
  cases hC'
  have fr : X.A.frames = some (X.env :: X.outer) := by rw [← hstk]; exact I1.ok.frames
  have nfr : ∀ b ∈ frs X.stack, ∀ ob, s'.heap.get? b = some ob → ∀ vs, ob.data ≠ .fields vs := fun b hb ob z vs => by
    obtain ⟨_, o2, w2, nd⟩ := fl.frs.mem hb
    rw [z] at w2; cases w2
    exact nd vs
  have ffr : ∀ b ∈ frs X.stack, H1 b = none := I1.stkFree
  have hHa : H' a = none := by
    cases z : H' a with
    | none => rfl
    | some o =>
      obtain ⟨u, hu⟩ := (hokB a o z).there
      rw [fl.new] at hu; cases hu
  have hsa : s1.heap.get? a = none := by
    cases z : s1.heap.get? a with
    | none => rfl
    | some o =>
      by_cases hm : a ∈ frs X.stack
      · obtain ⟨oe, vs, T, oT, ts, ⟨e1, _, e2, _⟩, _⟩ := fl.tr
        exact absurd e2 (nfr a hm oe e1 vs)
      · obtain ⟨o', z2⟩ := hB a o z hm
        rw [fl.new] at z2; cases z2
  have st : ∀ h2, B.StaysIn h2 → s'.heap.UpToSlots h2 → Un (frs X.stack) [] H1 H' s1.heap h2 := fun h2 k2 us => un.fly hB fl.stay k2 us nfr ffr
  have mk : ∀ (h2 : Heap) (H2 : Hp), Un (frs X.stack) [] H1 H2 s1.heap h2 → HOk X.prog X.w H2 h2 → Inv X pins σ H2 { s' with heap := h2 } := fun h2 H2 u2 k2 =>
    I1.call' (s' := { s' with heap := h2 }) (ch := []) os u2 k2 bare (fun b z => absurd z (by simp))
  rw [hstk] at fl
  refine noteX fr hfm fl fun h4 held x4 => landX held fun h5 fl5 x5 => ?_
  have J5 := mk h5 H' (st h5 fl5.stay (x4.trans x5)) (hokB.kept fl5.stay)
  refine wpAny_handleBy_cons (codeAny_handlers_test (ld_glob (X := X.hand (.ref a)) (J5.hand _) hgy hmy ?_ hdy)) (by intro q; cases q)
  have eo : ∀ {h2 : Heap}, FlyX B (X.env :: X.outer) a C .none h2 → ExcObj a C h2 := fun f2 => by
    obtain ⟨oe, vs, T, oT, ts, ⟨e1, e3, e2, _, e4⟩, _⟩ := f2.tr
    exact ⟨oe, e1, e3, vs, e2, e4⟩
  refine (PySem.W.exm_one J5.kIn (eo fl5).type hmat).here ?_
  refine codeAny_handlers_suite_as (landX fl5 fun h6 fl6 x6 => ?_)
  have J6 : Inv X pins σ (upd H' a (.ext (ExcObj a C))) { s' with heap := h6 } := by
    refine mk h6 _ ((st h6 fl6.stay ((x4.trans x5).trans x6)).track hsa hHa) ((hokB.kept fl6.stay).track hHa ?_)
    obtain ⟨oe, e1, _⟩ := eo fl6
    exact ⟨eo fl6, ⟨oe, e1⟩, fun h1 h2 ⟨o, y1, y2, y3⟩ k2 => ⟨o, k2 o y1, y2, y3⟩⟩
  refine store_ok J6 hN hi (Or.inl hln) (v := .ref a) rfl (fun s7 J7 => ?_) (.inr hln)
  refine wpAny_mono (hs a pins s7 _ _ { nx := fun _ _ => False, rt := D.rt } (J7.hand _) (hq a hHa)) (fun fl8 s8 z => ?_) fun _ _ z => z.elim
  cases fl8 with
  | ret u =>
    obtain ⟨v, σ', H8, J8, r, q8⟩ := z
    obtain ⟨m, hn, _⟩ := J8.loc
    exact wpAny_nameGoes hln hn (by rw [I1.ok.kind]; rfl) fun h9 m9 hn9 hs9 => ⟨v, _, H8, (J8.unhand I1.ok).lost hn9 hs9, r, q8⟩
  | next => obtain ⟨_, _, _, q8⟩ := z; exact q8.elim
  | brk => obtain ⟨_, _, _, q8⟩ := z; exact q8.elim
  | cont => obtain ⟨_, _, _, q8⟩ := z; exact q8.elim
end
section
variable {X : Cx}
def rIsiX (K : PySem.W.Frag) : List V → Hp → VK → Prop := fun xs H Q => ∃ a C D b, xs = [.ref a, .ref D] ∧ H a = some (.ext (ExcObj a C)) ∧ ExcC K C ∧ PySem.W.kitOne K (.ref C) (.ref D) = some b ∧ Q (.bl b) H
theorem call_isiX : CallR X (.builtin "isinstance") (rIsiX X.K) := by
  intro pins s σ H xs us Q I r h
  obtain ⟨a, C, D, b, rfl, ha, Z, e, q⟩ := h
  obtain ⟨u, v, rfl, rx, ry⟩ := r.two
  cases rx; cases ry
  obtain ⟨p, _⟩ := (show ObjOk X.prog X.w H s.heap a (.ext (ExcObj a C)) from I.hok a _ ha)
  exact PySem.W.kia_one (kitx_exc Z) I.kIn p e (fun z => nomatch z) fun tk => ⟨.bl b, H, I.tok tk, rfl, q⟩
theorem pe_isiX {D : Addr} {y : Str} {e : Expr} {te : TE} {p p2 pos : Pos} (hm : X.mg "isinstance" = none) (hm2 : X.mg y = some (.ref D)) (he : PE X e te) (hg : Gl X "isinstance" := by rfl) (hg2 : Gl X y := by rfl) (hd : (y == ("__debug__" : Str)) = false := by decide)
    (hs : starEach [e, .Name y p2] X.env = (false, eval e X.env) :: starEach [.Name y p2] X.env := by rfl) (hpl : (backTo pos (starEach [.Name y p2] X.env)).any (·.1) = false := by rfl) (hs2 : starEach [.Name y p2] X.env = (false, eval (.Name y p2) X.env) :: starEach [] X.env := by rfl) :
    PE X (.Call (.Name "isinstance" p) [e, .Name y p2] [] pos) (tCB (rIsiX X.K) (tCons te (tCons (tC (.ref D)) tNil))) :=
  pe_callB call_isiX hg hm PyProof.Rows.boot_isinstance (pa_cons he (pa_cons (pe_glob hg2 hm2 (v := .ref D) rfl hd) pa_nil hs2) hs) (by decide) (by decide) hs hpl
def rIsiT (K : PySem.W.Frag) : List V → Hp → VK → Prop := fun xs H Q => ∃ a C T b, xs = [.ref a, .ty T] ∧ H a = some (.ext (ExcObj a C)) ∧ ExcC K C ∧ PySem.W.kitOne K (.ref C) (.type T) = some b ∧ Q (.bl b) H
theorem call_isiT : CallR X (.builtin "isinstance") (rIsiT X.K) := by
  intro pins s σ H xs us Q I r h
  obtain ⟨a, C, D, b, rfl, ha, Z, e, q⟩ := h
  obtain ⟨u, v, rfl, rx, ry⟩ := r.two
  cases rx; cases ry
  obtain ⟨p, _⟩ := (show ObjOk X.prog X.w H s.heap a (.ext (ExcObj a C)) from I.hok a _ ha)
  exact PySem.W.kia_one (kitx_exc Z) I.kIn p e (fun z => nomatch z) fun tk => ⟨.bl b, H, I.tok tk, rfl, q⟩
theorem pe_isiT {T : String} {y : Str} {e : Expr} {te : TE} {p p2 pos : Pos} (hm : X.mg "isinstance" = none) (hm2 : X.mg y = none) (hv : bootBuiltins y = some (.type T)) (he : PE X e te) (hg : Gl X "isinstance" := by rfl) (hg2 : Gl X y := by rfl) (hn : y ≠ "__name__" := by decide) (hd : (y == ("__debug__" : Str)) = false := by decide)
    (hs : starEach [e, .Name y p2] X.env = (false, eval e X.env) :: starEach [.Name y p2] X.env := by rfl) (hpl : (backTo pos (starEach [.Name y p2] X.env)).any (·.1) = false := by rfl) (hs2 : starEach [.Name y p2] X.env = (false, eval (.Name y p2) X.env) :: starEach [] X.env := by rfl) :
    PE X (.Call (.Name "isinstance" p) [e, .Name y p2] [] pos) (tCB (rIsiT X.K) (tCons te (tCons (tC (.ty T)) tNil))) :=
  pe_callB call_isiT hg hm PyProof.Rows.boot_isinstance (pa_cons he (pa_cons (pe_bltn hg2 hm2 hv (v := .ty T) rfl hn hd) pa_nil hs2) hs) (by decide) (by decide) hs hpl
end
end L2
namespace L2
open PySem PySem.Spec PyProof.Rows
theorem entry_unchain : entryFor table "proto.unchain" = some Builtin.«proto.unchain» := entryFor_of_tree (by kernel_rfl)
section
variable {prog : Program} {w : World} {A : Around} {E : Value → Shared → Prop} {s : Shared} {a C : Addr}
theorem unchain_none {e : Value} {Q : Value → Shared → Prop} (x : ExcObj a C s.heap) (h : Q .none s) : wpAny (model prog w) A (runValue (.builtin "proto.unchain" ⟨[e, .ref a, .ref a, .bool false], []⟩)) Q E s := by
  obtain ⟨o, ho, _, vs, hd, h2⟩ := x
  refine wpAny_runValue (codeAny_builtin entry_unchain ?_)
  unfold Builtin.«proto.unchain»
  refine wpAny_bind (wpAny_field ho hd h2 ?_)
  rw [if_pos (by simp)]
  exact wpAny_pure h
theorem raiseNewH {α : Type} {e : Addr} {oe : Obj} {vs : Array Value} {Q : α → Shared → Prop} (hh : A.handled = some (.ref a)) (x : ExcObj a C s.heap) (he : s.heap.get? e = some oe) (hd : oe.data = .fields vs) (h2 : 2 < vs.size) (ne : a ≠ e)
    (h : E (.ref e) { s with heap := s.heap.update e (Obj.mapFields (·.setIfInBounds 2 (.ref a))) }) : wpAny (model prog w) A (raiseNew (.ref e) : Sem α) Q E s := by
  unfold raiseNew
  refine wpAny_bind (wpAny_handled ?_)
  rw [hh]
  have hb : (Value.ref a != Value.ref e) = true := bne_iff_ne.mpr fun z => ne (Value.ref.inj z)
  show wpAny _ _ (if (Value.ref a != Value.ref e) = true then (do let _ ← holding [Value.ref e] (runValue (.builtin "proto.unchain" ⟨[.ref e, .ref a, .ref a, .bool false], []⟩)); setField (.ref e) 2 (.ref a); throw (.ref e)) else throw (.ref e)) _ _ _
  rw [if_pos hb]
  exact wpAny_bind (wpAny_holding (unchain_none x (wpAny_bind (wpAny_setField he hd h2 (wpAny_throw h)))))
theorem next_endH {it l : Addr} {i : Nat} {items : Array Value} {Q : Option Value → Shared → Prop} (hh : A.handled = some (.ref a)) (x : ExcObj a C s.heap) (nit : a ≠ it) (hit : s.heap.IsListIter it l i) (hl : s.heap.IsList l items) (hx : items[i]? = none)
    (hQ : ∀ h', Heap.ExtBut it s.heap h' → Q none { s with heap := h' }) : wpAny (model prog w) A (pyNext (.ref it)) Q E s := by
  obtain ⟨o, ho, hc, hd⟩ := id hit
  obtain ⟨ol, hol, _, nl, hdl⟩ := hl
  unfold pyNext
  refine wpAny_bind (wpAny_attempt (wpAny_callSpecial?_slot (name := Str.ofString "__next__") hit.typeIs slot_listiter_next (wpAny_call_entry slot_listiter_next hit.typeIs entry_listiter_next ?_ (args_listiter_next _))))
  show wpAny _ _ (field (.ref it) 0 >>= _) _ _ s
  refine wpAny_bind (wpAny_field ho hd (x := .ref l) rfl ?_)
  show wpAny _ _ (if (Value.ref l == Value.none) = true then _ else _) _ _ s
  rw [if_neg (show ¬ ((Value.ref l == Value.none) = true) from Bool.false_ne_true)]
  show wpAny _ _ (field (.ref it) 1 >>= _) _ _ s
  refine wpAny_bind (wpAny_field ho hd (x := .int i 0) rfl ?_)
  show wpAny _ _ (seqItems? (.ref l) >>= _) _ _ s
  refine wpAny_bind (wpAny_seqItems hol hdl ?_)
  simp only [Int.toNat_natCast, hx]
  refine wpAny_bind (wpAny_rule (wpAny_bind (wpAny_setField ho hd (by simp) ?_)))
  obtain ⟨oa, hoa, hca, va, hda, h2a⟩ := id x
  generalize hH : s.heap.update it (Obj.mapFields (·.setIfInBounds 0 Value.none)) = h1
  have k1 : ∀ b, b ≠ it → h1.get? b = s.heap.get? b := fun b hb => by rw [← hH]; exact put_other hb
  show wpAny _ _ (newExc (.type "StopIteration") [] >>= _) _ _ _
  refine wpAny_bind ?_
  simp only [newExc, newTuple]
  refine wpAny_bind (wpAny_newObj_type ?_ (by size_fits))
  refine wpAny_bind (m := firstArgMember _ _) (wpAny_of_eq (a := Value.none) (by first | rfl | (simp only [firstArgMember]; rfl)) ?_)
  refine wpAny_newObj_type ?_ (by size_fits)
  have hz : h1.objs.size = s.heap.objs.size := by rw [← hH]; exact Heap.size_after_update ..
  have hk : ∀ b ob, b ≠ it → s.heap.get? b = some ob → h1.get? b = some ob := fun b ob hb z => (k1 b hb).trans z
  refine raiseNewH (A := A.in1) hh ⟨oa, Heap.get?_push_of_some _ (Heap.get?_push_of_some _ (hk a oa nit hoa)), hca, va, hda, h2a⟩ (Heap.get?_push_size _ rfl) rfl (by simp; omega) (Nat.ne_of_lt (Heap.lt_size (Heap.get?_push_of_some _ (hk a oa nit hoa)))) ?_
  · refine wpAny_bind (wpAny_isInstance (T := "StopIteration") (b := true) ⟨_, put_self (Heap.get?_push_size _ rfl) rfl, rfl⟩ isSubtype_stop ?_)
    refine wpAny_pure (hQ _ fun b ob hb z => ?_)
    exact (put_other (Nat.ne_of_lt (Heap.lt_size (Heap.get?_push_of_some _ (hk b ob hb z))))).trans (Heap.get?_push_of_some _ (Heap.get?_push_of_some _ (hk b ob hb z)))
theorem walks_listH (hh : A.handled = some (.ref a)) (I ax : Addr) (hne : ax ≠ I) (nai : a ≠ I) (items : Array Value) :
    Walks prog w A I [I, ax, a] [I] items.size (fun i v => items[i]? = some v) (fun i h => h.IsListIter I ax i ∧ h.IsList ax items ∧ ExcObj a C h) where
  sub := fun b hb => by simp at hb; simp [hb]
  frame := fun _ _ _ st hk => ⟨st.1.at fun o e => hk I (by simp) o e, st.2.1.at fun o e => hk ax (by simp) o e, by
    obtain ⟨o, ho, r⟩ := st.2.2
    exact ⟨o, hk a (by simp) o ho, r⟩⟩
  item := fun i s Q E hi st hQ => by
    refine wpAny_pyNext_list_item st.1 st.2.1 (x := items[i]) (by simp [hi]) fun h' hit' hs' => ?_
    obtain ⟨o, ho, r⟩ := st.2.2
    exact hQ _ h' s.toks (by simp [hi]) ⟨hit', st.2.1.extBut hs'.extBut hne, o, hs'.extBut a o nai ho, r⟩ fun b o hb e => hs'.extBut b o (fun h => hb (by simp [h])) e
  done := fun s Q E st hQ => next_endH hh st.2.2 nai st.1 st.2.1 (by simp) fun h' he' => hQ h' s.toks fun b o hb e => he' b o (fun h => hb (by simp [h])) e
  self := fun _ _ _ _ st hQ => wpAny_pyIter_listiter st.1 hQ
end
section
variable {X : Cx}
theorem call_anyH {a : Addr} (hh : X.A.handled = some (.ref a)) : CallR X (.builtin "any") (fun xs H Q => ∃ (p C : Addr) (bs : List Bool), xs = [.ref p] ∧ SqL X.K H p (bs.map V.bl) ∧ H a = some (.ext (ExcObj a C)) ∧ Q (.bl (bs.any id)) H) := by
  intro pins s σ H xs us Q I r h
  obtain ⟨p, C, bs, rfl, hq, hE, q⟩ := h
  obtain ⟨u, rfl, rx⟩ := vals1 r
  cases rx
  obtain ⟨its, rv, pl, hz⟩ := I.list hq
  have hl := pl.isList
  have hlt : p < s.heap.objs.size := by obtain ⟨_, e, _⟩ := hl; exact Heap.lt_size e
  obtain ⟨px, ⟨ox, hox⟩, _⟩ := (show ObjOk X.prog X.w H s.heap a (.ext (ExcObj a C)) from I.hok a _ hE)
  have hla : a < s.heap.objs.size := Heap.lt_size hox
  have hlen := rv.length
  rw [List.length_map] at hlen
  refine call_any_walk (wpAny_pyIter_list hl ?_)
  obtain ⟨oa, hoa, hra⟩ := px
  refine ⟨s.heap.objs.size, [s.heap.objs.size, p, a], [s.heap.objs.size], its.toArray.size, _, _, fun i => (bs[i]?).getD false, rfl, walks_listH (C := C) (A := X.A.in1) hh _ p (Nat.ne_of_lt hlt) (Nat.ne_of_lt hla) its.toArray,
    ⟨⟨_, Heap.get?_push_size _ rfl, rfl, rfl⟩, hl.push _, oa, Heap.get?_push_of_some _ hoa, hra⟩, fun i v s' Q' E' hP hQ => ?_, fun h' tk hk => ?_⟩
  · obtain ⟨b, e, rfl⟩ := bools_get rv (i := i) (v := v) (by simpa using hP)
    simp only [e, Option.getD_some] at hQ
    exact wpAny_truthy_bool hQ
  · have e : ((List.range its.toArray.size).any fun i => (bs[i]?).getD false) = bs.any id := by
      rw [List.size_toArray, ← hlen]; exact LSm.range_any bs
    rw [e]
    exact ⟨.bl _, H, I.kept (LSm.kept_iter hk), rfl, q⟩
end
end L2
set_option maxHeartbeats 4000000
namespace Sw
open PySem L2
theorem nat_xor_and (n : Nat) : ∀ x y : Nat, x < 2 ^ n → (x ^^^ y) + 2 * (x &&& y) = x + y := by
  induction n with
  | zero =>
    intro x y h
    have : x = 0 := by omega
    subst this
    simp
  | succ n ih =>
    intro x y h
    have h1 := ih (x / 2) (y / 2) (by rw [Nat.pow_succ] at h; omega)
    have e1 : (x ^^^ y) / 2 = x / 2 ^^^ y / 2 := Nat.xor_div_two
    have e2 : (x &&& y) / 2 = x / 2 &&& y / 2 := Nat.and_div_two
    have e3 : (x ^^^ y) % 2 = 1 ↔ ¬ (x % 2 = 1 ↔ y % 2 = 1) := Nat.xor_mod_two_eq_one
    have e4 : (x &&& y) % 2 = 1 ↔ x % 2 = 1 ∧ y % 2 = 1 := Nat.and_mod_two_eq_one
    rw [← e1, ← e2] at h1
    have l1 : (x ^^^ y) % 2 < 2 := Nat.mod_lt _ (by decide)
    have l2 : (x &&& y) % 2 < 2 := Nat.mod_lt _ (by decide)
    generalize x ^^^ y = p at *
    generalize x &&& y = q at *
    rcases Nat.mod_two_eq_zero_or_one x with hx | hx <;> rcases Nat.mod_two_eq_zero_or_one y with hy | hy <;> rw [hx, hy] at e3 e4 <;> simp at e3 e4 <;> omega
theorem xor_and (x y : Nat) : (x ^^^ y) + 2 * (x &&& y) = x + y := nat_xor_and x x y Nat.lt_two_pow_self
theorem bitXor_nat (x y : Nat) : Builtin.bitXor (x : Int) (y : Int) = ((x ^^^ y : Nat) : Int) := by
  have e := xor_and x y
  have e1 : Builtin.bitAnd (x : Int) (y : Int) = ((x &&& y : Nat) : Int) := by simp [Builtin.bitAnd]
  have e2 : Builtin.bitXor (x : Int) (y : Int) = (x : Int) + (y : Int) - 2 * Builtin.bitAnd (x : Int) (y : Int) := PyProof.Rows.bitXor_and _ _
  rw [e2, e1]
  omega
theorem bitAnd_nat (x y : Nat) : Builtin.bitAnd (x : Int) (y : Int) = ((x &&& y : Nat) : Int) := by simp [Builtin.bitAnd]
abbrev nv (a : Nat) : V := .int (a : Int)
def turned (sw ps : List Nat) : Nat := ps.foldl (fun a i => a ^^^ sw.getD i 0) 0
theorem getD_lt {sw : List Nat} {n : Nat} (h : ∀ a ∈ sw, a < 2 ^ n) (i : Nat) : sw.getD i 0 < 2 ^ n := by
  rw [List.getD_eq_getElem?_getD]
  cases e : sw[i]? with
  | none => exact Nat.two_pow_pos n
  | some a => exact h a (List.mem_of_getElem? e)
structure Press (ps : List Nat) (m : Nat) : Prop where
  up : ps.Pairwise (· < ·)
  lt : ∀ a ∈ ps, a < m
def pressV (before : Int) (m : Int) : List V → Bool
  | [] => decide (before < m)
  | .int a :: r => if a ≤ before then false else pressV a m r
  | _ :: _ => false
theorem nv_get {xs : List Nat} {i : Nat} {x : V} (h : (xs.map nv)[i]? = some x) : ∃ a, xs[i]? = some a ∧ x = nv a := by
  rw [List.getElem?_map] at h
  cases e : xs[i]? with
  | none => rw [e] at h; cases h
  | some a => rw [e] at h; exact ⟨a, rfl, (Option.some.inj h).symm⟩
theorem tab_ix (ks : List Int) {i : Int} (h0 : 0 ≤ i) (h1 : i < (ks.length : Int)) : ∃ k, k ∈ ks ∧ atI (ks.map V.int) i = some (.int k) := by
  obtain ⟨j, rfl⟩ : ∃ j : Nat, i = (j : Int) := ⟨i.toNat, by omega⟩
  have hj : j < ks.length := by omega
  refine ⟨ks[j], List.getElem_mem hj, atI_nat ?_⟩
  rw [List.getElem?_map, List.getElem?_eq_getElem hj]
  rfl
end Sw
namespace Sw
open PySem L2
def FnAt (P : Program) (w : World) (K : PySem.W.Frag) (mg : Str → Option Value) (base : Heap) (x : Str) (k : Nat) (ps : List Str) (sp : Sp) : Prop :=
  ∃ f fd, mg x = some (.ref f) ∧ PySem.W.keepIn K (.ref f) = true ∧ Binds K fd ps [] ∧ FnOk P w K mg base CX0 k f fd ps sp
theorem pe_fn {X : Cx} {x : Str} {k k' : Nat} {ps : List Str} {sp : Sp} {e : Expr} {es : List Expr} {t : TA} {p pos : Pos} (F : FnAt X.prog X.w X.K X.mg X.base x k ps sp) (hr : Room k' X.A) (ha : PA X (e :: es) t) (hk : k ≤ k' := by decide) (hg : Gl X x := by rfl)
    (hdb : (x == ("__debug__" : Str)) = false := by decide) (he : starEach (e :: es) X.env = (false, eval e X.env) :: starEach es X.env := by rfl) (hpl : (backTo pos (starEach es X.env)).any (·.1) = false := by rfl) :
    PE X (.Call (.Name x p) (e :: es) [] pos) (tCall sp [] E0 t) := by
  obtain ⟨f, fd, hm, hkp, hb, G⟩ := F
  exact pe_call G (hr.mono hk) hg hm hkp hb .nil pass0 ha hdb he hpl
def MethAt (P : Program) (w : World) (K : PySem.W.Frag) (mg : Str → Option Value) (base : Heap) (C : Addr) (m : Str) (k : Nat) (ps : List Str) (sp : Sp) : Prop :=
  ∃ f fd, Meth K C m f ∧ Binds K fd ps [] ∧ FnOk P w K mg base CX0 k f fd ps sp
theorem pe_mt0 {X : Cx} {C : Addr} {m : Str} {k k' : Nat} {ps : List Str} {sp : Sp} {o : Expr} {ta : TE} {apos pos : Pos} {pl : Sem Bool} (F : MethAt X.prog X.w X.K X.mg X.base C m k ps sp) (c : Cls X.K C) (hr : Room k' X.A) (he : PE X o ta) (hk : k ≤ k' := by decide)
    (ht : eval (.Call (.Attribute o m apos) [] [] pos) X.env = (do
      let ov ← eval o X.env
      standAt apos.atName
      let (f, first) ← holding [ov] (getMethod ov m pl)
      callWith pos f first (backTo pos (starEach [] X.env)) (backToKw pos (keywordEach [] X.env))) := by rfl) : PE X (.Call (.Attribute o m apos) [] [] pos) (tMeth C m sp [] E0 ta tNil) := by
  obtain ⟨f, fd, hm, hb, G⟩ := F
  exact pe_meth0 he c hm G (hr.mono hk) hb .nil pass0 ht
theorem pe_isi {X : Cx} {T : String} {y : Str} {e : Expr} {te : TE} {p p2 pos : Pos} (hm : X.mg "isinstance" = none) (hm2 : X.mg y = none) (hv : bootBuiltins y = some (.type T)) (he : PE X e te) (hg : Gl X "isinstance" := by rfl) (hg2 : Gl X y := by rfl) (hn : y ≠ "__name__" := by decide) (hd : (y == ("__debug__" : Str)) = false := by decide)
    (hs : starEach [e, .Name y p2] X.env = (false, eval e X.env) :: starEach [.Name y p2] X.env := by rfl) (hpl : (backTo pos (starEach [.Name y p2] X.env)).any (·.1) = false := by rfl) (hs2 : starEach [.Name y p2] X.env = (false, eval (.Name y p2) X.env) :: starEach [] X.env := by rfl) :
    PE X (.Call (.Name "isinstance" p) [e, .Name y p2] [] pos) (tCB (rIsi X.K) (tCons te (tCons (tC (.ty T)) tNil))) :=
  pe_callB call_isinst hg hm PyProof.Rows.boot_isinstance (pa_cons he (pa_cons (pe_bltn hg2 hm2 hv (v := .ty T) rfl hn hd) pa_nil hs2) hs) (by decide) (by decide) hs hpl
def numV : V → Option Int
  | .int z => some z
  | _ => none
structure KindOf (K : PySem.W.Frag) (H : Hp) (v : V) (t : Value) (b1 b2 : Bool) : Prop where
  ty : TyOf K H v t
  i : PySem.W.kitOne K t (.type "int") = some b1
  b : PySem.W.kitOne K t (.type "bool") = some b2
theorem kind_int (K : PySem.W.Frag) (H : Hp) (z : Int) : KindOf K H (.int z) (.type "int") true false := ⟨.int z, by rfl, by rfl⟩
def MkAt (P : Program) (w : World) (K : PySem.W.Frag) (mg : Str → Option Value) (base : Heap) (x : Str) (C : Addr) (k : Nat) (ps : List Str) (sp : Sp) : Prop :=
  ∃ f fd, mg x = some (.ref C) ∧ Mk K C f ∧ Binds K fd ps [] ∧ FnOk P w K mg base CX0 k f fd ps sp
theorem pe_mk {X : Cx} {x : Str} {C : Addr} {k k' : Nat} {ps : List Str} {sp : Sp} {e : Expr} {es : List Expr} {t : TA} {p pos : Pos} (F : MkAt X.prog X.w X.K X.mg X.base x C k ps sp) (hr : Room k' X.A) (ha : PA X (e :: es) t) (hk : k + 1 ≤ k' := by decide) (hg : Gl X x := by rfl)
    (hdb : (x == ("__debug__" : Str)) = false := by decide) (he : starEach (e :: es) X.env = (false, eval e X.env) :: starEach es X.env := by rfl) (hpl : (backTo pos (starEach es X.env)).any (·.1) = false := by rfl) :
    PE X (.Call (.Name x p) (e :: es) [] pos) (tMake C sp [] E0 t) := by
  obtain ⟨f, fd, hm, M, hb, G⟩ := F
  exact pe_make M G (hr.mono hk) hg hm hb .nil pass0 ha hdb he hpl
def top (i : Nat) : Stmt := PySem.Challenge.pw_switchlamps_k08_texts_misread.main.body.getD i (.Pass ⟨0, 0, 0, 0⟩)
abbrev sInit : Stmt := inClass (top 10) 0
abbrev sSwitches : Stmt := inClass (top 10) 1
abbrev sIsNumber : Stmt := top 11
abbrev sAreLamps : Stmt := top 12
abbrev sCellAt : Stmt := top 20
abbrev sDraw : Stmt := top 21
abbrev sTold : Stmt := top 22
abbrev sTurned : Stmt := top 24
abbrev sNumber : Stmt := top 27
abbrev sLaw : Stmt := top 32
theorem lw : ¬ (("lamps" : Str) = "wiring") := by decide +kernel
def flds (n : Nat) (w : Addr) : List (Str × V) := putF "wiring" (.ref w) (putF "lamps" (nv n) [])
theorem flds_lamps (n : Nat) (w : Addr) : (flds n w).lookup ("lamps" : Str) = some (nv n) := by
  unfold flds
  rw [lookup_putF, if_neg lw, lookup_putF, if_pos rfl]
theorem flds_wiring (n : Nat) (w : Addr) : (flds n w).lookup ("wiring" : Str) = some (.ref w) := by
  unfold flds
  rw [lookup_putF, if_pos rfl]
theorem flds_no (n : Nat) (w : Addr) {m : Str} (h1 : ¬ m = "wiring") (h2 : ¬ m = "lamps") : (flds n w).lookup m = none := by
  unfold flds
  rw [lookup_putF, if_neg h1, lookup_putF, if_neg h2]
  all_goals rfl
structure HouseAt (C : Addr) (H : Hp) (p : Addr) (n : Nat) (sw : List Nat) : Prop where
  ob : ∃ dx w, H p = some (.ins C dx (flds n w)) ∧ H w = some (.tup (sw.map nv))
theorem HouseAt.same {C : Addr} {H H' : Hp} {p : Addr} {n : Nat} {sw : List Nat} (h : HouseAt C H p n sw) (s : Same H H') : HouseAt C H' p n sw := by
  obtain ⟨dx, w, h1, h2⟩ := h.ob
  exact ⟨dx, w, s _ _ h1, s _ _ h2⟩
structure Good (n : Nat) (sw : List Nat) : Prop where
  n1 : 1 ≤ n
  n10 : n ≤ 10
  s8 : sw.length ≤ 8
  lt : ∀ a ∈ sw, a < 2 ^ n
theorem same_upd {H : Hp} {a : Addr} {o : HO} (h : H a = none) : Same H (upd H a o) := fun b u e => by rw [upd_ne (ne_of_none e h)]; exact e
theorem small9 {n : Nat} (h : n ≤ 100) : n < sizeLine := small1000 (by omega)
structure Txt (K : PySem.W.Frag) (mg : Str → Option Value) (C : Addr) : Prop where
  cl : Cls K C
  nL : NoAttr K C "lamps"
  nW : NoAttr K C "wiring"
  mgC : mg "House" = some (.ref C)
  mL : ∃ t, mg "MOST_LAMPS" = some (.int 10 t)
  mS : ∃ t, mg "MOST_SWITCHES" = some (.int 8 t)
  len : mg "len" = none
  range : mg "range" = none
  isi : mg "isinstance" = none
  int : mg "int" = none
  bool : mg "bool" = none
  list : mg "list" = none
  tuple : mg "tuple" = none
  all : mg "all" = none
def spIsNumber (K : PySem.W.Frag) : Sp := fun vs H Q _ => ∃ v t b1 b2, vs = [v] ∧ KindOf K H v t b1 b2 ∧ Q (.bl (b1 && !b2)) H
def spAreLamps (K : PySem.W.Frag) : Sp := fun vs H Q _ => ∃ (c : Nat) (v : V) (t : Value) (b1 b2 : Bool), vs = [nv c, v] ∧ c ≤ 1000 ∧ KindOf K H v t b1 b2 ∧
  ((b1 && !b2) = true → ∃ z, v = .int z ∧ Q (.bl (decide (0 ≤ z) && decide (z < 2 ^ c))) H) ∧ ((b1 && !b2) = false → Q (.bl false) H)
def spInit (K : PySem.W.Frag) (C : Addr) : Sp := fun vs H Q _ => ∃ (p dx l : Addr) (n : Nat) (sw : List Nat), vs = [.ref p, nv n, .ref l] ∧ H p = some (.ins C dx []) ∧ H l = some (.lst (sw.map nv)) ∧ Good n sw ∧
  ∀ H', HouseAt C H' p n sw → (∀ b o, H b = some o → b ≠ p → H' b = some o) → Q .non H'
def spSwitches (C : Addr) : Sp := fun vs H Q _ => ∃ (p : Addr) (n : Nat) (sw : List Nat), vs = [.ref p] ∧ HouseAt C H p n sw ∧ ∀ l, H l = none → Q (.ref l) (upd H l (.lst (sw.map nv)))
def spIsPress (C : Addr) : Sp := fun vs H Q _ => ∃ (p l : Addr) (n : Nat) (sw : List Nat) (zs : List Int), vs = [.ref p, .ref l] ∧ HouseAt C H p n sw ∧ sw.length ≤ 8 ∧ H l = some (.lst (zs.map V.int)) ∧
  ∀ H', Same H H' → Q (.bl (pressV (-1) sw.length (zs.map V.int))) H'
def spTurnedBy (C : Addr) : Sp := fun vs H Q _ => ∃ (p l : Addr) (n : Nat) (sw ps : List Nat), vs = [.ref p, .ref l] ∧ HouseAt C H p n sw ∧ H l = some (.lst (ps.map nv)) ∧ (∀ a ∈ ps, a < sw.length) ∧
  ∀ H', Same H H' → Q (nv (turned sw ps)) H'
def spCellAt (K : PySem.W.Frag) : Sp := fun vs H Q _ => ∃ (a : Addr) (ns : List Int) (k : Nat), vs = [.ref a, nv k] ∧ SqL K H a (ns.map V.int) ∧ ∀ z : Int, Q (.int z) H
def spDraw : Sp := fun vs H Q _ => ∃ (c : Int) (k m : Nat), vs = [.int c, nv k, nv m] ∧ 0 < m ∧ ∀ (z : Nat) H', Same H H' → z < m → Q (nv z) H'
def spTold (K : PySem.W.Frag) : Sp := fun vs H Q _ => ∃ (a : Addr) (ns : List Int) (k : Nat), vs = [.ref a, nv k] ∧ SqL K H a (ns.map V.int) ∧
  ∀ (p l : Addr) (n : Nat) (sw : List Nat) H', Same H H' → H p = none → H l = none → H' p = some (.tup [nv n, .ref l]) → H' l = some (.lst (sw.map nv)) → Good n sw → Q (.ref p) H'
def spTurned : Sp := fun vs H Q _ => ∃ (p l q : Addr) (n : Nat) (sw ps : List Nat), vs = [.ref p, .ref q] ∧ H p = some (.tup [nv n, .ref l]) ∧ H l = some (.lst (sw.map nv)) ∧ H q = some (.lst (ps.map nv)) ∧ (∀ a ∈ ps, a < sw.length) ∧ Q (nv (turned sw ps)) H
def spNumber (K : PySem.W.Frag) : Sp := fun vs H Q _ => ∃ (z : Nat) (m : Int), vs = [nv z, .int m] ∧ Q (.bl (decide ((z : Int) < m))) H
def spLaw (K : PySem.W.Frag) : Sp := fun vs H Q _ => ∃ (a : Addr) (ns : List Int), vs = [.ref a] ∧ SqL K H a (ns.map V.int) ∧ ns.length ≤ 63 ∧ ∀ H', Q (.bl true) H'
section
variable {X : Cx}
theorem shl_nat (n : Nat) : (1 : Int) * 2 ^ ((n : Int).toNat) = ((2 ^ n : Nat) : Int) := by simp
theorem op_shl1 : OpR X (binaryOp .LShift) (fun x y H Q => ∃ n : Nat, x = .int 1 ∧ y = nv n ∧ n ≤ 1000 ∧ Q (nv (2 ^ n)) H) := fun pins s σ H x y v u Q I rx ry h => by
  obtain ⟨n, rfl, rfl, hn, q⟩ := h
  exact op_shl pins s σ H _ _ v u Q I rx ry ⟨1, n, rfl, rfl, ⟨by omega, by omega, by decide⟩, by show Q (.int (1 * 2 ^ ((n : Int).toNat))) H; rw [shl_nat]; exact q⟩
theorem op_xorN : OpR X (binaryOp .BitXor) (fun x y H Q => ∃ a b : Nat, x = nv a ∧ y = nv b ∧ Q (nv (a ^^^ b)) H) := fun pins s σ H x y v u Q I rx ry h => by
  obtain ⟨a, b, rfl, rfl, q⟩ := h
  exact op_xor pins s σ H _ _ v u Q I rx ry ⟨a, b, rfl, rfl, by show Q (.int (Builtin.bitXor a b)) H; rw [bitXor_nat]; exact q⟩
theorem op_andN : OpR X (binaryOp .BitAnd) (fun x y H Q => ∃ a b : Nat, x = nv a ∧ y = nv b ∧ Q (nv (a &&& b)) H) := fun pins s σ H x y v u Q I rx ry h => by
  obtain ⟨a, b, rfl, rfl, q⟩ := h
  exact op_and pins s σ H _ _ v u Q I rx ry ⟨a, b, rfl, rfl, by show Q (.int (Builtin.bitAnd a b)) H; rw [bitAnd_nat]; exact q⟩
end
theorem iteP {c A B : Prop} [Decidable c] (hc : c) (h : A) : if decide c = true then A else B := by rw [if_pos (decide_eq_true hc)]; exact h
theorem iteN {c A B : Prop} [Decidable c] (hc : ¬ c) (h : B) : if decide c = true then A else B := by rw [decide_eq_false hc, if_neg Bool.false_ne_true]; exact h
theorem iteB {b : Bool} {A B : Prop} (hb : b = false) (h : B) : if b = true then A else B := by subst hb; exact iteF h
theorem iteBT {b : Bool} {A B : Prop} (hb : b = true) (h : A) : if b = true then A else B := by subst hb; exact iteT h
section
variable {P : Program} {w : World} {K : PySem.W.Frag} {mg : Str → Option Value} {base : Heap} {C : Addr}
theorem scN : FnScope ["value"] ["value"] (defScope sIsNumber) := ⟨rfl, rfl, rfl, by decide +kernel, rfl, by decide +kernel, by decide +kernel⟩
theorem ok_isNumber {f : Addr} {fd : FuncData} (F : Fun K "is_number" "is_number" sIsNumber f fd) (T : Txt K mg C) : FnOk P w K mg base CX0 1 f fd ["value"] (spIsNumber K) := by
  refine F.ok scN (fun vs H Q E h => ?_) (fun cdv A outer s H vs Q E hr h => ?_)
  · obtain ⟨v, t, b1, b2, rfl, _⟩ := h
    rfl
  · obtain ⟨v, t, b1, b2, rfl, kd, k⟩ := h
    refine ⟨_, pss_one (ps_ret (pe_and (pe_isi T.isi T.int PyProof.Rows.boot_int (pv 0)) (pe_one (pe_not (pe_isi T.isi T.bool PyProof.Rows.boot_bool (pv 0)))))), ?_⟩
    refine ⟨_, rfl, v, "int", t, b1, rfl, kd.ty, kd.i, b1, rfl, ?_⟩
    cases b1 with
    | false => exact iteF k
    | true => exact iteT ⟨_, rfl, v, "bool", t, b2, rfl, kd.ty, kd.b, b2, rfl, k⟩
theorem scA : FnScope ["count", "value"] ["count", "value"] (defScope sAreLamps) := ⟨rfl, rfl, rfl, by decide +kernel, rfl, by decide +kernel, by decide +kernel⟩
theorem ok_areLamps {f : Addr} {fd : FuncData} (F : Fun K "are_lamps" "are_lamps" sAreLamps f fd) (FN : FnAt P w K mg base "is_number" 1 ["value"] (spIsNumber K)) : FnOk P w K mg base CX0 2 f fd ["count", "value"] (spAreLamps K) := by
  refine F.ok scA (fun vs H Q E h => ?_) (fun cdv A outer s H vs Q E hr h => ?_)
  · obtain ⟨c, v, t, b1, b2, rfl, _⟩ := h
    rfl
  · obtain ⟨c, v, t, b1, b2, rfl, hc, kd, k1, k2⟩ := h
    refine ⟨_, pss_one (ps_ret (pe_and (pe_fn FN hr (pa_cons (pv 1) pa_nil)) (pe_one (pe_chain op_le op_lt pe_int (pv 1) (pe_op op_shl1 pe_int (pv 0)))))), ?_⟩
    refine ⟨_, rfl, v, t, b1, b2, rfl, kd, _, rfl, ?_⟩
    refine ite2 (fun hb => ?_) (fun hb => ?_)
    · obtain ⟨z, rfl, q⟩ := k1 hb
      refine ⟨_, rfl, 0, z, rfl, rfl, _, rfl, ?_⟩
      refine ite2 (fun h0 => ?_) (fun h0 => ?_)
      · refine ⟨_, rfl, c, rfl, rfl, hc, z, _, rfl, rfl, ?_⟩
        rw [h0, Bool.true_and] at q
        have e : (2 : Int) ^ c = ((2 ^ c : Nat) : Int) := by simp
        rw [e] at q
        exact q
      · have h0' : decide (0 ≤ z) = false := by simpa using h0
        rw [h0', Bool.false_and] at q
        exact q
    · exact k2 (by simpa using hb)
def compOfInit : Scope := match (defBody sInit).getD 2 (.Pass ⟨0, 0, 0, 0⟩) with
  | .If (.UnaryOp _ (.Call _ [.ListComp _ _ sc _] _ _) _) _ _ _ => sc
  | _ => defScope sInit
theorem scI : FnScope ["self", "lamps", "switches"] ["self", "lamps", "switches"] (defScope sInit) := ⟨rfl, rfl, rfl, by decide +kernel, rfl, by decide +kernel, by decide +kernel⟩
theorem csI : CompScope (defScope sInit) compOfInit ["self", "lamps", "switches"] "turned" [1] ["lamps"] := ⟨rfl, by decide +kernel, by decide +kernel, by decide +kernel, by decide +kernel, by decide +kernel, by decide +kernel, by decide +kernel⟩
theorem lamps_ok {a n : Nat} (h : a < 2 ^ n) : (decide (0 ≤ (a : Int)) && decide ((a : Int) < 2 ^ n)) = true := by
  have e : (2 : Int) ^ n = ((2 ^ n : Nat) : Int) := by simp
  rw [e, Bool.and_eq_true]
  exact ⟨decide_eq_true (by omega), decide_eq_true (by omega)⟩
theorem ok_init {f : Addr} {fd : FuncData} (F : Fun K "__init__" "House.__init__" sInit f fd) (T : Txt K mg C) (FN : FnAt P w K mg base "is_number" 1 ["value"] (spIsNumber K)) (FA : FnAt P w K mg base "are_lamps" 2 ["count", "value"] (spAreLamps K)) :
    FnOk P w K mg base CX0 3 f fd ["self", "lamps", "switches"] (spInit K C) := by
  refine F.ok scI (fun vs H Q E h => ?_) (fun cdv A outer s H vs Q E hr h => ?_)
  · obtain ⟨p, dx, l, n, sw, rfl, _⟩ := h
    rfl
  · obtain ⟨p, dx, l, n, sw, rfl, hp, hl, g, k⟩ := h
    obtain ⟨tL, mL⟩ := T.mL
    obtain ⟨tS, mS⟩ := T.mS
    refine ⟨_, pss_cons (ps_if (PW.pt (pw_or (pt_not (pt_val (pe_fn FN hr (pa_cons (pv 1) pa_nil)))) (pw_or1 (pt_not (pt_chain op_le op_le pe_int (pv 1) (pe_glob (v := .int 10) rfl mL ⟨_, rfl⟩)))))) pss_never pss_nil)
      (pss_cons (ps_if (PW.pt (pw_or (pt_not (pt_val (pe_isi T.isi T.list PyProof.Rows.boot_list (pv 2)))) (pw_or1 (pt_cmpR op_gt (pe_callB call_len_seq rfl T.len PySem.boot_len (pa_cons (pv 2) pa_nil)) (pe_glob (v := .int 8) rfl mS ⟨_, rfl⟩) (nomark _))))) pss_never pss_nil)
      (pss_cons (ps_if (pt_not (pt_val (pe_callB (call_all rfl) rfl T.all PyProof.Rows.boot_all (pa_cons (pe_comp rfl csI (pi_list (pv 2)) (fun _ _ _ _ => pts_nil) (fun _ _ _ _ => pe_fn FA hr (pa_cons (pv 1) (pa_cons (pv 0) pa_nil)))) pa_nil)))) pss_never pss_nil)
      (pss_cons (ps_fld (pv 0) (pv 1) rfl)
      (pss_one (ps_fld (pv 0) (pe_callTy call_tuple_of rfl T.tuple PyProof.Rows.boot_tuple (pa_cons (pv 2) pa_nil)) rfl))))), ?_⟩
    refine ⟨_, rfl, nv n, _, true, false, rfl, kind_int K H n, _, rfl, ?_⟩
    refine iteF ?_
    refine ⟨_, rfl, 1, n, rfl, rfl, _, rfl, ?_⟩
    refine iteP (by have := g.n1; omega) ?_
    refine ⟨n, 10, rfl, rfl, _, rfl, ?_⟩
    refine iteNS (by have := g.n10; omega) ?_
    refine ⟨_, rfl, .ref l, "list", _, true, rfl, .lst hl, by rfl, _, rfl, ?_⟩
    refine iteF ?_
    refine ⟨_, rfl, l, _, rfl, .inl (SqL.of hl), _, 8, rfl, rfl, _, rfl, ?_⟩
    refine iteN (by rw [List.length_map]; have := g.s8; omega) ?_
    refine ⟨_, rfl, l, rfl, ⟨_, SqL.of hl⟩, fun acc hacc => comp_list (K := K) (a := l) (xs := sw.map nv) (fun i ys H' => i ≤ sw.length ∧ ys = (List.replicate i true).map V.bl ∧ H' = upd H acc (.lst ys)) ⟨Nat.zero_le _, rfl, rfl⟩ ?_ ?_ ?_⟩
    · rintro i ys H' ⟨hi, _, rfl⟩
      exact ⟨by rw [List.length_map]; exact hi, SqL.of (by rw [upd_ne (ne_of_none hl hacc)]; exact hl)⟩
    · rintro i x ys H' hx ⟨hi, rfl, rfl⟩
      obtain ⟨a, ha, rfl⟩ := nv_get hx
      have hilt : i < sw.length := (List.getElem?_eq_some_iff.mp ha).1
      refine tTrue_mk ?_
      refine iteT ?_
      refine ⟨nv n, rfl, nv a, rfl, n, nv a, _, true, false, rfl, by have := g.n10; omega, kind_int K _ a, fun _ => ⟨a, rfl, upd_same, ?_, hilt, ?_, ?_⟩, fun z => by cases z⟩
      · rw [List.length_map, List.length_replicate]
        exact small9 (by have := g.s8; omega)
      · rw [lamps_ok (g.lt a (List.mem_of_getElem? ha)), List.replicate_succ', List.map_append]
        rfl
      · rw [upd_upd]
    · rintro ys H' ⟨_, rfl, rfl⟩
      refine ⟨acc, List.replicate (sw.map nv).length true, rfl, SqL.of upd_same, _, rfl, ?_⟩
      have e : (!(List.replicate (sw.map nv).length true).all id) = false := by simp
      refine iteB e ?_
      have npl : p ≠ l := ne_of hp hl (by intro z; cases z)
      have npa : p ≠ acc := ne_of_none hp hacc
      refine ⟨_, rfl, _, rfl, p, C, dx, [], rfl, (by rw [upd_ne npa]; exact hp), T.cl, T.nL, (by show 0 < 1000; decide), ?_⟩
      refine ⟨_, rfl, l, _, rfl, .inl ⟨SqL.of (by rw [upd_ne npl.symm, upd_ne (ne_of_none hl hacc)]; exact hl), fun u hu => ?_⟩⟩
      have hu1 : H u = none := by
        cases e1 : H u with
        | none => rfl
        | some o =>
          by_cases hup : u = p
          · rw [hup, upd_same] at hu; cases hu
          · rw [upd_ne hup, upd_ne (ne_of_none e1 hacc), e1] at hu; cases hu
      have npu : p ≠ u := ne_of_none hp hu1
      refine ⟨_, rfl, p, C, dx, _, rfl, (by rw [upd_ne npu, upd_same]), T.cl, T.nW, (by show 1 < 1000; decide), ?_⟩
      refine k _ ⟨dx, u, upd_same, by rw [upd_ne npu.symm, upd_same]⟩ fun b o hb hbp => ?_
      rw [upd_ne hbp, upd_ne (ne_of_none hb hu1), upd_ne hbp, upd_ne (ne_of_none hb hacc)]
      exact hb
theorem scS : FnScope ["self"] ["self"] (defScope sSwitches) := ⟨rfl, rfl, rfl, by decide +kernel, rfl, by decide +kernel, by decide +kernel⟩
theorem ok_switches {f : Addr} {fd : FuncData} (F : Fun K "switches" "House.switches" sSwitches f fd) (T : Txt K mg C) : FnOk P w K mg base CX0 1 f fd ["self"] (spSwitches C) := by
  refine F.ok scS (fun vs H Q E h => ?_) (fun cdv A outer s H vs Q E hr h => ?_)
  · obtain ⟨p, n, sw, rfl, _⟩ := h
    rfl
  · obtain ⟨p, n, sw, rfl, hh, k⟩ := h
    obtain ⟨dx, u, h1, h2⟩ := hh.ob
    refine ⟨_, pss_one (ps_ret (pe_callTy call_list_of rfl T.list PyProof.Rows.boot_list (pa_cons (pe_fld (pv 0) rfl) pa_nil))), ?_⟩
    exact ⟨_, rfl, p, C, dx, _, _, rfl, h1, T.cl, T.nW, flds_wiring n u, u, _, rfl, .inr (SqT.of h2), k⟩
abbrev FSw (P : Program) (w : World) (K : PySem.W.Frag) (mg : Str → Option Value) (base : Heap) (C : Addr) : Prop := MethAt P w K mg base C "switches" 1 ["self"] (spSwitches C)
theorem sw_no (n : Nat) (u : Addr) : (flds n u).lookup ("switches" : Str) = none := flds_no n u (by decide +kernel) (by decide +kernel)
theorem take_snoc {α : Type} {ps : List α} {i : Nat} {a : α} (h : ps[i]? = some a) : ps.take (i + 1) = ps.take i ++ [a] := by
  rw [List.take_add_one, h]
  rfl
theorem sw_at {sw : List Nat} {a : Nat} (h : a < sw.length) : atI (sw.map nv) (a : Int) = some (nv (sw.getD a 0)) := by
  refine atI_nat ?_
  rw [List.getElem?_map, List.getD_eq_getElem?_getD, List.getElem?_eq_getElem h]
  rfl
end
end Sw
set_option maxHeartbeats 4000000
namespace Sw
open PySem L2
section
variable {P : Program} {w : World} {K : PySem.W.Frag} {mg : Str → Option Value} {base : Heap} {C : Addr}
theorem scC : FnScope ["_law_script", "_law_k"] ["_law_script", "_law_k"] (defScope sCellAt) := ⟨rfl, rfl, rfl, by decide +kernel, rfl, by decide +kernel, by decide +kernel⟩
theorem ok_cellAt {f : Addr} {fd : FuncData} (F : Fun K "_law_cell_at" "_law_cell_at" sCellAt f fd) (len : mg "len" = none) : FnOk P w K mg base CX0 1 f fd ["_law_script", "_law_k"] (spCellAt K) := by
  refine F.ok scC (fun vs H Q E h => ?_) (fun cdv A outer s H vs Q E hr h => ?_)
  · obtain ⟨a, ns, k, rfl, _⟩ := h
    rfl
  · obtain ⟨a, ns, k, rfl, hS, q⟩ := h
    refine ⟨_, pss_cons (ps_if (pt_cmpR op_lt (pv 1) (pe_callB call_len_seq rfl len PySem.boot_len (pa_cons (pv 0) pa_nil)) (nomark _)) (pss_one (ps_ret (pe_ix ix_list (pv 0) (pv 1) (fun _ _ => rfl)))) pss_nil)
      (pss_one (ps_ret pe_int)), ?_⟩
    refine ⟨_, rfl, _, rfl, a, _, rfl, .inl hS, _, _, rfl, rfl, _, rfl, ?_⟩
    refine ite2 (fun h1 => ?_) (fun h1 => ?_)
    · have h1' : (k : Int) < ((ns.map V.int).length : Int) := of_decide_eq_true h1
      rw [List.length_map] at h1'
      have hk : k < ns.length := by omega
      refine ⟨_, rfl, _, rfl, a, _, _, V.int ns[k], rfl, rfl, hS, atI_nat ?_, q _⟩
      rw [List.getElem?_map, List.getElem?_eq_getElem hk]
      rfl
    · exact q 0
theorem scD : FnScope ["_law_cell", "_law_k", "_law_many", "_law_primes", "_law_blend"] ["_law_cell", "_law_k", "_law_many"] (defScope sDraw) := ⟨rfl, rfl, rfl, by decide +kernel, rfl, by decide +kernel, by decide +kernel⟩
def primes : List Int := [1000003, 1000033, 1000037, 1000039, 1000081, 1000099, 1000117, 1000121]
theorem primes_pos : ∀ k ∈ primes, 0 < k := by decide
theorem ok_draw {f : Addr} {fd : FuncData} (F : Fun K "_law_draw" "_law_draw" sDraw f fd) : FnOk P w K mg base CX0 1 f fd ["_law_cell", "_law_k", "_law_many"] spDraw := by
  refine F.ok scD (fun vs H Q E h => ?_) (fun cdv A outer s H vs Q E hr h => ?_)
  · obtain ⟨c, k, m, rfl, _⟩ := h
    rfl
  · obtain ⟨c, k, m, rfl, hm, q⟩ := h
    refine ⟨_, pss_cons (ps_set (i := 3) scD.nd rfl (Or.inl rfl) (pe_tup (pa_cons pe_int (pa_cons pe_int (pa_cons pe_int (pa_cons pe_int (pa_cons pe_int (pa_cons pe_int (pa_cons pe_int (pa_cons pe_int pa_nil))))))))))
      (pss_cons (ps_set (i := 4) scD.nd rfl (Or.inl rfl) (pe_op op_add (pe_op op_add (pe_op op_mul (pv 0) pe_int) (pe_op op_mul (pv 1) pe_int)) (pe_op op_mul (pe_op op_mod (pe_op op_fdiv (pv 0) pe_int) pe_int) pe_int)))
      (pss_one (ps_ret (pe_op op_mod (pe_op op_mod (pv 4) (pe_ix ix_tup (pv 3) (pe_op op_mod (pv 1) pe_int) (fun _ _ => rfl))) (pv 2))))), ?_⟩
    refine ⟨by show 8 ≤ sizeLine; decide, fun t ht => ?_⟩
    refine ⟨_, rfl, _, _, rfl, rfl, .inr ⟨by decide, by decide⟩, _, rfl, _, _, rfl, rfl, .inr ⟨by decide, by decide⟩, _, _, rfl, rfl, _, rfl, _, _, rfl, rfl, ⟨by decide, by decide⟩, _, _, rfl, rfl, (by show (0 : Int) < 1000003; decide),
      _, _, rfl, rfl, .inr ⟨by decide, by decide⟩, _, _, rfl, rfl, ?_⟩
    have hk0 : 0 ≤ (k : Int) % 8 := Int.emod_nonneg _ (by decide)
    have hk1 : (k : Int) % 8 < (primes.length : Int) := Int.emod_lt_of_pos _ (by decide)
    obtain ⟨pr, hpr, hat⟩ := tab_ix primes hk0 hk1
    refine ⟨_, rfl, _, rfl, _, rfl, _, _, rfl, rfl, (by show (0 : Int) < 8; decide), t, _, _, _, rfl, rfl, SqT.of upd_same, hat, _, _, rfl, rfl, primes_pos pr hpr, _, rfl, _, _, rfl, rfl, (by show (0 : Int) < (m : Int); omega), ?_⟩
    generalize (c * 48271 + (k : Int) * 69621 + c / 1000003 % 1000003 * 40692) % pr = y
    have hy0 : 0 ≤ y % (m : Int) := Int.emod_nonneg _ (by omega)
    have hy1 : y % (m : Int) < (m : Int) := Int.emod_lt_of_pos _ (by omega)
    obtain ⟨z, hz⟩ : ∃ z : Nat, y % (m : Int) = (z : Int) := ⟨(y % (m : Int)).toNat, by omega⟩
    show Q (.int (y % (m : Int))) _
    rw [hz]
    exact q z _ (same_upd ht) (by omega)
abbrev FCell (P : Program) (w : World) (K : PySem.W.Frag) (mg : Str → Option Value) (base : Heap) : Prop := FnAt P w K mg base "_law_cell_at" 1 ["_law_script", "_law_k"] (spCellAt K)
abbrev FDraw (P : Program) (w : World) (K : PySem.W.Frag) (mg : Str → Option Value) (base : Heap) : Prop := FnAt P w K mg base "_law_draw" 1 ["_law_cell", "_law_k", "_law_many"] spDraw
theorem scTo : FnScope ["_law_script", "_law_first", "_law_cell", "_law_other_here", "_law_lamps", "_law_many", "_law_switches", "_law_k", "_law_one"] ["_law_script", "_law_first"] (defScope sTold) := ⟨rfl, rfl, rfl, by decide +kernel, rfl, by decide +kernel, by decide +kernel⟩
def tRest : TS := fun D σ H => ∃ (a f : V) (c o : Int) (n m : Nat), σ = [some a, some f, some (.int c), some (.int o), some (nv n), some (nv m), none, none, none] ∧ 1 ≤ n ∧ n ≤ 10 ∧ m ≤ 8 ∧
  ∀ (p l : Addr) (sw : List Nat) H', Same H H' → H p = none → H l = none → H' p = some (.tup [nv n, .ref l]) → H' l = some (.lst (sw.map nv)) → Good n sw → D.rt (.ref p) H'
def tPut : TS := fun D σ H => ∃ (a f : V) (c o k : Int) (n m z : Nat) (l : Addr) (sw : List Nat), σ = [some a, some f, some (.int c), some (.int o), some (nv n), some (nv m), some (.ref l), some (.int k), some (nv z)] ∧
  H l = some (.lst (sw.map nv)) ∧ sw.length ≤ 8 ∧ D.nx σ (upd H l (.lst ((sw ++ [z]).map nv)))
def tSum : TS := fun D σ H => ∃ (a f : V) (c o : Int) (n m z : Nat) (l : Addr) (sw : List Nat), σ = [some a, some f, some (.int c), some (.int o), some (nv n), some (nv m), some (.ref l), some (nv sw.length), some (nv z)] ∧
  H l = some (.lst (sw.map nv)) ∧ sw.length ≤ 8 ∧ (∀ a ∈ sw, a < 2 ^ n) ∧ z < 2 ^ n ∧ ∀ (z' : Nat) H', Same H H' → z' < 2 ^ n →
    D.nx [some a, some f, some (.int c), some (.int o), some (nv n), some (nv m), some (.ref l), some (nv sw.length), some (nv z')] (upd H' l (.lst ((sw ++ [z']).map nv)))
theorem ok_told {f : Addr} {fd : FuncData} (F : Fun K "_law_told" "_law_told" sTold f fd) (range : mg "range" = none) (FC : FCell P w K mg base) (FD : FDraw P w K mg base) : FnOk P w K mg base CX0 2 f fd ["_law_script", "_law_first"] (spTold K) := by
  refine F.ok scTo (fun vs H Q E h => ?_) (fun cdv A outer s H vs Q E hr h => ?_)
  · obtain ⟨a, ns, k, rfl, _⟩ := h
    rfl
  · obtain ⟨a, ns, k, rfl, hS, q⟩ := h
    refine ⟨_, pss_cons (ps_set (i := 2) scTo.nd rfl (Or.inl rfl) (pe_fn FC hr (pa_cons (pv 0) (pa_cons (pv 1) pa_nil))))
      (pss_cons (ps_set (i := 3) scTo.nd rfl (Or.inl rfl) (pe_fn FC hr (pa_cons (pv 0) (pa_cons (pe_op op_add (pv 1) pe_int) pa_nil))))
      (pss_cons (ps_set (i := 4) scTo.nd rfl (Or.inl rfl) (pe_ix ix_tup (pe_tup (pa_cons pe_int (pa_cons pe_int (pa_cons pe_int (pa_cons pe_int (pa_cons pe_int (pa_cons pe_int (pa_cons pe_int pa_nil)))))))) (pe_op op_mod (pv 2) pe_int) (fun _ _ => rfl)))
      (pss_cons (ps_set (i := 5) scTo.nd rfl (Or.inl rfl) (pe_ix ix_tup (pe_tup (pa_cons pe_int (pa_cons pe_int (pa_cons pe_int (pa_cons pe_int (pa_cons pe_int (pa_cons pe_int (pa_cons pe_int (pa_cons pe_int pa_nil))))))))) (pe_op op_mod (pe_op op_fdiv (pv 2) pe_int) pe_int) (fun _ _ => rfl)))
      (pss_cons (ps_if (pt_cmpR op_eq (pe_op op_mod (pe_op op_fdiv (pv 2) pe_int) pe_int) pe_int (nomark _))
        (pss_cons (ps_set (i := 4) scTo.nd rfl (Or.inl rfl) (pe_op op_add pe_int (pe_op op_mod (pe_op op_fdiv (pv 2) pe_int) pe_int)))
        (pss_one (ps_set (i := 5) scTo.nd rfl (Or.inl rfl) (pe_ix ix_tup (pe_tup (pa_cons pe_int (pa_cons pe_int (pa_cons pe_int (pa_cons pe_int (pa_cons pe_int (pa_cons pe_int pa_nil))))))) (pe_op op_mod (pe_op op_fdiv (pv 2) pe_int) pe_int) (fun _ _ => rfl))))) pss_nil)
      (PSs.imp (t' := tRest) (pss_cons (ps_set (i := 6) scTo.nd rfl (Or.inl rfl) (pe_lst pa_nil))
      (pss_cons (ps_for PassesOwn.never rfl (pi_range1 rfl range (pa_cons (pv 5) pa_nil)) (pg_name (i := 7) scTo.nd rfl (Or.inl rfl))
        (pss_cons (ps_set (i := 8) scTo.nd rfl (Or.inl rfl) (pe_fn FD hr (pa_cons (pe_op op_add (pe_op op_fdiv (pv 3) pe_int) (pe_op op_mul pe_int (pv 7))) (pa_cons pe_int (pa_cons (pe_op op_shl1 pe_int (pv 4)) pa_nil)))))
        (pss_cons (ps_if (pt_cmpR op_eq (pe_op op_mod (pe_op op_fdiv (pv 2) pe_int) pe_int) pe_int (nomark _))
          (pss_one (ps_set (i := 8) scTo.nd rfl (Or.inl rfl) (pe_op op_andN (pv 8) (pe_fn FD hr (pa_cons (pe_op op_add (pe_op op_fdiv (pv 3) pe_int) (pe_op op_mul pe_int (pv 7))) (pa_cons pe_int (pa_cons (pe_op op_shl1 pe_int (pv 4)) pa_nil))))))) pss_nil)
        (PSs.imp (t' := tSum) (pss_cons (ps_if (PW.pt (pw_and (pt_cmpR op_gt (pv 7) pe_int (nomark _)) (pw_and1 (pt_cmpR op_eq (pe_fn FD hr (pa_cons (pe_op op_add (pe_op op_fdiv (pv 3) pe_int) (pe_op op_mul pe_int (pv 7))) (pa_cons pe_int (pa_cons pe_int pa_nil)))) pe_int (nomark _)))))
          (pss_one (ps_set (i := 8) scTo.nd rfl (Or.inl rfl) (pe_op op_xorN (pe_ix ix_list (pv 6) (pe_op op_sub (pv 7) pe_int) (fun _ _ => rfl)) (pe_ix ix_list (pv 6) (pe_op op_sub (pv 7) pe_int) (fun _ _ => rfl))))) pss_nil)
        (PSs.imp (t' := tPut) (pss_one (ps_expr (pe_bm PySem.F.plainAttrs_list PySem.F.slot_list_append PySem.F.type_list_append mt_append (pv 6) (pa_cons (pv 8) pa_nil)))) ?put)) ?sum))))
      (pss_one (ps_ret (pe_tup (pa_cons (pv 4) (pa_cons (pv 6) pa_nil))))))) ?rest))))), ?main⟩
    case put =>
      rintro D σ H ⟨a, f, c, o, k, n, m, z, l, sw, rfl, hl, h8, q⟩
      refine ⟨_, rfl, .inl ⟨rfl, _, SqL.of hl⟩, _, rfl, l, _, _, rfl, rfl, hl, ?_, ?_⟩
      · rw [List.length_map]
        exact small9 (by omega)
      · rw [List.map_append] at q
        exact q
    case sum =>
      rintro D σ H ⟨a, f, c, o, n, m, z, l, sw, rfl, hl, h8, hlt, hz, q⟩
      have put : ∀ (z' : Nat) H', Same H H' → z' < 2 ^ n → tPut D [some a, some f, some (.int c), some (.int o), some (nv n), some (nv m), some (.ref l), some (nv sw.length), some (nv z')] H' := fun z' H' hs hz' =>
        ⟨a, f, c, o, sw.length, n, m, z', l, sw, rfl, hs _ _ hl, h8, q z' H' hs hz'⟩
      refine ⟨_, rfl, _, _, rfl, rfl, _, rfl, ?_⟩
      refine ite2 (fun h1 => ?_) (fun h1 => ?_)
      · have h1' : (1 : Int) < (sw.length : Int) := of_decide_eq_true h1
        refine ⟨_, rfl, _, _, rfl, rfl, ⟨by decide, by decide⟩, _, rfl, _, _, rfl, rfl, .inl ⟨by decide, by decide⟩, _, _, rfl, rfl, _, 3, 4, rfl, by decide, fun y H' hs _ => ⟨rfl, _, rfl, ?_⟩⟩
        refine ite2 (fun h2 => ?_) (fun h2 => ?_)
        · obtain ⟨i, hi⟩ : ∃ i, sw.length = i + 2 := ⟨sw.length - 2, by omega⟩
          have e1 : (sw.length : Int) - 1 = ((i + 1 : Nat) : Int) := by omega
          have e2 : (sw.length : Int) - 2 = ((i : Nat) : Int) := by omega
          refine ⟨_, rfl, _, rfl, _, _, rfl, rfl, l, _, _, _, rfl, rfl, SqL.of (hs _ _ hl), (by rw [e1]; exact sw_at (by omega)), _, rfl, _, rfl, _, _, rfl, rfl, l, _, _, _, rfl, rfl, SqL.of (hs _ _ hl), (by rw [e2]; exact sw_at (by omega)), _, _, rfl, rfl, ?_⟩
          exact put _ H' hs (Nat.xor_lt_two_pow (getD_lt hlt _) (getD_lt hlt _))
        · exact put z H' hs hz
      · exact iteF (put z H (Same.refl _) hz)
    case rest =>
      rintro D σ H ⟨a, f, c, o, n, m, rfl, h1, h10, h8, q⟩
      refine ⟨Nat.zero_le _, fun l hl => ?_⟩
      refine ⟨_, rfl, m, rfl, by omega, by omega, for_range (n := (m : Int).toNat) (fun i σ H' => ∃ (u v : Option V) (sw : List Nat), σ = [some a, some f, some (.int c), some (.int o), some (nv n), some (nv m), some (.ref l), u, v] ∧ sw.length = i ∧ i ≤ m ∧ (∀ a ∈ sw, a < 2 ^ n) ∧ Same H H' ∧ H' l = some (.lst (sw.map nv)))
        ⟨none, none, [], rfl, rfl, Nat.zero_le _, (fun _ z => nomatch z), same_upd hl, upd_same⟩ ?_ ?_⟩
      · rintro i σ H' hi ⟨u, v, sw, rfl, rfl, him, hlt, hs, hl'⟩
        have him' : sw.length < m := by omega
        have e0 : (0 : Int) + (sw.length : Int) = ((sw.length : Nat) : Int) := by omega
        have fin : ∀ (z : Nat) H1, Same H' H1 → z < 2 ^ n → ∀ D' : Ends, D'.nx = (fun σ H'' => ∃ (u v : Option V) (sw' : List Nat), σ = [some a, some f, some (.int c), some (.int o), some (nv n), some (nv m), some (.ref l), u, v] ∧ sw'.length = sw.length + 1 ∧ sw.length + 1 ≤ m ∧ (∀ a ∈ sw', a < 2 ^ n) ∧ Same H H'' ∧ H'' l = some (.lst (sw'.map nv))) →
            tSum D' [some a, some f, some (.int c), some (.int o), some (nv n), some (nv m), some (.ref l), some (nv sw.length), some (nv z)] H1 := fun z H1 hs1 hz D' hD =>
          ⟨a, f, c, o, n, m, z, l, sw, rfl, hs1 _ _ hl', by omega, hlt, hz, fun z' H2 hs2 hz' => by
            rw [hD]
            refine ⟨_, _, sw ++ [z'], rfl, by rw [List.length_append]; rfl, him', fun b hb => ?_, fun b ob e => ?_, upd_same⟩
            · rcases List.mem_append.mp hb with hb | hb
              · exact hlt b hb
              · have : b = z' := by simpa using hb
                omega
            · rw [upd_ne (ne_of_none e hl)]
              exact hs2 _ _ (hs1 _ _ (hs _ _ e))⟩
        rw [e0]
        refine ⟨_, rfl, _, _, rfl, rfl, ⟨by decide, by decide⟩, _, rfl, _, _, rfl, rfl, .inl ⟨by decide, by decide⟩, _, _, rfl, rfl, _, rfl, n, rfl, rfl, by omega, _, 1, 2 ^ n, rfl, Nat.two_pow_pos n, fun z H1 hs1 hz => ?_⟩
        refine ⟨_, rfl, _, _, rfl, rfl, ⟨by decide, by decide⟩, _, _, rfl, rfl, (by show (0 : Int) < 3; decide), rfl, _, rfl, ?_⟩
        refine ite2 (fun _ => ?_) (fun _ => ?_)
        · refine ⟨_, rfl, _, rfl, _, _, rfl, rfl, ⟨by decide, by decide⟩, _, rfl, _, _, rfl, rfl, .inl ⟨by decide, by decide⟩, _, _, rfl, rfl, _, rfl, n, rfl, rfl, by omega, _, 2, 2 ^ n, rfl, Nat.two_pow_pos n, fun z2 H2 hs2 hz2 => ⟨z, z2, rfl, rfl, ?_⟩⟩
          exact fin (z &&& z2) H2 (hs1.trans hs2) (Nat.lt_of_le_of_lt Nat.and_le_left hz) _ rfl
        · exact fin z H1 hs1 hz _ rfl
      · rintro σ H' ⟨u, v, sw, rfl, hlen, him, hlt, hs, hl'⟩
        refine ⟨_, rfl, _, rfl, by show 2 ≤ sizeLine; decide, fun p hp => ?_⟩
        have hlp : l ≠ p := ne_of_none hl' hp
        exact q p l sw _ (fun b ob e => by rw [upd_ne (ne_of_none (hs _ _ e) hp)]; exact hs _ _ e) (hs.free hp) hl upd_same (by rw [upd_ne hlp]; exact hl') ⟨h1, h10, by omega, hlt⟩
    case main =>
      refine ⟨_, rfl, _, rfl, a, ns, k, rfl, hS, fun c => ?_⟩
      refine ⟨_, rfl, _, rfl, _, _, rfl, rfl, a, ns, k + 1, rfl, hS, fun o => ?_⟩
      have m7 : 0 ≤ c % 7 ∧ c % 7 < 7 := ⟨Int.emod_nonneg _ (by decide), Int.emod_lt_of_pos _ (by decide)⟩
      have m8 : 0 ≤ c / 7 % 8 ∧ c / 7 % 8 < 8 := ⟨Int.emod_nonneg _ (by decide), Int.emod_lt_of_pos _ (by decide)⟩
      have m6 : 0 ≤ c / 672 % 6 ∧ c / 672 % 6 < 6 := ⟨Int.emod_nonneg _ (by decide), Int.emod_lt_of_pos _ (by decide)⟩
      have m4 : 0 ≤ c / 672 % 4 ∧ c / 672 % 4 < 4 := ⟨Int.emod_nonneg _ (by decide), Int.emod_lt_of_pos _ (by decide)⟩
      obtain ⟨n0, hn0, at0⟩ := tab_ix [3, 4, 5, 2, 4, 6, 1] m7.1 m7.2
      obtain ⟨n1, hn1, at1⟩ := tab_ix [3, 2, 4, 0, 5, 3, 4, 1] m8.1 m8.2
      obtain ⟨n2, hn2, at2⟩ := tab_ix [5, 5, 6, 5, 5, 8] m6.1 m6.2
      have b0 : 1 ≤ n0 ∧ n0 ≤ 10 := (show ∀ x ∈ ([3, 4, 5, 2, 4, 6, 1] : List Int), 1 ≤ x ∧ x ≤ 10 by decide) n0 hn0
      have b1 : 0 ≤ n1 ∧ n1 ≤ 8 := (show ∀ x ∈ ([3, 2, 4, 0, 5, 3, 4, 1] : List Int), 0 ≤ x ∧ x ≤ 8 by decide) n1 hn1
      have b2 : 0 ≤ n2 ∧ n2 ≤ 8 := (show ∀ x ∈ ([5, 5, 6, 5, 5, 8] : List Int), 0 ≤ x ∧ x ≤ 8 by decide) n2 hn2
      have rest : ∀ (n m : Int) H', Same H H' → 1 ≤ n → n ≤ 10 → 0 ≤ m → m ≤ 8 → ∀ D : Ends, D.rt = Q → tRest D [some (.ref a), some (nv k), some (.int c), some (.int o), some (.int n), some (.int m), none, none, none] H' := fun n m H' hs h1 h2 h3 h4 D hD => by
        obtain ⟨n', rfl⟩ : ∃ n' : Nat, n = (n' : Int) := ⟨n.toNat, by omega⟩
        obtain ⟨m', rfl⟩ : ∃ m' : Nat, m = (m' : Int) := ⟨m.toNat, by omega⟩
        refine ⟨_, _, c, o, n', m', rfl, by omega, by omega, by omega, fun p l sw H2 hs2 hp hl e1 e2 g => ?_⟩
        rw [hD]
        exact q p l n' sw H2 (hs.trans hs2) (hs.free hp) (hs.free hl) e1 e2 g
      refine ⟨by show 7 ≤ sizeLine; decide, fun t0 ht0 => ?_⟩
      refine ⟨_, rfl, _, _, rfl, rfl, (by show (0 : Int) < 7; decide), t0, _, _, _, rfl, rfl, SqT.of upd_same, at0, ?_⟩
      refine ⟨by show 8 ≤ sizeLine; decide, fun t1 ht1 => ?_⟩
      refine ⟨_, rfl, _, _, rfl, rfl, ⟨by decide, by decide⟩, _, _, rfl, rfl, (by show (0 : Int) < 8; decide), t1, _, _, _, rfl, rfl, SqT.of upd_same, at1, ?_⟩
      refine ⟨_, rfl, _, _, rfl, rfl, ⟨by decide, by decide⟩, _, _, rfl, rfl, (by show (0 : Int) < 12; decide), rfl, _, rfl, ?_⟩
      have s1 := (same_upd (o := .tup [.int 3, .int 4, .int 5, .int 2, .int 4, .int 6, .int 1]) ht0).trans (same_upd (o := .tup [.int 3, .int 2, .int 4, .int 0, .int 5, .int 3, .int 4, .int 1]) ht1)
      refine ite2 (fun _ => ?_) (fun _ => ?_)
      · refine ⟨_, rfl, _, _, rfl, rfl, ⟨by decide, by decide⟩, _, _, rfl, rfl, (by show (0 : Int) < 4; decide), _, _, rfl, rfl, ?_⟩
        refine ⟨by show 6 ≤ sizeLine; decide, fun t2 ht2 => ?_⟩
        refine ⟨_, rfl, _, _, rfl, rfl, ⟨by decide, by decide⟩, _, _, rfl, rfl, (by show (0 : Int) < 6; decide), t2, _, _, _, rfl, rfl, SqT.of upd_same, at2, ?_⟩
        exact rest (7 + c / 672 % 4) n2 _ (s1.trans (same_upd ht2)) (by omega) (by omega) b2.1 b2.2 _ rfl
      · exact rest n0 n1 _ s1 b0.1 b0.2 b1.1 b1.2 _ rfl
end
end Sw
set_option maxHeartbeats 4000000
namespace Sw
open PySem L2
def castL (l : List Nat) : List Int := l.map fun a : Nat => (a : Int)
theorem castL_nv (l : List Nat) : (castL l).map V.int = l.map nv := by
  unfold castL
  rw [List.map_map]
  rfl
def subs : Nat → List (List Nat)
  | 0 => [[]]
  | m + 1 => subs m ++ (subs m).map fun a => a ++ [m]
end Sw
namespace Sw
open PySem L2
abbrev sBits : Stmt := top 23
abbrev sIsPressL : Stmt := top 26
def bitsN (z : Nat) : Nat := if h : z = 0 then 0 else z % 2 + bitsN (z / 2)
decreasing_by omega
def spBits : Sp := fun vs H Q _ => ∃ z : Nat, vs = [nv z] ∧ Q (nv (bitsN z)) H
def riseB (last m : Int) : List Int → Bool
  | [] => true
  | z :: r => if last < z ∧ z < m then riseB z m r else false
def spIsPressL (K : PySem.W.Frag) : Sp := fun vs H Q _ => ∃ (l : Addr) (m : Int) (zs : List Int), vs = [.ref l, .int m] ∧ H l = some (.lst (zs.map V.int)) ∧ Q (.bl (riseB (-1) m zs)) H
section
variable {P : Program} {w : World} {K : PySem.W.Frag} {mg : Str → Option Value} {base : Heap} {C : Addr}
end
end Sw
namespace Sw
open PySem L2
def oddB (z : Nat) : Bool := decide (bitsN z % 2 = 1)
section
variable {X : Cx} {K : PySem.W.Frag}
theorem pe_fldK {e : Expr} {f : Str} {pos : Pos} {ta : TE} (hK : X.K = K) (he : PE X e ta) (hb : attributeBase e f X.env (eval e X.env) = eval e X.env) : PE X (.Attribute e f pos) (tFld K ta f) := by
  subst hK
  exact pe_fld he hb
theorem op_inK (hK : X.K = K) : OpR X (compareOp .In) (rIn K false) := by
  subst hK
  exact op_in_seq
end
theorem make_house {K : PySem.W.Frag} {C l x dx : Addr} {H : Hp} {n : Nat} {sw : List Nat} {Q : VK} {E : XK} (nx : H x = none) (ndx : H dx = none) (nex : dx ≠ x) (hl : H l = some (.lst (sw.map nv))) (g : Good n sw) (k : ∀ H', HouseAt C H' x n sw → Same H H' → Q .non H') :
    spInit K C [.ref x, nv n, .ref l] (upd (upd H dx (.own x)) x (.ins C dx [])) Q E := by
  have s2 : Same H (upd (upd H dx (.own x)) x (.ins C dx [])) := fun b o e => by
    rw [upd_ne (ne_of_none e nx), upd_ne (ne_of_none e ndx)]
    exact e
  exact ⟨x, dx, l, n, sw, rfl, upd_same, s2 _ _ hl, g, fun H2 hh kp => k H2 hh fun b o e => kp b o (s2 b o e) (ne_of_none e nx)⟩
end Sw
set_option maxHeartbeats 4000000
namespace Sw
open PySem L2
abbrev sRowOf : Stmt := top 14
abbrev sIsRow : Stmt := top 15
abbrev sLampsOf : Stmt := top 16
abbrev sWritten : Stmt := top 17
abbrev sRead : Stmt := top 18
def sg (b : Bool) : Nat := if b = true then 35 else 46
def rowL (n z : Nat) : List Nat := (List.range n).map fun k => sg (z.testBit k)
def rowS (n z : Nat) : Str := TX.mkS (rowL n z)
def LF : Str := "\n"
def textS (n : Nat) (sw : List Nat) : Str := Txt.join LF ((0 :: sw).map (rowS n))
theorem rowS_len (n z : Nat) : (rowS n z).length = n := by
  show (rowL n z).toArray.size = n
  rw [List.size_toArray]
  unfold rowL
  rw [List.length_map, List.length_range]
theorem rowS_list (n z : Nat) : (rowS n z).cps.toList = rowL n z := by
  unfold rowS TX.mkS
  simp
theorem bit_dec (z k : Nat) : decide (nv (z / 2 ^ k &&& 1) = V.int 1) = z.testBit k := by
  have e : (z / 2 ^ k &&& 1) = (z / 2 ^ k) % 2 := Nat.and_one_is_mod _
  rw [Nat.testBit_eq_decide_div_mod_eq, e]
  refine decide_eq_decide.mpr ⟨fun h => ?_, fun h => ?_⟩
  · have := V.int.inj h
    omega
  · exact congrArg V.int (by omega)
theorem join_ok {sep : Str} {zs : List Str} (h1 : ∀ z ∈ zs, z.length ≤ 10) (h2 : zs.length ≤ 20) (h3 : sep.length ≤ 1) : JoinOk sep zs = true := by
  have key : ∀ (l : List Str) (a : Nat), (∀ z ∈ l, z.length ≤ 10) → l.foldl (fun a z => a + z.length + sep.length) a ≤ a + l.length * 11 := fun l => by
    induction l with
    | nil => intro a _; simp
    | cons z l ih =>
      intro a hz
      have := ih (a + z.length + sep.length) fun y hy => hz y (.tail _ hy)
      have hz1 := hz z (.head _)
      show l.foldl _ (a + z.length + sep.length) ≤ a + (l.length + 1) * 11
      omega
  have := key zs 0 h1
  unfold JoinOk Builtin.Str.tooLong
  rw [List.foldl_toArray]
  have hs : (1000 : Nat) ≤ sizeLine := by decide
  have hl : zs.length * 11 ≤ 220 := by omega
  have e : ¬ (List.foldl (fun x1 x2 => x1 + x2.length + sep.length) 0 zs > sizeLine) := by omega
  simp [e]
theorem join_signs (l : List Nat) : Txt.join Str.empty (l.map fun c => (⟨#[c]⟩ : Str)) = TX.mkS l := by
  have e : (Txt.join Str.empty (l.map fun c => (⟨#[c]⟩ : Str))) = Str.join Str.empty (l.map fun c => (⟨#[c]⟩ : Str)) := by
    cases l with
    | nil => rfl
    | cons a r => exact StrLaws.glued_cons Str.empty _ _
  rw [e]
  have := TX.join0_toList (l.map fun c => (⟨#[c]⟩ : Str))
  rw [List.map_map] at this
  have e2 : (l.map ((fun z : Str => z.cps.toList) ∘ fun c => (⟨#[c]⟩ : Str))).flatten = l := by
    clear this e
    induction l with
    | nil => rfl
    | cons a r ih =>
      show [a] ++ (r.map ((fun z : Str => z.cps.toList) ∘ fun c => (⟨#[c]⟩ : Str))).flatten = _
      rw [ih]
      rfl
  rw [e2] at this
  rw [← TX.mkS_toList (Str.join Str.empty _), this]
theorem text_list (n : Nat) (sw : List Nat) : (textS n sw).cps.toList = TX.joinL 10 ((0 :: sw).map (rowL n)) := by
  have e : textS n sw = Str.join LF ((0 :: sw).map (rowS n)) := StrLaws.glued_cons LF _ _
  rw [e, TX.join_toList LF 10 rfl, List.map_map]
  exact congrArg (TX.joinL 10) (List.map_congr_left fun z _ => rowS_list n z)
theorem row_free (n z : Nat) : 10 ∉ rowL n z := fun h => by
  obtain ⟨k, _, e⟩ := List.mem_map.mp h
  unfold sg at e
  split at e <;> omega
theorem text_split (n : Nat) (sw : List Nat) : Builtin.Str.partsBetween (textS n sw) (Builtin.Str.occurrences (textS n sw) LF 0 (textS n sw).length ((textS n sw).length + 1)) LF.length = (0 :: sw).map (rowS n) := by
  have := TX.split_eq (textS n sw) 10
  rw [text_list, TX.spl_join 10 _ (by simp) (fun r hr => by
    obtain ⟨z, _, rfl⟩ := List.mem_map.mp hr
    exact row_free n z), List.map_map] at this
  exact this
def sumL : Nat → List Nat → Nat
  | _, [] => 0
  | k, c :: r => (if c = 35 then 2 ^ k else 0) + sumL (k + 1) r
theorem sumL_row (z : Nat) : ∀ (m k : Nat), sumL k ((List.range' k m).map fun j => sg (z.testBit j)) = (z / 2 ^ k % 2 ^ m) * 2 ^ k
  | 0, k => by
    show 0 = _
    rw [Nat.pow_zero, Nat.mod_one, Nat.zero_mul]
  | m + 1, k => by
    rw [List.range'_succ, List.map_cons]
    show (if sg (z.testBit k) = 35 then 2 ^ k else 0) + sumL (k + 1) _ = _
    rw [sumL_row z m (k + 1)]
    have e1 : z / 2 ^ (k + 1) = z / 2 ^ k / 2 := by rw [Nat.pow_succ, Nat.div_div_eq_div_mul]
    have e2 : z / 2 ^ k % 2 ^ (m + 1) = 2 * (z / 2 ^ k / 2 % 2 ^ m) + z / 2 ^ k % 2 := by
      rw [Nat.pow_succ, Nat.mul_comm (2 ^ m) 2, Nat.mod_mul]
      omega
    rw [e1, e2, Nat.testBit_eq_decide_div_mod_eq, Nat.pow_succ]
    generalize z / 2 ^ k / 2 % 2 ^ m = u
    have hb : z / 2 ^ k % 2 = 0 ∨ z / 2 ^ k % 2 = 1 := Nat.mod_two_eq_zero_or_one _
    rcases hb with hb | hb
    · rw [hb]
      generalize 2 ^ k = v
      show (if sg (decide (0 = 1)) = 35 then v else 0) + u * (v * 2) = (2 * u + 0) * v
      have : sg (decide (0 = 1)) = 46 := rfl
      rw [this, if_neg (by decide), Nat.zero_add, Nat.add_zero, Nat.mul_comm v 2, ← Nat.mul_assoc, Nat.mul_comm u 2]
    · rw [hb]
      generalize 2 ^ k = v
      show (if sg (decide (1 = 1)) = 35 then v else 0) + u * (v * 2) = (2 * u + 1) * v
      have : sg (decide (1 = 1)) = 35 := rfl
      rw [this, if_pos rfl, Nat.add_mul, Nat.one_mul, Nat.mul_comm v 2, ← Nat.mul_assoc, Nat.mul_comm u 2, Nat.add_comm]
theorem sumL_rowL {n z : Nat} (h : z < 2 ^ n) : sumL 0 (rowL n z) = z := by
  unfold rowL
  rw [List.range_eq_range', sumL_row, Nat.pow_zero, Nat.div_one, Nat.mul_one, Nat.mod_eq_of_lt h]
def spRowOf : Sp := fun vs H Q _ => ∃ n z : Nat, vs = [nv n, nv z] ∧ n ≤ 10 ∧ ∀ H', Same H H' → Q (.str (rowS n z)) H'
def spWritten (C : Addr) : Sp := fun vs H Q _ => ∃ (p : Addr) (n : Nat) (sw : List Nat), vs = [.ref p] ∧ HouseAt C H p n sw ∧ Good n sw ∧ ∀ H', Same H H' → Q (.str (textS n sw)) H'
def spIsRow : Sp := fun vs H Q _ => ∃ (n : Nat) (z : Str), vs = [nv n, .str z] ∧ z.length ≤ 1000 ∧ ∀ H', Same H H' → Q (.bl (decide (z.length = n) && z.cps.toList.all fun c => c == 46 || c == 35)) H'
def spLampsOf : Sp := fun vs H Q _ => ∃ z : Str, vs = [.str z] ∧ z.length ≤ 10 ∧ ∀ H', Same H H' → Q (nv (sumL 0 z.cps.toList)) H'
def spRead (C : Addr) : Sp := fun vs H Q _ => ∃ (n : Nat) (sw : List Nat), vs = [.str (textS n sw)] ∧ Good n sw ∧ ∀ (x : Addr) H', Same H H' → H x = none → HouseAt C H' x n sw → Q (.ref x) H'
section
variable {X : Cx}
theorem op_shrN : OpR X (binaryOp .RShift) (fun x y H Q => ∃ a b : Nat, x = nv a ∧ y = nv b ∧ Q (nv (a / 2 ^ b)) H) := fun pins s σ H x y v u Q I rx ry h => by
  obtain ⟨a, b, rfl, rfl, q⟩ := h
  have e : V.int ((a : Int) / 2 ^ ((b : Int).toNat)) = nv (a / 2 ^ b) := congrArg V.int (by simp)
  exact op_shr pins s σ H _ _ v u Q I rx ry ⟨a, b, rfl, rfl, by omega, by show Q (.int ((a : Int) / 2 ^ ((b : Int).toNat))) H; rw [e]; exact q⟩
end
section
variable {P : Program} {w : World} {K : PySem.W.Frag} {mg : Str → Option Value} {base : Heap} {C : Addr}
def compRw : Scope := match (defBody sRowOf).getD 0 (.Pass ⟨0, 0, 0, 0⟩) with
  | .Return (some (.Call _ [.ListComp _ _ sc _] _ _)) _ => sc
  | _ => defScope sRowOf
theorem scRw : FnScope ["count", "lamps"] ["count", "lamps"] (defScope sRowOf) := ⟨rfl, rfl, rfl, by decide +kernel, rfl, by decide +kernel, by decide +kernel⟩
theorem csRw : CompScope (defScope sRowOf) compRw ["count", "lamps"] "lamp" [1] ["lamps"] := ⟨rfl, by decide +kernel, by decide +kernel, by decide +kernel, by decide +kernel, by decide +kernel, by decide +kernel, by decide +kernel⟩
theorem ok_rowOf {f : Addr} {fd : FuncData} (F : Fun K "row_of" "row_of" sRowOf f fd) (range : mg "range" = none) : FnOk P w K mg base CX0 1 f fd ["count", "lamps"] spRowOf := by
  refine F.ok scRw (fun vs H Q E h => ?_) (fun cdv A outer s H vs Q E hr h => ?_)
  · obtain ⟨n, z, rfl, _⟩ := h
    rfl
  · obtain ⟨n, z, rfl, h10, k⟩ := h
    refine ⟨_, pss_one (ps_ret (pe_bm PySem.F.plainAttrs_str PySem.F.slot_str_join PySem.F.type_str_join mt_join pe_str (pa_cons (pe_comp rfl csRw (pi_range1 rfl range (pa_cons (pv 0) pa_nil)) (fun _ _ _ _ => pts_nil)
      (fun _ _ _ _ => pe_ifExp (pt_cmpR op_eq (pe_op op_andN (pe_op op_shrN (pv 1) (pv 0)) pe_int) pe_int (nomark _)) pe_str pe_str)) pa_nil))), ?_⟩
    refine ⟨rfl, _, rfl, _, rfl, by omega, by omega, fun acc hacc => comp_range (fun i ys Hc => i ≤ n ∧ ys = ((rowL n z).take i).map (fun c => V.str ⟨#[c]⟩) ∧ Hc = upd H acc (.lst ys)) ⟨Nat.zero_le _, rfl, rfl⟩ ?_ ?_ ?_⟩
    · rintro i ys Hc ⟨hi, _⟩
      omega
    · rintro i ys Hc hi ⟨hi2, rfl, rfl⟩
      have hi3 : i < n := by omega
      have e0 : (0 : Int) + (i : Int) = ((i : Nat) : Int) := by omega
      rw [e0]
      have hg : (rowL n z)[i]? = some (sg (z.testBit i)) := by
        unfold rowL
        rw [List.getElem?_map, List.getElem?_range hi3]
        rfl
      refine tTrue_mk ?_
      refine iteT ?_
      refine ⟨_, rfl, _, rfl, z, i, rfl, rfl, z / 2 ^ i, 1, rfl, rfl, rfl, _, rfl, ?_⟩
      rw [bit_dec]
      have fl : (((rowL n z).take i).map (fun c => V.str ⟨#[c]⟩)).length < sizeLine := by
        rw [List.length_map, List.length_take]
        exact small9 (by omega)
      refine ite2 (fun hb => ?_) (fun hb => ?_)
      · refine ⟨upd_same, fl, hi3, ?_, by rw [upd_upd]⟩
        rw [take_snoc hg, List.map_append, hb]
        rfl
      · refine ⟨upd_same, fl, hi3, ?_, by rw [upd_upd]⟩
        have hb' : z.testBit i = false := by simpa using hb
        rw [take_snoc hg, List.map_append, hb']
        rfl
    · rintro ys Hc ⟨_, rfl, rfl⟩
      have en : ((n : Int)).toNat = n := by omega
      rw [en]
      have el : (rowL n z).take n = rowL n z := List.take_of_length_le (by unfold rowL; rw [List.length_map, List.length_range]; exact Nat.le_refl _)
      rw [el]
      refine ⟨Str.empty, acc, (rowL n z).map (fun c => (⟨#[c]⟩ : Str)), rfl, rfl, SqL.of (by rw [List.map_map]; exact upd_same), ?_, ?_⟩
      · refine join_ok (fun y hy => ?_) ?_ (by decide)
        · obtain ⟨c, _, rfl⟩ := List.mem_map.mp hy
          show 1 ≤ 10
          decide
        · rw [List.length_map]
          unfold rowL
          rw [List.length_map, List.length_range]
          omega
      · rw [join_signs]
        exact k _ (same_upd hacc)
def compIr : Scope := match (defBody sIsRow).getD 0 (.Pass ⟨0, 0, 0, 0⟩) with
  | .Return (some (.BoolOp _ [_, .Call _ [.ListComp _ _ sc _] _ _] _)) _ => sc
  | _ => defScope sIsRow
theorem scIr : FnScope ["count", "row"] ["count", "row"] (defScope sIsRow) := ⟨rfl, rfl, rfl, by decide +kernel, rfl, by decide +kernel, by decide +kernel⟩
theorem csIr : CompScope (defScope sIsRow) compIr ["count", "row"] "sign" [] [] := ⟨rfl, by decide +kernel, by decide +kernel, by decide +kernel, by decide +kernel, by decide +kernel, by decide +kernel, by decide +kernel⟩
theorem in_signs (c : Nat) : inV (.str ⟨#[c]⟩) [.str ".", .str "#"] = (c == 46 || c == 35) := by
  show ((("." : Str) == (⟨#[c]⟩ : Str)) || ((("#" : Str) == (⟨#[c]⟩ : Str)) || false)) = _
  have e1 : (("." : Str) == (⟨#[c]⟩ : Str)) = (c == 46) := by
    rw [Bool.eq_iff_iff]
    constructor
    · intro h
      have := eq_of_beq h
      have h2 := congrArg (fun z : Str => z.cps.toList) this
      have h3 : [46] = [c] := h2
      simp at h3
      simp [h3]
    · intro h
      have : c = 46 := by simpa using h
      subst this
      exact beq_self_eq_true _
  have e2 : (("#" : Str) == (⟨#[c]⟩ : Str)) = (c == 35) := by
    rw [Bool.eq_iff_iff]
    constructor
    · intro h
      have := eq_of_beq h
      have h2 := congrArg (fun z : Str => z.cps.toList) this
      have h3 : [35] = [c] := h2
      simp at h3
      simp [h3]
    · intro h
      have : c = 35 := by simpa using h
      subst this
      exact beq_self_eq_true _
  rw [e1, e2, Bool.or_false]
theorem ok_isRow {f : Addr} {fd : FuncData} (F : Fun K "is_row" "is_row" sIsRow f fd) (len : mg "len" = none) (all : mg "all" = none) : FnOk P w K mg base CX0 1 f fd ["count", "row"] spIsRow := by
  refine F.ok scIr (fun vs H Q E h => ?_) (fun cdv A outer s H vs Q E hr h => ?_)
  · obtain ⟨n, z, rfl, _⟩ := h
    rfl
  · obtain ⟨n, z, rfl, h10, k⟩ := h
    refine ⟨_, pss_one (ps_ret (pe_and (pe_cmpR op_eq (pe_callB call_len_str rfl len PySem.boot_len (pa_cons (pv 1) pa_nil)) (pv 0) (nomark _)) (pe_one (pe_callB (call_all rfl) rfl all PyProof.Rows.boot_all (pa_cons (pe_comp rfl csIr (pi_str (pv 1)) (fun _ _ _ _ => pts_nil)
      (fun _ _ _ _ => pe_cmpR (op_inK (K := K) rfl) (pv 0) (pe_tup (pa_cons pe_str (pa_cons pe_str pa_nil))) rfl)) pa_nil))))), ?_⟩
    have hz : z.length = z.cps.toList.length := by simp [Str.length]
    have hzs : z.cps.size = z.cps.toList.length := by simp
    refine ⟨_, rfl, z, rfl, Nat.le_of_lt (small1000 (by omega)), _, rfl, rfl, _, rfl, ?_⟩
    have ed : decide (V.int (z.length : Int) = nv n) = decide (z.length = n) := decide_eq_decide.mpr ⟨fun h => by have := V.int.inj h; omega, fun h => by rw [h]⟩
    rw [ed]
    cases eb : decide (z.length = n) with
    | false =>
      rw [eb] at k
      exact iteF (k H (Same.refl _))
    | true =>
      rw [eb] at k
      refine iteT ?_
      refine ⟨_, rfl, z, rfl, fun acc hacc => comp_str (fun i ys Hc => i ≤ z.cps.size ∧ ys = ((z.cps.toList.take i).map fun c => (c == 46 || c == 35)).map V.bl ∧ Same H Hc ∧ Hc acc = some (.lst ys)) ⟨Nat.zero_le _, rfl, same_upd hacc, upd_same⟩ ?_ ?_ ?_⟩
      · rintro i ys Hc ⟨hi, _⟩
        exact hi
      · rintro i c ys Hc hc ⟨hi, rfl, sc, hac⟩
        have hg : z.cps.toList[i]? = some c := by
          rw [Array.getElem?_toList]
          exact hc
        have hilt : i < z.cps.size := (Array.getElem?_eq_some_iff.mp hc).1
        refine tTrue_mk ?_
        refine iteT ?_
        refine ⟨_, rfl, by show 2 ≤ sizeLine; decide, fun tq htq => ?_⟩
        have st := same_upd (o := .tup [.str ".", .str "#"]) htq
        refine ⟨tq, _, rfl, .inr (SqT.of upd_same), rfl, rfl, st _ _ hac, ?_, hilt, ?_, fun b o eb' => ?_, upd_same⟩
        · rw [List.length_map, List.length_map, List.length_take]
          exact small1000 (by omega)
        · rw [take_snoc hg, List.map_append, List.map_append, if_neg Bool.false_ne_true, in_signs]
          rfl
        · rw [upd_ne (ne_of_none eb' hacc)]
          exact st _ _ (sc _ _ eb')
      · rintro ys Hc ⟨_, rfl, sc, hac⟩
        refine ⟨acc, (z.cps.toList.take z.cps.size).map (fun c => (c == 46 || c == 35)), rfl, SqL.of hac, ?_⟩
        rw [hzs, List.take_length, List.all_map]
        exact k Hc sc
def compLo : Scope := match (defBody sLampsOf).getD 0 (.Pass ⟨0, 0, 0, 0⟩) with
  | .Return (some (.Call _ [.ListComp _ _ sc _] _ _)) _ => sc
  | _ => defScope sLampsOf
theorem scLo : FnScope ["row"] ["row"] (defScope sLampsOf) := ⟨rfl, rfl, rfl, by decide +kernel, rfl, by decide +kernel, by decide +kernel⟩
theorem csLo : CompScope2 (defScope sLampsOf) compLo ["row"] "lamp" "sign" [] [] := ⟨rfl, by decide +kernel, by decide +kernel, by decide +kernel, by decide +kernel, by decide +kernel, by decide +kernel, by decide +kernel, by decide +kernel⟩
theorem sumL_snoc (k : Nat) : ∀ (l : List Nat) (c : Nat), sumL k (l ++ [c]) = sumL k l + (if c = 35 then 2 ^ (k + l.length) else 0)
  | [], c => by
    show (if c = 35 then 2 ^ k else 0) + 0 = 0 + _
    rw [Nat.add_zero, Nat.zero_add]
    rfl
  | d :: l, c => by
    show (if d = 35 then 2 ^ k else 0) + sumL (k + 1) (l ++ [c]) = (if d = 35 then 2 ^ k else 0) + sumL (k + 1) l + _
    have e : k + 1 + l.length = k + (d :: l).length := by rw [List.length_cons]; omega
    rw [sumL_snoc (k + 1) l c, e]
    exact (Nat.add_assoc _ _ _).symm
theorem castL_sum : ∀ ms : List Nat, (castL ms).sum = ((ms.sum : Nat) : Int)
  | [] => rfl
  | a :: r => by
    have e : (castL (a :: r)).sum = (a : Int) + (castL r).sum := List.sum_cons
    rw [e, castL_sum r, List.sum_cons]
    omega
theorem str_eq1 (c : Nat) : decide (V.str ⟨#[c]⟩ = V.str "#") = decide (c = 35) := decide_eq_decide.mpr ⟨fun h => by
  have := congrArg (fun z : Str => z.cps.toList) (V.str.inj h)
  have h3 : [c] = [35] := this
  simpa using h3, fun h => by rw [h]; rfl⟩
theorem ok_lampsOf {f : Addr} {fd : FuncData} (F : Fun K "lamps_of" "lamps_of" sLampsOf f fd) (sum : mg "sum" = none) (enum : mg "enumerate" = none) : FnOk P w K mg base CX0 1 f fd ["row"] spLampsOf := by
  refine F.ok scLo (fun vs H Q E h => ?_) (fun cdv A outer s H vs Q E hr h => ?_)
  · obtain ⟨z, rfl, _⟩ := h
    rfl
  · obtain ⟨z, rfl, h10, k⟩ := h
    refine ⟨_, pss_one (ps_ret (pe_callB (call_sumL rfl) rfl sum PyProof.Rows.boot_sum (pa_cons (pe_comp2 rfl csLo (pi_enumS enum (pa_cons (pv 0) pa_nil)) (fun _ _ _ _ => pts_one (pt_cmpR op_eq (pv 1) pe_str (nomark _))) (fun _ _ _ _ => pe_op op_shl1 pe_int (pv 0))) pa_nil))), ?_⟩
    have hz : z.length = z.cps.size := rfl
    refine ⟨_, rfl, z, rfl, fun acc hacc => comp_enumS (K := K) (fun i ys Hc => i ≤ z.cps.size ∧ (∃ ms : List Nat, ys = ms.map nv ∧ ms.sum = sumL 0 (z.cps.toList.take i) ∧ ms.length ≤ i) ∧ Same H Hc ∧ Hc acc = some (.lst ys)) ⟨Nat.zero_le _, ⟨[], rfl, rfl, Nat.le_refl _⟩, same_upd hacc, upd_same⟩ ?_ ?_ ?_⟩
    · rintro i ys Hc ⟨hi, _⟩
      exact hi
    · rintro i c ys Hc Tq hc ⟨hi, ⟨ms, rfl, hms, hml⟩, sc, hac⟩ hTq
      have hg : z.cps.toList[i]? = some c := by
        rw [Array.getElem?_toList]
        exact hc
      have hilt : i < z.cps.size := (Array.getElem?_eq_some_iff.mp hc).1
      have st := same_upd (o := .tup [.int i, .str ⟨#[c]⟩]) hTq
      refine ⟨_, rfl, rfl, _, rfl, ?_⟩
      rw [str_eq1]
      have hli : (z.cps.toList.take i).length = i := by
        rw [List.length_take]
        simp
        omega
      refine ite2 (fun hb => ?_) (fun hb => ?_)
      · have hc' : c = 35 := of_decide_eq_true hb
        refine ⟨_, rfl, i, rfl, rfl, by omega, st _ _ hac, ?_, hilt, ⟨ms ++ [2 ^ i], by rw [List.map_append]; rfl, ?_, by rw [List.length_append]; exact Nat.succ_le_succ hml⟩, fun b o eb => ?_, upd_same⟩
        · rw [List.length_map]
          exact small9 (by omega)
        · rw [take_snoc hg, sumL_snoc, if_pos hc', hli, Nat.zero_add, List.sum_append, hms]
          simp
        · rw [upd_ne (ne_of_none eb hacc)]
          exact st _ _ (sc _ _ eb)
      · have hc' : ¬ c = 35 := fun y => hb (decide_eq_true y)
        refine ⟨hilt, ⟨ms, rfl, ?_, by omega⟩, sc.trans st, st _ _ hac⟩
        rw [take_snoc hg, sumL_snoc, if_neg hc', hms]
        rfl
    · rintro ys Hc ⟨_, ⟨ms, rfl, hms, _⟩, sc, hac⟩
      have hzs : z.cps.size = z.cps.toList.length := by simp
      rw [hzs, List.take_length] at hms
      refine ⟨acc, castL ms, rfl, SqL.of (by rw [castL_nv]; exact hac), ?_⟩
      have es := castL_sum ms
      rw [es, hms]
      exact k Hc sc
end
end Sw
set_option maxHeartbeats 4000000
namespace Sw
open PySem L2
theorem joinL_len (c m : Nat) : ∀ rows : List (List Nat), (∀ r ∈ rows, r.length ≤ m) → (TX.joinL c rows).length ≤ rows.length * (m + 1)
  | [], _ => Nat.zero_le _
  | [r], h => by
    have := h r (.head _)
    show r.length ≤ 1 * (m + 1)
    omega
  | r :: s :: t, h => by
    have ih := joinL_len c m (s :: t) fun a ha => h a (.tail _ ha)
    have := h r (.head _)
    show (r ++ c :: TX.joinL c (s :: t)).length ≤ (t.length + 1 + 1) * (m + 1)
    rw [List.length_append, List.length_cons]
    have e : (s :: t).length = t.length + 1 := rfl
    rw [e] at ih
    have e2 : (t.length + 1 + 1) * (m + 1) = (t.length + 1) * (m + 1) + (m + 1) := Nat.succ_mul _ _
    omega
theorem text_len {n : Nat} {sw : List Nat} (g : Good n sw) : (textS n sw).length ≤ 99 := by
  have e : (textS n sw).length = (textS n sw).cps.toList.length := by simp [Str.length]
  rw [e, text_list]
  have := joinL_len 10 10 ((0 :: sw).map (rowL n)) fun r hr => by
    obtain ⟨z, _, rfl⟩ := List.mem_map.mp hr
    unfold rowL
    rw [List.length_map, List.length_range]
    exact g.n10
  rw [List.length_map, List.length_cons] at this
  have := g.s8
  omega
theorem text_pos {n : Nat} {sw : List Nat} (g : Good n sw) : 1 ≤ (textS n sw).length := by
  have e : (textS n sw).length = (textS n sw).cps.toList.length := by simp [Str.length]
  rw [e, text_list]
  have hr : (rowL n 0).length = n := by
    unfold rowL
    rw [List.length_map, List.length_range]
  have h1 := g.n1
  cases sw with
  | nil =>
    show 1 ≤ (rowL n 0).length
    omega
  | cons a r =>
    show 1 ≤ (rowL n 0 ++ 10 :: TX.joinL 10 (rowL n a :: r.map (rowL n))).length
    rw [List.length_append, hr]
    omega
theorem kind_one (x : Str) : ¬ Builtin.Str.strKind x < Builtin.Str.strKind LF := by
  have e : Builtin.Str.strKind LF = 1 := by decide +kernel
  rw [e]
  unfold Builtin.Str.strKind
  split
  · decide
  · split <;> decide
theorem text_split2 {n : Nat} {sw : List Nat} (g : Good n sw) : Txt.split (textS n sw) LF = (0 :: sw).map (rowS n) := by
  rw [← text_split]
  unfold Txt.split
  have h1 := text_pos g
  have hl : LF.length = 1 := rfl
  have e1 : ¬ (decide ((textS n sw).length < LF.length) || decide (Builtin.Str.strKind (textS n sw) < Builtin.Str.strKind LF)) = true := by
    rw [decide_eq_false (by omega), decide_eq_false (kind_one _)]
    decide
  rw [if_neg e1]
  split
  · rename_i h
    rw [List.isEmpty_iff.mp h]
    unfold Builtin.Str.partsBetween
    simp [StrLaws.sub_whole]
  · rfl
theorem row_signs (n z : Nat) : (decide ((rowS n z).length = n) && (rowS n z).cps.toList.all fun c => c == 46 || c == 35) = true := by
  rw [rowS_len, decide_eq_true rfl, Bool.true_and, rowS_list, List.all_eq_true]
  intro c hc
  obtain ⟨k, _, rfl⟩ := List.mem_map.mp hc
  unfold sg
  split <;> rfl
theorem str_get {zs : List Str} {i : Nat} {x : V} (h : (zs.map V.str)[i]? = some x) : ∃ z, zs[i]? = some z ∧ x = .str z := by
  rw [List.getElem?_map] at h
  cases e : zs[i]? with
  | none => rw [e] at h; cases h
  | some a => rw [e] at h; exact ⟨a, rfl, (Option.some.inj h).symm⟩
theorem cut_one (xs : List V) (h : 1 ≤ xs.length) : cutV xs (some 1) none = xs.drop 1 := by
  unfold cutV
  have e : HT.sIx xs.length 0 (some 1) = 1 := by
    have := HT.sIx_nat xs.length 0 1
    rw [Nat.min_eq_left h] at this
    exact this
  rw [e, HT.sIx_none]
  exact List.take_of_length_le (by rw [List.length_drop]; omega)
section
variable {P : Program} {w : World} {K : PySem.W.Frag} {mg : Str → Option Value} {base : Heap} {C : Addr}
def compWr : Scope := match (defBody sWritten).getD 0 (.Pass ⟨0, 0, 0, 0⟩) with
  | .Return (some (.Call _ [.ListComp _ _ sc _] _ _)) _ => sc
  | _ => defScope sWritten
theorem scWr : FnScope ["house"] ["house"] (defScope sWritten) := ⟨rfl, rfl, rfl, by decide +kernel, rfl, by decide +kernel, by decide +kernel⟩
theorem csWr : CompScope (defScope sWritten) compWr ["house"] "turned" [0] ["house"] := ⟨rfl, by decide +kernel, by decide +kernel, by decide +kernel, by decide +kernel, by decide +kernel, by decide +kernel, by decide +kernel⟩
theorem ok_written {f : Addr} {fd : FuncData} (F : Fun K "written" "written" sWritten f fd) (T : Txt K mg C) (FS : FSw P w K mg base C) (FR : FnAt P w K mg base "row_of" 1 ["count", "lamps"] spRowOf) : FnOk P w K mg base CX0 2 f fd ["house"] (spWritten C) := by
  refine F.ok scWr (fun vs H Q E h => ?_) (fun cdv A outer s H vs Q E hr h => ?_)
  · obtain ⟨p, n, sw, rfl, _⟩ := h
    rfl
  · obtain ⟨p, n, sw, rfl, hh, g, k⟩ := h
    obtain ⟨dx, u, h1, h2⟩ := hh.ob
    have h8 := g.s8
    have h10 := g.n10
    refine ⟨_, pss_one (ps_ret (pe_bm PySem.F.plainAttrs_str PySem.F.slot_str_join PySem.F.type_str_join mt_join pe_str (pa_cons (pe_comp rfl csWr (pi_list (pe_op op_cat (pe_lst (pa_cons pe_int pa_nil)) (pe_mt0 FS T.cl hr (pv 0)))) (fun _ _ _ _ => pts_nil)
      (fun _ _ _ _ => pe_fn FR hr (pa_cons (pe_fldK (K := K) rfl (pv 1) rfl) (pa_cons (pv 0) pa_nil)))) pa_nil))), ?_⟩
    refine ⟨rfl, by show 1 ≤ sizeLine; decide, fun l0 hl0 => ?_⟩
    have s0 := same_upd (o := .lst [V.int 0]) hl0
    refine ⟨_, rfl, p, dx, _, rfl, s0 _ _ h1, sw_no n u, p, n, sw, rfl, hh.same s0, fun l1 hl1 => ?_⟩
    have s1 := same_upd (o := .lst (sw.map nv)) hl1
    refine ⟨l0, l1, _, _, rfl, rfl, s1 _ _ upd_same, upd_same, ?_, fun l2 hl2 => ?_⟩
    · rw [List.length_map]
      exact Nat.le_of_lt (small9 (by show 1 + sw.length ≤ 100; omega))
    have s2 := same_upd (o := .lst ([V.int 0] ++ sw.map nv)) hl2
    have sm := s0.trans (s1.trans s2)
    have hq : (upd (upd (upd H l0 (.lst [V.int 0])) l1 (.lst (sw.map nv))) l2 (.lst ([V.int 0] ++ sw.map nv))) l2 = some (.lst ((0 :: sw).map nv)) := upd_same
    generalize upd (upd (upd H l0 (.lst [V.int 0])) l1 (.lst (sw.map nv))) l2 (.lst ([V.int 0] ++ sw.map nv)) = H3 at sm hq
    refine ⟨l2, rfl, ⟨_, SqL.of hq⟩, fun acc hacc => comp_list (K := K) (a := l2) (xs := (0 :: sw).map nv) (fun i ys Hc => i ≤ (0 :: sw).length ∧ ys = (((0 :: sw).take i).map (rowS n)).map V.str ∧ Same H3 Hc ∧ Hc acc = some (.lst ys)) ⟨Nat.zero_le _, rfl, same_upd hacc, upd_same⟩ ?_ ?_ ?_⟩
    · rintro i ys Hc ⟨hi, _, sc, _⟩
      exact ⟨by rw [List.length_map]; exact hi, SqL.of (sc _ _ hq)⟩
    · rintro i x ys Hc hx ⟨hi, rfl, sc, hac⟩
      obtain ⟨a, ha, rfl⟩ := nv_get hx
      have hilt : i < (0 :: sw).length := (List.getElem?_eq_some_iff.mp ha).1
      refine tTrue_mk ?_
      refine iteT ?_
      refine ⟨_, rfl, p, C, dx, _, _, rfl, sc _ _ (sm _ _ h1), T.cl, T.nL, flds_lamps n u, _, rfl, n, a, rfl, h10, fun H4 s4 => ⟨s4 _ _ hac, ?_, hilt, ?_, fun b o eb => ?_, upd_same⟩⟩
      · rw [List.length_map, List.length_map, List.length_take, List.length_cons]
        exact small9 (by omega)
      · rw [take_snoc ha, List.map_append, List.map_append]
        rfl
      · rw [upd_ne (ne_of_none eb hacc)]
        exact s4 _ _ (sc _ _ eb)
    · rintro ys Hc ⟨_, rfl, sc, hac⟩
      rw [List.length_map, List.take_length] at hac
      refine ⟨LF, acc, (0 :: sw).map (rowS n), rfl, rfl, SqL.of hac, ?_, k Hc (sm.trans sc)⟩
      refine join_ok (fun y hy => ?_) ?_ (by decide)
      · obtain ⟨z, _, rfl⟩ := List.mem_map.mp hy
        rw [rowS_len]
        exact h10
      · rw [List.length_map, List.length_cons]
        omega
abbrev NRd : List Str := ["text", "rows", "count"]
def compR1 : Scope := match (defBody sRead).getD 5 (.Pass ⟨0, 0, 0, 0⟩) with
  | .If (.UnaryOp _ (.Call _ [.ListComp _ _ sc _] _ _) _) _ _ _ => sc
  | _ => defScope sRead
def compR2 : Scope := match (defBody sRead).getD 6 (.Pass ⟨0, 0, 0, 0⟩) with
  | .Return (some (.Call _ [_, .ListComp _ _ sc _] _ _)) _ => sc
  | _ => defScope sRead
theorem scRd : FnScope NRd ["text"] (defScope sRead) := ⟨rfl, rfl, rfl, by decide +kernel, rfl, by decide +kernel, by decide +kernel⟩
theorem csR1 : CompScope (defScope sRead) compR1 NRd "row" [2] ["count"] := ⟨rfl, by decide +kernel, by decide +kernel, by decide +kernel, by decide +kernel, by decide +kernel, by decide +kernel, by decide +kernel⟩
theorem csR2 : CompScope (defScope sRead) compR2 NRd "row" [] [] := ⟨rfl, by decide +kernel, by decide +kernel, by decide +kernel, by decide +kernel, by decide +kernel, by decide +kernel, by decide +kernel⟩
theorem ok_read {f : Addr} {fd : FuncData} (F : Fun K "read" "read" sRead f fd) (T : Txt K mg C) (str : mg "str" = none) (FR : FnAt P w K mg base "row_of" 1 ["count", "lamps"] spRowOf) (FI : FnAt P w K mg base "is_row" 1 ["count", "row"] spIsRow) (FL : FnAt P w K mg base "lamps_of" 1 ["row"] spLampsOf)
    (MH : MkAt P w K mg base "House" C 3 ["self", "lamps", "switches"] (spInit K C)) : FnOk P w K mg base CX0 5 f fd ["text"] (spRead C) := by
  refine F.ok scRd (fun vs H Q E h => ?_) (fun cdv A outer s H vs Q E hr h => ?_)
  · obtain ⟨n, sw, rfl, _⟩ := h
    rfl
  · obtain ⟨n, sw, rfl, g, k⟩ := h
    obtain ⟨tL, mL⟩ := T.mL
    obtain ⟨tS, mS⟩ := T.mS
    have h8 := g.s8
    have h10 := g.n10
    have h1 := g.n1
    have hR : ((0 :: sw).map (rowS n)).length = sw.length + 1 := by rw [List.length_map]; rfl
    refine ⟨_, pss_cons (ps_if (pt_not (pt_val (pe_isi T.isi str PyProof.Rows.boot_str (pv 0)))) pss_never pss_nil)
      (pss_cons (ps_set (i := 1) scRd.nd rfl (Or.inl rfl) (pe_bm PySem.F.plainAttrs_str PySem.F.slot_str_split PySem.F.type_str_split mt_split (pv 0) (pa_cons pe_str pa_nil)))
      (pss_cons (ps_set (i := 2) scRd.nd rfl (Or.inr rfl) (pe_callB call_len_str rfl T.len PySem.boot_len (pa_cons (pe_ix ix_list (pv 1) pe_int (fun _ _ => rfl)) pa_nil)))
      (pss_cons (ps_if (PW.pt (pw_or (pt_not (pt_chain op_le op_le pe_int (pv 2) (pe_glob (v := .int 10) rfl mL ⟨_, rfl⟩))) (pw_or1 (pt_cmpR op_gt (pe_callB call_len_seq rfl T.len PySem.boot_len (pa_cons (pv 1) pa_nil)) (pe_op op_add pe_int (pe_glob (v := .int 8) rfl mS ⟨_, rfl⟩)) (nomark _))))) pss_never pss_nil)
      (pss_cons (ps_if (pt_cmpR op_ne (pe_ix ix_list (pv 1) pe_int (fun _ _ => rfl)) (pe_fn FR hr (pa_cons (pv 2) (pa_cons pe_int pa_nil))) (nomark _)) pss_never pss_nil)
      (pss_cons (ps_if (pt_not (pt_val (pe_callB (call_all rfl) rfl T.all PyProof.Rows.boot_all (pa_cons (pe_comp rfl csR1 (pi_list (pv 1)) (fun _ _ _ _ => pts_nil) (fun _ _ _ _ => pe_fn FI hr (pa_cons (pv 1) (pa_cons (pv 0) pa_nil)))) pa_nil)))) pss_never pss_nil)
      (pss_one (ps_ret (pe_mk MH hr (pa_cons (pv 2) (pa_cons (pe_comp rfl csR2 (pi_list (pe_slice sl_list (pv 1) (po_some pe_int) po_none)) (fun _ _ _ _ => pts_nil) (fun _ _ _ _ => pe_fn FL hr (pa_cons (pv 0) pa_nil))) pa_nil)))))))))), ?_⟩
    refine ⟨_, rfl, .str _, "str", _, true, rfl, .str _, by rfl, _, rfl, ?_⟩
    refine iteF ?_
    refine ⟨_, rfl, rfl, textS n sw, LF, rfl, rfl, rfl, Nat.le_of_lt (small9 (by have := text_len g; omega)), ?_, fun l hl => ?_⟩
    · rw [text_split]
      exact Nat.le_of_lt (small9 (by omega))
    rw [text_split2 g]
    have s1 := same_upd (o := .lst (((0 :: sw).map (rowS n)).map V.str)) hl
    have hl1 : (upd H l (.lst (((0 :: sw).map (rowS n)).map V.str))) l = some (.lst (((0 :: sw).map (rowS n)).map V.str)) := upd_same
    generalize upd H l (.lst (((0 :: sw).map (rowS n)).map V.str)) = H1 at s1 hl1
    refine ⟨_, rfl, l, _, 0, .str (rowS n 0), rfl, rfl, SqL.of hl1, atI_nat (j := 0) rfl, rowS n 0, rfl, Nat.le_of_lt (small9 (by rw [rowS_len]; omega)), ?_⟩
    rw [rowS_len]
    refine ⟨_, rfl, 1, n, rfl, rfl, _, rfl, ?_⟩
    refine iteP (by omega) ?_
    refine ⟨n, 10, rfl, rfl, _, rfl, ?_⟩
    refine iteNS (by omega) ?_
    refine ⟨_, rfl, l, _, rfl, .inl (SqL.of hl1), _, _, rfl, rfl, _, _, rfl, rfl, _, rfl, ?_⟩
    refine iteN (by rw [List.length_map, hR]; omega) ?_
    refine ⟨_, rfl, l, _, 0, .str (rowS n 0), rfl, rfl, SqL.of hl1, atI_nat (j := 0) rfl, _, rfl, n, 0, rfl, h10, fun H2 s2 => ⟨rfl, _, rfl, ?_⟩⟩
    refine iteNS rfl ?_
    have hl2 := s2 _ _ hl1
    refine ⟨_, rfl, l, rfl, ⟨_, SqL.of hl2⟩, fun acc hacc => comp_list (K := K) (a := l) (xs := ((0 :: sw).map (rowS n)).map V.str) (fun i ys Hc => i ≤ sw.length + 1 ∧ ys = (List.replicate i true).map V.bl ∧ Same H2 Hc ∧ Hc acc = some (.lst ys)) ⟨Nat.zero_le _, rfl, same_upd hacc, upd_same⟩ ?_ ?_ ?_⟩
    · rintro i ys Hc ⟨hi, _, sc, _⟩
      exact ⟨by rw [List.length_map, hR]; exact hi, SqL.of (sc _ _ hl2)⟩
    · rintro i x ys Hc hx ⟨hi, rfl, sc, hac⟩
      obtain ⟨z, hz, rfl⟩ := str_get hx
      have hilt : i < ((0 :: sw).map (rowS n)).length := (List.getElem?_eq_some_iff.mp hz).1
      obtain ⟨b, _, rfl⟩ := List.mem_map.mp (List.mem_of_getElem? hz)
      refine tTrue_mk ?_
      refine iteT ?_
      refine ⟨_, rfl, _, rfl, n, rowS n b, rfl, by rw [rowS_len]; omega, fun H4 s4 => ⟨s4 _ _ hac, ?_, by omega, ?_, fun b' o eb => ?_, upd_same⟩⟩
      · rw [List.length_map, List.length_replicate]
        exact small9 (by omega)
      · rw [row_signs, List.replicate_succ', List.map_append]
        rfl
      · rw [upd_ne (ne_of_none eb hacc)]
        exact s4 _ _ (sc _ _ eb)
    · rintro ys H3 ⟨_, rfl, s3, hac⟩
      refine ⟨acc, List.replicate (((0 :: sw).map (rowS n)).map V.str).length true, rfl, SqL.of hac, _, rfl, ?_⟩
      refine iteB (by simp) ?_
      have hl3 := s3 _ _ hl2
      refine ⟨_, rfl, _, rfl, 1, rfl, l, _, rfl, SqL.of hl3, fun c hc => ?_⟩
      rw [cut_one _ (by rw [List.length_map, hR]; omega)]
      have ed : (((0 :: sw).map (rowS n)).map V.str).drop 1 = (sw.map (rowS n)).map V.str := rfl
      rw [ed]
      have s4 := same_upd (o := .lst ((sw.map (rowS n)).map V.str)) hc
      have hc4 : (upd H3 c (.lst ((sw.map (rowS n)).map V.str))) c = some (.lst ((sw.map (rowS n)).map V.str)) := upd_same
      generalize upd H3 c (.lst ((sw.map (rowS n)).map V.str)) = H4 at s4 hc4
      refine ⟨c, rfl, ⟨_, SqL.of hc4⟩, fun acc2 hacc2 => comp_list (K := K) (a := c) (xs := (sw.map (rowS n)).map V.str) (fun i ys Hc => i ≤ sw.length ∧ ys = (sw.take i).map nv ∧ Same H4 Hc ∧ Hc acc2 = some (.lst ys)) ⟨Nat.zero_le _, rfl, same_upd hacc2, upd_same⟩ ?_ ?_ ?_⟩
      · rintro i ys Hc ⟨hi, _, sc, _⟩
        exact ⟨by rw [List.length_map, List.length_map]; exact hi, SqL.of (sc _ _ hc4)⟩
      · rintro i x ys Hc hx ⟨hi, rfl, sc, hac'⟩
        obtain ⟨z, hz, rfl⟩ := str_get hx
        rw [List.getElem?_map] at hz
        cases eb : sw[i]? with
        | none => rw [eb] at hz; cases hz
        | some b =>
          rw [eb] at hz
          cases hz
          have hilt : i < sw.length := (List.getElem?_eq_some_iff.mp eb).1
          refine tTrue_mk ?_
          refine iteT ?_
          refine ⟨_, rfl, rowS n b, rfl, by rw [rowS_len]; exact h10, fun H5 s5 => ⟨s5 _ _ hac', ?_, hilt, ?_, fun b' o eb' => ?_, upd_same⟩⟩
          · rw [List.length_map, List.length_take]
            exact small9 (by omega)
          · rw [rowS_list, sumL_rowL (g.lt b (List.mem_of_getElem? eb)), take_snoc eb, List.map_append]
            rfl
          · rw [upd_ne (ne_of_none eb' hacc2)]
            exact s5 _ _ (sc _ _ eb')
      · rintro ys H5 ⟨_, rfl, s5, hac5⟩
        rw [List.length_map, List.length_map, List.take_length] at hac5
        have sF := s1.trans (s2.trans (s3.trans (s4.trans s5)))
        refine fun x dx nx ndx nex => make_house nx ndx nex hac5 g fun H6 hh6 s6 => ⟨rfl, k x H6 (sF.trans s6) (sF.free nx) hh6⟩
end
end Sw
set_option maxHeartbeats 4000000
namespace Sw
open PySem L2
def rowsL (x : Str) : List (List Nat) := TX.spl 10 x.cps.toList
def hdL (x : Str) : List Nat := (rowsL x).headD []
structure Writes (x : Str) : Prop where
  n1 : 1 ≤ (hdL x).length
  n10 : (hdL x).length ≤ 10
  m9 : (rowsL x).length ≤ 9
  dots : ∀ c ∈ hdL x, c = 46
  len : ∀ r ∈ rowsL x, r.length = (hdL x).length
  sig : ∀ r ∈ rowsL x, ∀ c ∈ r, c = 46 ∨ c = 35
theorem join_spl (c : Nat) : ∀ l : List Nat, TX.joinL c (TX.spl c l) = l
  | [] => rfl
  | d :: r => by
    have ih := join_spl c r
    have hne := TX.spl_ne c r
    show TX.joinL c (if d = c then [] :: TX.spl c r else match TX.spl c r with
      | p :: q => (d :: p) :: q
      | [] => [[d]]) = d :: r
    cases e : TX.spl c r with
    | nil => exact absurd e hne
    | cons p q =>
      rw [e] at ih
      by_cases hd : d = c
      · rw [if_pos hd]
        show [] ++ c :: TX.joinL c (p :: q) = d :: r
        rw [ih, hd]
        rfl
      · rw [if_neg hd]
        show TX.joinL c ((d :: p) :: q) = d :: r
        cases q with
        | nil =>
          show d :: p = d :: r
          rw [show p = r from ih]
        | cons s t =>
          show (d :: p) ++ c :: TX.joinL c (s :: t) = d :: r
          rw [List.cons_append]
          exact congrArg (List.cons d) ih
theorem spl_len (c : Nat) : ∀ l : List Nat, (TX.spl c l).length ≤ l.length + 1
  | [] => Nat.le_refl _
  | d :: r => by
    have ih := spl_len c r
    show (if d = c then [] :: TX.spl c r else match TX.spl c r with
      | p :: q => (d :: p) :: q
      | [] => [[d]]).length ≤ r.length + 1 + 1
    by_cases hd : d = c
    · rw [if_pos hd]
      show (TX.spl c r).length + 1 ≤ _
      omega
    · rw [if_neg hd]
      cases e : TX.spl c r with
      | nil => show 1 ≤ _; omega
      | cons p q =>
        rw [e] at ih
        have : q.length + 1 ≤ r.length + 1 := ih
        show q.length + 1 ≤ _
        omega
theorem spl_part (c : Nat) : ∀ (l : List Nat) (p : List Nat), p ∈ TX.spl c l → p.length ≤ l.length
  | [], p, h => by
    have : p = [] := by simpa [TX.spl] using h
    subst this
    exact Nat.le_refl _
  | d :: r, p, h => by
    have h' : p ∈ (if d = c then [] :: TX.spl c r else match TX.spl c r with
      | p :: q => (d :: p) :: q
      | [] => [[d]]) := h
    have hl : (d :: r).length = r.length + 1 := rfl
    by_cases hd : d = c
    · rw [if_pos hd] at h'
      rcases List.mem_cons.mp h' with rfl | h2
      · exact Nat.zero_le _
      · have := spl_part c r p h2
        omega
    · rw [if_neg hd] at h'
      cases e : TX.spl c r with
      | nil => exact absurd e (TX.spl_ne c r)
      | cons u q =>
        rw [e] at h'
        rcases List.mem_cons.mp h' with rfl | h2
        · have := spl_part c r u (by rw [e]; exact .head _)
          show u.length + 1 ≤ _
          omega
        · have := spl_part c r p (by rw [e]; exact .tail _ h2)
          omega
theorem rows_cons (x : Str) : rowsL x = hdL x :: (rowsL x).tail := by
  unfold hdL
  cases e : rowsL x with
  | nil => exact absurd e (TX.spl_ne 10 _)
  | cons p q => rfl
theorem str_len (x : Str) : x.length = x.cps.toList.length := by simp [Str.length]
theorem rows_len (x : Str) : (rowsL x).length ≤ x.length + 1 := by rw [str_len]; exact spl_len 10 _
theorem row_len {x : Str} {r : List Nat} (h : r ∈ rowsL x) : r.length ≤ x.length := by rw [str_len]; exact spl_part 10 _ r h
theorem mkS_list (l : List Nat) : (TX.mkS l).cps.toList = l := by simp [TX.mkS]
theorem mkS_len (l : List Nat) : (TX.mkS l).length = l.length := by rw [str_len, mkS_list]
theorem split_parts (x : Str) : Builtin.Str.partsBetween x (Builtin.Str.occurrences x LF 0 x.length (x.length + 1)) LF.length = (rowsL x).map TX.mkS := TX.split_eq x 10
theorem split_all (x : Str) : Txt.split x LF = (rowsL x).map TX.mkS := by
  by_cases h0 : x.length = 0
  · have e : x.cps.toList = [] := List.eq_nil_of_length_eq_zero (by rw [← str_len]; exact h0)
    have ex : x = TX.mkS [] := by rw [← e]; exact (TX.mkS_toList x).symm
    have er : rowsL x = [[]] := by unfold rowsL; rw [e]; rfl
    rw [er]
    unfold Txt.split
    rw [if_pos (by rw [h0]; rfl)]
    show [x] = [TX.mkS []]
    rw [ex]
  · rw [← split_parts]
    unfold Txt.split
    have hl : LF.length = 1 := rfl
    have e1 : ¬ (decide (x.length < LF.length) || decide (Builtin.Str.strKind x < Builtin.Str.strKind LF)) = true := by
      rw [decide_eq_false (by omega), decide_eq_false (kind_one _)]
      decide
    rw [if_neg e1]
    split
    · rename_i h
      rw [List.isEmpty_iff.mp h]
      unfold Builtin.Str.partsBetween
      simp [StrLaws.sub_whole]
    · rfl
theorem sumL_shift : ∀ (r : List Nat) (k : Nat), sumL (k + 1) r = 2 * sumL k r
  | [], _ => rfl
  | c :: r, k => by
    show (if c = 35 then 2 ^ (k + 1) else 0) + sumL (k + 1 + 1) r = 2 * ((if c = 35 then 2 ^ k else 0) + sumL (k + 1) r)
    rw [sumL_shift r (k + 1), Nat.mul_add]
    split
    · rw [Nat.pow_succ, Nat.mul_comm (2 ^ k) 2]
    · rfl
theorem sumL_cons (c : Nat) (r : List Nat) : sumL 0 (c :: r) = (if c = 35 then 1 else 0) + 2 * sumL 0 r := by
  show (if c = 35 then 2 ^ 0 else 0) + sumL (0 + 1) r = _
  rw [sumL_shift, Nat.pow_zero]
theorem sumL_lt : ∀ r : List Nat, sumL 0 r < 2 ^ r.length
  | [] => by show 0 < 1; decide
  | c :: r => by
    have ih := sumL_lt r
    rw [sumL_cons, List.length_cons, Nat.pow_succ]
    split <;> omega
theorem row_sum : ∀ r : List Nat, (∀ c ∈ r, c = 46 ∨ c = 35) → rowL r.length (sumL 0 r) = r
  | [], _ => rfl
  | c :: r, h => by
    have ih := row_sum r fun d hd => h d (.tail _ hd)
    have hc := h c (.head _)
    unfold rowL at ih ⊢
    rw [List.length_cons, List.range_succ_eq_map, List.map_cons, List.map_map]
    have e0 : sg ((sumL 0 (c :: r)).testBit 0) = c := by
      rw [sumL_cons, Nat.testBit_zero]
      rcases hc with rfl | rfl
      · have : ((if 46 = 35 then 1 else 0) + 2 * sumL 0 r) % 2 = 0 := by rw [if_neg (by decide)]; omega
        rw [this]
        rfl
      · have : ((if 35 = 35 then 1 else 0) + 2 * sumL 0 r) % 2 = 1 := by rw [if_pos rfl]; omega
        rw [this]
        rfl
    have e1 : ((List.range r.length).map ((fun k => sg ((sumL 0 (c :: r)).testBit k)) ∘ Nat.succ)) = (List.range r.length).map fun k => sg ((sumL 0 r).testBit k) := by
      refine List.map_congr_left fun k _ => ?_
      show sg ((sumL 0 (c :: r)).testBit (k + 1)) = _
      rw [Nat.testBit_succ, sumL_cons]
      have : ((if c = 35 then 1 else 0) + 2 * sumL 0 r) / 2 = sumL 0 r := by split <;> omega
      rw [this]
    rw [e0, e1, ih]
theorem row_dots {r : List Nat} (h : ∀ c ∈ r, c = 46) : rowL r.length 0 = r := by
  have e : sumL 0 r = 0 := by
    induction r with
    | nil => rfl
    | cons c r ih =>
      rw [sumL_cons, ih fun d hd => h d (.tail _ hd), h c (.head _)]
      rfl
  have := row_sum r fun c hc => .inl (h c hc)
  rw [e] at this
  exact this
theorem dots_row {n : Nat} {r : List Nat} (h : rowL n 0 = r) : ∀ c ∈ r, c = 46 := fun c hc => by
  subst h
  obtain ⟨k, _, e⟩ := List.mem_map.mp hc
  rw [Nat.zero_testBit] at e
  exact e.symm
theorem writes_text {x : Str} (w : Writes x) : ∃ n sw, Good n sw ∧ textS n sw = x := by
  refine ⟨(hdL x).length, (rowsL x).tail.map (sumL 0), ⟨w.n1, w.n10, ?_, fun a ha => ?_⟩, ?_⟩
  · have h1 := w.m9
    rw [rows_cons x, List.length_cons] at h1
    rw [List.length_map]
    omega
  · obtain ⟨r, hr, rfl⟩ := List.mem_map.mp ha
    have hr' : r ∈ rowsL x := by rw [rows_cons x]; exact .tail _ hr
    rw [← w.len r hr']
    exact sumL_lt r
  · have e : (0 :: (rowsL x).tail.map (sumL 0)).map (rowL (hdL x).length) = rowsL x := by
      rw [List.map_cons, List.map_map, row_dots w.dots]
      have e2 : (rowsL x).tail.map (rowL (hdL x).length ∘ sumL 0) = (rowsL x).tail := by
        refine (List.map_congr_left fun r hr => ?_).trans (List.map_id _)
        have hr' : r ∈ rowsL x := by rw [rows_cons x]; exact .tail _ hr
        show rowL (hdL x).length (sumL 0 r) = r
        rw [← w.len r hr']
        exact row_sum r (w.sig r hr')
      rw [e2]
      exact (rows_cons x).symm
    have h2 := text_list (hdL x).length ((rowsL x).tail.map (sumL 0))
    rw [e, show TX.joinL 10 (rowsL x) = x.cps.toList from join_spl 10 _] at h2
    rw [← TX.mkS_toList (textS _ _), h2, TX.mkS_toList]
end Sw
set_option maxHeartbeats 4000000
namespace Sw
open PySem L2
abbrev sRefused : Stmt := top 28
abbrev sWrites : Stmt := top 29
abbrev sRight : Stmt := top 30
abbrev sOther : Stmt := top 31
structure TxX (K : PySem.W.Frag) (mg : Str → Option Value) (C0 CH CL CP CN CT : Addr) : Prop where
  m0 : mg "LampError" = some (.ref C0)
  mH : mg "BadHouse" = some (.ref CH)
  mL : mg "BadLamps" = some (.ref CL)
  mP : mg "BadPress" = some (.ref CP)
  mN : mg "NoSwitch" = some (.ref CN)
  mT : mg "BadText" = some (.ref CT)
  z : ExcC K CT
  x0 : PySem.W.exmOne K (.ref CT) (.ref C0) = some true
  kH : PySem.W.kitOne K (.ref CT) (.ref CH) = some false
  kL : PySem.W.kitOne K (.ref CT) (.ref CL) = some false
  kP : PySem.W.kitOne K (.ref CT) (.ref CP) = some false
  kN : PySem.W.kitOne K (.ref CT) (.ref CN) = some false
  kT : PySem.W.kitOne K (.ref CT) (.ref CT) = some true
  kV : PySem.W.kitOne K (.ref CT) (.type "ValueError") = some true
  ve : mg "ValueError" = none
  any : mg "any" = none
def NoText (K : PySem.W.Frag) (H : Hp) (v : V) : Prop := (∃ t, TyOf K H v t ∧ PySem.W.kitOne K t (.type "str") = some false) ∨ ∃ x : Str, v = .str x ∧ x.length ≤ 200 ∧ ¬ Writes x
def spReadX (K : PySem.W.Frag) (CT : Addr) : Sp := fun vs H _ E => ∃ v, vs = [v] ∧ NoText K H v ∧ ∀ H', Same H H' → E (.ref CT) none H'
section
variable {P : Program} {w : World} {K : PySem.W.Frag} {mg : Str → Option Value} {base : Heap} {C C0 CH CL CP CN CT : Addr}
theorem ok_readX {f : Addr} {fd : FuncData} (F : Fun K "read" "read" sRead f fd) (T : Txt K mg C) (TX' : TxX K mg C0 CH CL CP CN CT) (str : mg "str" = none) (FR : FnAt P w K mg base "row_of" 1 ["count", "lamps"] spRowOf) (FI : FnAt P w K mg base "is_row" 1 ["count", "row"] spIsRow) :
    FnOk P w K mg base (CXE P w) 5 f fd ["text"] (spReadX K CT) := by
  refine F.okE scRd (fun vs H Q E h => ?_) (fun cdv A outer s H vs Q E hr h => ?_)
  · obtain ⟨v, rfl, _⟩ := h
    rfl
  · obtain ⟨v, rfl, hv, k⟩ := h
    obtain ⟨tL, mL⟩ := T.mL
    obtain ⟨tS, mS⟩ := T.mS
    refine ⟨_, pss_cons (ps_if (pt_not (pt_val (pe_isi T.isi str PyProof.Rows.boot_str (pv 0)))) (pss_one (ps_raise TX'.z TX'.mT rfl)) pss_nil)
      (pss_cons (ps_set (i := 1) scRd.nd rfl (Or.inl rfl) (pe_bm PySem.F.plainAttrs_str PySem.F.slot_str_split PySem.F.type_str_split mt_split (pv 0) (pa_cons pe_str pa_nil)))
      (pss_cons (ps_set (i := 2) scRd.nd rfl (Or.inr rfl) (pe_callB call_len_str rfl T.len PySem.boot_len (pa_cons (pe_ix ix_list (pv 1) pe_int (fun _ _ => rfl)) pa_nil)))
      (pss_cons (ps_if (PW.pt (pw_or (pt_not (pt_chain op_le op_le pe_int (pv 2) (pe_glob (v := .int 10) rfl mL ⟨_, rfl⟩))) (pw_or1 (pt_cmpR op_gt (pe_callB call_len_seq rfl T.len PySem.boot_len (pa_cons (pv 1) pa_nil)) (pe_op op_add pe_int (pe_glob (v := .int 8) rfl mS ⟨_, rfl⟩)) (nomark _))))) (pss_one (ps_raise TX'.z TX'.mT rfl)) pss_nil)
      (pss_cons (ps_if (pt_cmpR op_ne (pe_ix ix_list (pv 1) pe_int (fun _ _ => rfl)) (pe_fn FR hr (pa_cons (pv 2) (pa_cons pe_int pa_nil))) (nomark _)) (pss_one (ps_raise TX'.z TX'.mT rfl)) pss_nil)
      (pss_cons (ps_if (pt_not (pt_val (PE.nox (pe_callB (call_all rfl) rfl T.all PyProof.Rows.boot_all (pa_cons (pe_comp rfl csR1 (pi_list (pv 1)) (fun _ _ _ _ => pts_nil) (fun _ _ _ _ => pe_fn FI hr (pa_cons (pv 1) (pa_cons (pv 0) pa_nil)))) pa_nil))))) (pss_one (ps_raise TX'.z TX'.mT rfl)) pss_nil)
      (pss_one ps_never)))))), ?_⟩
    rcases hv with ⟨t, ty, e⟩ | ⟨x, rfl, hx, nw⟩
    · refine ⟨_, rfl, v, "str", t, false, rfl, ty, e, _, rfl, ?_⟩
      refine iteT ?_
      exact k _ (Same.refl _)
    refine ⟨_, rfl, .str _, "str", _, true, rfl, .str _, by rfl, _, rfl, ?_⟩
    refine iteF ?_
    have hrl := rows_len x
    refine ⟨_, rfl, rfl, x, LF, rfl, rfl, rfl, Nat.le_of_lt (small1000 (by omega)), ?_, fun l hl => ?_⟩
    · rw [split_parts, List.length_map]
      exact Nat.le_of_lt (small1000 (by omega))
    rw [split_all]
    have s1 := same_upd (o := .lst (((rowsL x).map TX.mkS).map V.str)) hl
    have hl1 : (upd H l (.lst (((rowsL x).map TX.mkS).map V.str))) l = some (.lst (((rowsL x).map TX.mkS).map V.str)) := upd_same
    generalize upd H l (.lst (((rowsL x).map TX.mkS).map V.str)) = H1 at s1 hl1
    have h0 : (((rowsL x).map TX.mkS).map V.str)[0]? = some (.str (TX.mkS (hdL x))) := by rw [rows_cons x]; rfl
    have hhd : (hdL x).length ≤ 200 := by
      have := row_len (x := x) (r := hdL x) (by rw [rows_cons x]; exact .head _)
      omega
    refine ⟨_, rfl, l, _, 0, .str (TX.mkS (hdL x)), rfl, rfl, SqL.of hl1, atI_nat (j := 0) h0, TX.mkS (hdL x), rfl, Nat.le_of_lt (small1000 (by rw [mkS_len]; omega)), ?_⟩
    rw [mkS_len]
    refine ⟨_, rfl, 1, _, rfl, rfl, _, rfl, ?_⟩
    by_cases hA : 1 ≤ (hdL x).length
    case neg =>
      refine iteN (by omega) ?_
      refine ⟨_, rfl, ?_⟩
      refine iteT ?_
      refine iteT ?_
      exact k _ s1
    refine iteP (by omega) ?_
    refine ⟨_, 10, rfl, rfl, _, rfl, ?_⟩
    by_cases hB : (hdL x).length ≤ 10
    case neg =>
      refine iteBT (by rw [decide_eq_false (by omega)]; rfl) ?_
      refine iteT ?_
      exact k _ s1
    refine iteNS (by omega) ?_
    refine ⟨_, rfl, l, _, rfl, .inl (SqL.of hl1), _, _, rfl, rfl, _, _, rfl, rfl, _, rfl, ?_⟩
    by_cases hM : (rowsL x).length ≤ 9
    case neg =>
      refine iteP (by rw [List.length_map, List.length_map]; omega) ?_
      exact k _ s1
    refine iteN (by rw [List.length_map, List.length_map]; omega) ?_
    refine ⟨_, rfl, l, _, 0, .str (TX.mkS (hdL x)), rfl, rfl, SqL.of hl1, atI_nat (j := 0) h0, _, rfl, (hdL x).length, 0, rfl, hB, fun H2 s2 => ⟨rfl, _, rfl, ?_⟩⟩
    by_cases hD : ∀ c ∈ hdL x, c = 46
    case neg =>
      refine iteBT ?_ ?_
      · have : ¬ (V.str (TX.mkS (hdL x)) = V.str (rowS (hdL x).length 0)) := fun z => hD (dots_row (n := (hdL x).length) (by
          have z2 := congrArg (fun y : Str => y.cps.toList) (V.str.inj z)
          rw [mkS_list, rowS_list] at z2
          exact z2.symm))
        rw [decide_eq_false this]
        rfl
      · exact k _ (s1.trans s2)
    refine iteNS (congrArg V.str ?_) ?_
    · rw [← TX.mkS_toList (rowS (hdL x).length 0), rowS_list, row_dots hD]
    have hl2 := s2 _ _ hl1
    refine ⟨_, rfl, l, rfl, ⟨_, SqL.of hl2⟩, fun acc hacc => comp_list (K := K) (a := l) (xs := ((rowsL x).map TX.mkS).map V.str) (fun i ys Hc => i ≤ (rowsL x).length ∧ ys = (((rowsL x).take i).map fun r => (decide (r.length = (hdL x).length) && r.all fun c => c == 46 || c == 35)).map V.bl ∧ Same H2 Hc ∧ Hc acc = some (.lst ys)) ⟨Nat.zero_le _, rfl, same_upd hacc, upd_same⟩ ?_ ?_ ?_⟩
    · rintro i ys Hc ⟨hi, _, sc, _⟩
      exact ⟨by rw [List.length_map, List.length_map]; exact hi, SqL.of (sc _ _ hl2)⟩
    · rintro i y ys Hc hy ⟨hi, rfl, sc, hac⟩
      obtain ⟨z, hz, rfl⟩ := str_get hy
      rw [List.getElem?_map] at hz
      cases er : (rowsL x)[i]? with
      | none => rw [er] at hz; cases hz
      | some r =>
        rw [er] at hz
        cases hz
        have hilt : i < (rowsL x).length := (List.getElem?_eq_some_iff.mp er).1
        have hrl2 := row_len (x := x) (List.mem_of_getElem? er)
        refine tTrue_mk ?_
        refine iteT ?_
        refine ⟨_, rfl, _, rfl, (hdL x).length, TX.mkS r, rfl, by rw [mkS_len]; omega, fun H4 s4 => ⟨s4 _ _ hac, ?_, by omega, ?_, fun b' o eb => ?_, upd_same⟩⟩
        · rw [List.length_map, List.length_map, List.length_take]
          exact small9 (by omega)
        · rw [take_snoc er, List.map_append, List.map_append, mkS_len, mkS_list]
          rfl
        · rw [upd_ne (ne_of_none eb hacc)]
          exact s4 _ _ (sc _ _ eb)
    · rintro ys H3 ⟨_, rfl, s3, hac⟩
      rw [List.length_map, List.length_map, List.take_length] at hac
      refine ⟨acc, _, rfl, SqL.of hac, _, rfl, ?_⟩
      refine iteBT ?_ (k _ (s1.trans (s2.trans s3)))
      cases ea : ((rowsL x).map fun r => (decide (r.length = (hdL x).length) && r.all fun c => c == 46 || c == 35)).all id with
      | false => rfl
      | true =>
        refine absurd ⟨hA, hB, hM, hD, fun r hr => ?_, fun r hr c hc => ?_⟩ nw
        · rw [List.all_map, List.all_eq_true] at ea
          have := ea r hr
          exact of_decide_eq_true (Bool.and_eq_true_iff.mp this).1
        · rw [List.all_map, List.all_eq_true] at ea
          have := List.all_eq_true.mp (Bool.and_eq_true_iff.mp (ea r hr)).2 c hc
          simpa using this
end
end Sw
set_option maxHeartbeats 4000000
namespace Sw
open PySem L2
def FnAtE (P : Program) (w : World) (K : PySem.W.Frag) (mg : Str → Option Value) (base : Heap) (x : Str) (k : Nat) (ps : List Str) (sp : Sp) : Prop :=
  ∃ f fd, mg x = some (.ref f) ∧ PySem.W.keepIn K (.ref f) = true ∧ Binds K fd ps [] ∧ FnOk P w K mg base (CXE P w) k f fd ps sp
def spRefused (K : PySem.W.Frag) : Sp := fun vs H Q _ => ∃ v, vs = [v] ∧ NoText K H v ∧ ∀ H', Same H H' → Q (.bl true) H'
def spWrites : Sp := fun vs H Q _ => ∃ x : Str, vs = [.str x] ∧ x.length ≤ 200 ∧ ∀ b : Bool, (b = true ↔ Writes x) → ∀ H', Same H H' → Q (.bl b) H'
def spRight : Sp := fun vs H Q _ => ∃ x : Str, vs = [.str x] ∧ x.length ≤ 200 ∧ ∀ H', Same H H' → Q (.bl true) H'
def spOther : Sp := fun vs H Q _ => ∃ (x : Str) (c : Int) (k : Nat), vs = [.str x, .int c, nv k] ∧ x.length ≤ 99 ∧ ∀ (y : Str) H', y.length ≤ 200 → Same H H' → Q (.str y) H'
section
variable {P : Program} {w : World} {K : PySem.W.Frag} {mg : Str → Option Value} {base : Heap} {C C0 CH CL CP CN CT : Addr}
abbrev NRf : List Str := ["_law_text", "error", "_law_others"]
theorem scRf : FnScope NRf ["_law_text"] (defScope sRefused) := ⟨rfl, rfl, rfl, by decide +kernel, rfl, by decide +kernel, by decide +kernel⟩
theorem ok_refused {f : Addr} {fd : FuncData} (F : Fun K "_law_refused" "_law_refused" sRefused f fd) (T : Txt K mg C) (Z : TxX K mg C0 CH CL CP CN CT) (FR : FnAtE P w K mg base "read" 5 ["text"] (spReadX K CT)) :
    FnOk P w K mg base CX0 6 f fd ["_law_text"] (spRefused K) := by
  refine F.ok scRf (fun vs H Q E h => ?_) (fun cdv A outer s H vs Q E hr h => ?_)
  · obtain ⟨v, rfl, _⟩ := h
    rfl
  · obtain ⟨v, rfl, hv, k⟩ := h
    obtain ⟨fr, frd, hm, hkp, hb, G⟩ := FR
    refine ⟨_, pss_cons (ps_try (i := 1) G hr rfl hm hkp hb (pa_cons (pv 0) pa_nil) rfl Z.m0 scRf.nd rfl rfl rfl rfl (fun a =>
      pss_cons (ps_set (i := 2) scRf.nd rfl (Or.inl rfl) (pe_lst (pa_cons (pe_isiX T.isi Z.mH (pv 1)) (pa_cons (pe_isiX T.isi Z.mL (pv 1)) (pa_cons (pe_isiX T.isi Z.mP (pv 1)) pa_nil)))))
      (pss_cons (ps_if (PW.pt (pw_or (pt_val (pe_callB (call_anyH (a := a) rfl) rfl Z.any PyProof.Rows.boot_any (pa_cons (pv 2) pa_nil))) (pw_or1 (pt_val (pe_isiX T.isi Z.mN (pv 1)))))) (pss_one (ps_ret pe_bl)) pss_nil)
      (pss_one (ps_ret (pe_and (pe_isiX T.isi Z.mT (pv 1)) (pe_one (pe_isiT T.isi Z.ve PyProof.Rows.Boot.«ValueError» (pv 1)))))))))
      (pss_one (ps_ret pe_bl)), ?_⟩
    refine ⟨_, rfl, v, rfl, hv, fun H1 s1 => ⟨CT, rfl, Z.x0, fun a ha => ?_⟩⟩
    have s2 := same_upd (o := .ext (ExcObj a CT)) ha
    have hx : (upd H1 a (.ext (ExcObj a CT))) a = some (.ext (ExcObj a CT)) := upd_same
    generalize upd H1 a (.ext (ExcObj a CT)) = H2 at s2 hx
    refine ⟨_, rfl, a, CT, CH, false, rfl, hx, Z.z, Z.kH, _, rfl, a, CT, CL, false, rfl, hx, Z.z, Z.kL, _, rfl, a, CT, CP, false, rfl, hx, Z.z, Z.kP, by show 3 ≤ sizeLine; decide, fun l hl => ?_⟩
    have s3 := same_upd (o := .lst [.bl false, .bl false, .bl false]) hl
    have hx3 := s3 _ _ hx
    refine ⟨_, rfl, l, CT, [false, false, false], rfl, SqL.of upd_same, hx3, _, rfl, ?_⟩
    refine iteF ?_
    refine ⟨_, rfl, a, CT, CN, false, rfl, hx3, Z.z, Z.kN, _, rfl, ?_⟩
    refine iteF ?_
    refine ⟨_, rfl, a, CT, CT, true, rfl, hx3, Z.z, Z.kT, _, rfl, ?_⟩
    refine iteT ?_
    exact ⟨_, rfl, a, CT, "ValueError", true, rfl, hx3, Z.z, Z.kV, k _ (s1.trans (s2.trans s3))⟩
abbrev NWr : List Str := ["_law_text", "_law_rows", "_law_at"]
def compWt : Scope := match (defBody sWrites).getD 2 (.Pass ⟨0, 0, 0, 0⟩) with
  | .For _ _ body _ _ => (match body.getD 1 (.Pass ⟨0, 0, 0, 0⟩) with
    | .If (.Call _ [.ListComp _ _ sc _] _ _) _ _ _ => sc
    | _ => defScope sWrites)
  | _ => defScope sWrites
theorem scWt : FnScope NWr ["_law_text"] (defScope sWrites) := ⟨rfl, rfl, rfl, by decide +kernel, rfl, by decide +kernel, by decide +kernel⟩
theorem csWt : CompScope (defScope sWrites) compWt NWr "_law_sign" [2] ["_law_at"] := ⟨rfl, by decide +kernel, by decide +kernel, by decide +kernel, by decide +kernel, by decide +kernel, by decide +kernel, by decide +kernel⟩
def badS (i c : Nat) : Bool := !decide (c = 46) && (!decide (c = 35) || decide (i = 0))
theorem sign_dec (c d : Nat) (z : Str) (h : z.cps.toList = [d]) : decide (V.str ⟨#[c]⟩ = V.str z) = decide (c = d) := by
  refine decide_eq_decide.mpr ⟨fun e => ?_, fun e => ?_⟩
  · have := congrArg (fun y : Str => y.cps.toList) (V.str.inj e)
    rw [h] at this
    have h2 : [c] = [d] := this
    simpa using h2
  · subst e
    rw [← TX.mkS_toList z, h]
    rfl
theorem ok_writes {f : Addr} {fd : FuncData} (F : Fun K "_law_writes" "_law_writes" sWrites f fd) (T : Txt K mg C) (any : mg "any" = none) : FnOk P w K mg base CX0 1 f fd ["_law_text"] spWrites := by
  refine F.ok scWt (fun vs H Q E h => ?_) (fun cdv A outer s H vs Q E hr h => ?_)
  · obtain ⟨x, rfl, _⟩ := h
    rfl
  · obtain ⟨x, rfl, hx, k⟩ := h
    refine ⟨_, pss_cons (ps_set (i := 1) scWt.nd rfl (Or.inl rfl) (pe_bm PySem.F.plainAttrs_str PySem.F.slot_str_split PySem.F.type_str_split mt_split (pv 0) (pa_cons pe_str pa_nil)))
      (pss_cons (ps_if (PW.pt (pw_or (pt_not (pt_chain op_le op_le pe_int (pe_callB call_len_str rfl T.len PySem.boot_len (pa_cons (pe_ix ix_list (pv 1) pe_int (fun _ _ => rfl)) pa_nil)) pe_int)) (pw_or1 (pt_cmpR op_gt (pe_callB call_len_seq rfl T.len PySem.boot_len (pa_cons (pv 1) pa_nil)) pe_int (nomark _))))) (pss_one (ps_ret pe_bl)) pss_nil)
      (pss_cons (ps_for PassesOwn.never rfl (pi_range1 rfl T.range (pa_cons (pe_callB call_len_seq rfl T.len PySem.boot_len (pa_cons (pv 1) pa_nil)) pa_nil)) (pg_name (i := 2) scWt.nd rfl (Or.inr rfl))
        (pss_cons (ps_if (pt_cmpR op_ne (pe_callB call_len_str rfl T.len PySem.boot_len (pa_cons (pe_ix ix_list (pv 1) (pv 2) (fun _ _ => rfl)) pa_nil)) (pe_callB call_len_str rfl T.len PySem.boot_len (pa_cons (pe_ix ix_list (pv 1) pe_int (fun _ _ => rfl)) pa_nil)) (nomark _)) (pss_one (ps_ret pe_bl)) pss_nil)
        (pss_one (ps_if (pt_val (pe_callB (call_any rfl) rfl any PyProof.Rows.boot_any (pa_cons (pe_comp rfl csWt (pi_str (pe_ix ix_list (pv 1) (pv 2) (fun _ _ => rfl))) (fun _ _ _ _ => pts_nil)
          (fun _ _ _ _ => pe_and (pe_cmpR op_ne (pv 0) pe_str (nomark _)) (pe_one (pe_or (pe_cmpR op_ne (pv 0) pe_str (nomark _)) (pe_one (pe_cmpR op_eq (pv 1) pe_int (nomark _))))))) pa_nil))) (pss_one (ps_ret pe_bl)) pss_nil))))
      (pss_one (ps_ret pe_bl)))), ?_⟩
    have hrl := rows_len x
    refine ⟨_, rfl, rfl, x, LF, rfl, rfl, rfl, Nat.le_of_lt (small1000 (by omega)), ?_, fun l hl => ?_⟩
    · rw [split_parts, List.length_map]
      exact Nat.le_of_lt (small1000 (by omega))
    rw [split_all]
    have s1 := same_upd (o := .lst (((rowsL x).map TX.mkS).map V.str)) hl
    have hl1 : (upd H l (.lst (((rowsL x).map TX.mkS).map V.str))) l = some (.lst (((rowsL x).map TX.mkS).map V.str)) := upd_same
    generalize upd H l (.lst (((rowsL x).map TX.mkS).map V.str)) = H1 at s1 hl1
    have h0 : (((rowsL x).map TX.mkS).map V.str)[0]? = some (.str (TX.mkS (hdL x))) := by rw [rows_cons x]; rfl
    have hhd : (hdL x).length ≤ 200 := by
      have := row_len (x := x) (r := hdL x) (by rw [rows_cons x]; exact .head _)
      omega
    have no : ¬ Writes x → ∀ H', Same H H' → Q (.bl false) H' := fun nw => k false ⟨fun z => (Bool.false_ne_true z).elim, fun z => (nw z).elim⟩
    refine ⟨_, rfl, l, _, 0, .str (TX.mkS (hdL x)), rfl, rfl, SqL.of hl1, atI_nat (j := 0) h0, TX.mkS (hdL x), rfl, Nat.le_of_lt (small1000 (by rw [mkS_len]; omega)), ?_⟩
    rw [mkS_len]
    refine ⟨1, _, rfl, rfl, _, rfl, ?_⟩
    by_cases hA : 1 ≤ (hdL x).length
    case neg =>
      refine iteN (by omega) ?_
      refine ⟨_, rfl, ?_⟩
      refine iteT ?_
      refine iteT ?_
      exact no (fun z => hA z.n1) _ s1
    refine iteP (by omega) ?_
    refine ⟨_, 10, rfl, rfl, _, rfl, ?_⟩
    by_cases hB : (hdL x).length ≤ 10
    case neg =>
      refine iteBT (by rw [decide_eq_false (by omega)]; rfl) ?_
      refine iteT ?_
      exact no (fun z => hB z.n10) _ s1
    refine iteNS (by omega) ?_
    refine ⟨_, rfl, l, _, rfl, .inl (SqL.of hl1), _, _, rfl, rfl, _, rfl, ?_⟩
    by_cases hM : (rowsL x).length ≤ 9
    case neg =>
      refine iteP (by rw [List.length_map, List.length_map]; omega) ?_
      exact no (fun z => hM z.m9) _ s1
    refine iteN (by rw [List.length_map, List.length_map]; omega) ?_
    have hnn : (((((rowsL x).map TX.mkS).map V.str).length : Int)).toNat = (rowsL x).length := by rw [List.length_map, List.length_map]; omega
    refine ⟨_, rfl, l, _, rfl, .inl (SqL.of hl1), _, rfl, by omega, by rw [List.length_map, List.length_map]; omega, for_range (fun i σ H' => ∃ v, σ = [some (.str x), some (.ref l), v] ∧ i ≤ (rowsL x).length ∧ Same H1 H' ∧ ∀ (j : Nat) (r : List Nat), j < i → (rowsL x)[j]? = some r → r.length = (hdL x).length ∧ ∀ c ∈ r, badS j c = false)
      ⟨none, rfl, Nat.zero_le _, Same.refl _, fun j r hj => absurd hj (Nat.not_lt_zero _)⟩ ?_ ?_⟩
    · rintro i σ H' hi ⟨v, rfl, hi2, sc, pr⟩
      rw [hnn] at hi
      have e0 : (0 : Int) + (i : Int) = ((i : Nat) : Int) := by omega
      rw [e0]
      obtain ⟨r, er⟩ : ∃ r, (rowsL x)[i]? = some r := ⟨_, List.getElem?_eq_getElem hi⟩
      have hri : (((rowsL x).map TX.mkS).map V.str)[i]? = some (.str (TX.mkS r)) := by rw [List.getElem?_map, List.getElem?_map, er]; rfl
      have hrm : r ∈ rowsL x := List.mem_of_getElem? er
      have hrl2 := row_len hrm
      have hl' := sc _ _ hl1
      have sr : (TX.mkS r).length ≤ sizeLine := Nat.le_of_lt (small1000 (by rw [mkS_len]; omega))
      refine ⟨_, rfl, _, rfl, l, _, _, .str (TX.mkS r), rfl, rfl, SqL.of hl', atI_nat (j := i) hri, TX.mkS r, rfl, sr, _, rfl, l, _, 0, .str (TX.mkS (hdL x)), rfl, rfl, SqL.of hl', atI_nat (j := 0) h0, TX.mkS (hdL x), rfl, Nat.le_of_lt (small1000 (by rw [mkS_len]; omega)), rfl, _, rfl, ?_⟩
      rw [mkS_len, mkS_len]
      by_cases hr2 : r.length = (hdL x).length
      case neg =>
        refine iteBT (by rw [decide_eq_false (fun z => hr2 (by have := V.int.inj z; omega))]; rfl) ?_
        exact no (fun z => hr2 (z.len r hrm)) _ (s1.trans sc)
      refine iteNS (by rw [hr2]) ?_
      refine ⟨_, rfl, _, rfl, l, _, _, .str (TX.mkS r), rfl, rfl, SqL.of hl', atI_nat (j := i) hri, TX.mkS r, rfl, fun acc hacc => comp_str (fun q ys Hc => q ≤ (TX.mkS r).cps.size ∧ ys = ((r.take q).map (badS i)).map V.bl ∧ Hc = upd H' acc (.lst ys)) ⟨Nat.zero_le _, rfl, rfl⟩ ?_ ?_ ?_⟩
      · rintro q ys Hc ⟨hq, _⟩
        exact hq
      · rintro q c ys Hc hc ⟨hq, rfl, rfl⟩
        have hg : r[q]? = some c := by
          rw [← mkS_list r, Array.getElem?_toList]
          exact hc
        have hqlt : q < (TX.mkS r).cps.size := (Array.getElem?_eq_some_iff.mp hc).1
        have fin : ∀ b, b = badS i c → (upd H' acc (.lst (((r.take q).map (badS i)).map V.bl))) acc = some (.lst (((r.take q).map (badS i)).map V.bl)) ∧ (((r.take q).map (badS i)).map V.bl).length < sizeLine ∧ q + 1 ≤ (TX.mkS r).cps.size ∧ ((r.take q).map (badS i)).map V.bl ++ [V.bl b] = ((r.take (q + 1)).map (badS i)).map V.bl ∧ upd (upd H' acc (.lst (((r.take q).map (badS i)).map V.bl))) acc (.lst (((r.take q).map (badS i)).map V.bl ++ [V.bl b])) = upd H' acc (.lst (((r.take q).map (badS i)).map V.bl ++ [V.bl b])) := fun b hb => by
          refine ⟨upd_same, ?_, hqlt, ?_, upd_upd⟩
          · rw [List.length_map, List.length_map, List.length_take]
            exact small1000 (by omega)
          · rw [take_snoc hg, List.map_append, List.map_append, hb]
            rfl
        refine tTrue_mk ?_
        refine iteT ?_
        refine ⟨_, rfl, rfl, _, rfl, ?_⟩
        rw [sign_dec c 46 "." rfl]
        refine ite2 (fun h1 => ?_) (fun h1 => ?_)
        · refine ⟨_, rfl, rfl, _, rfl, ?_⟩
          rw [sign_dec c 35 "#" rfl]
          refine ite2 (fun h2 => ?_) (fun h2 => ?_)
          · exact fin true (by unfold badS; rw [h1, h2]; rfl)
          · refine ⟨_, rfl, rfl, ?_⟩
            have ed : decide (V.int (i : Int) = V.int 0) = decide (i = 0) := decide_eq_decide.mpr ⟨fun z => by have := V.int.inj z; omega, fun z => by rw [z]; rfl⟩
            have h2' : (!decide (c = 35)) = false := by simpa using h2
            rw [ed]
            exact fin _ (by unfold badS; rw [h1, h2']; rfl)
        · have h1' : (!decide (c = 46)) = false := by simpa using h1
          exact fin false (by unfold badS; rw [h1']; rfl)
      · rintro ys Hc ⟨_, rfl, rfl⟩
        have ez : (TX.mkS r).cps.size = r.length := mkS_len r
        rw [ez, List.take_length]
        refine ⟨acc, r.map (badS i), rfl, SqL.of upd_same, _, rfl, ?_⟩
        have sF := s1.trans (sc.trans (same_upd (o := .lst ((r.map (badS i)).map V.bl)) hacc))
        refine ite2 (fun h1 => ?_) (fun h1 => ?_)
        · refine no (fun z => ?_) _ sF
          rw [List.any_map, List.any_eq_true] at h1
          obtain ⟨c, hc, hb⟩ := h1
          have hb' : badS i c = true := hb
          have h46 : ¬ c = 46 := fun e => by rw [e] at hb'; unfold badS at hb'; simp at hb'
          rcases z.sig r hrm c hc with e | e
          · exact h46 e
          · by_cases hi0 : i = 0
            · subst hi0
              rw [rows_cons x] at er
              have : hdL x = r := Option.some.inj er
              exact h46 (z.dots c (by rw [this]; exact hc))
            · rw [e] at hb'
              unfold badS at hb'
              simp [hi0] at hb'
        · refine ⟨_, rfl, by omega, sc.trans (same_upd hacc), fun j r' hj er' => ?_⟩
          by_cases hji : j = i
          · subst hji
            rw [er] at er'
            cases er'
            refine ⟨hr2, fun c hc => ?_⟩
            cases eb : badS j c with
            | false => rfl
            | true => exact absurd (by rw [List.any_map, List.any_eq_true]; exact ⟨c, hc, eb⟩) h1
          · exact pr j r' (by omega) er'
    · rintro σ H' ⟨v, rfl, _, sc, pr⟩
      rw [hnn] at pr
      have idx : ∀ r ∈ rowsL x, ∃ j, j < (rowsL x).length ∧ (rowsL x)[j]? = some r := fun r hr => by
        obtain ⟨j, hj, e⟩ := List.getElem_of_mem hr
        exact ⟨j, hj, by rw [List.getElem?_eq_getElem hj, e]⟩
      refine k true ⟨fun _ => ⟨hA, hB, hM, fun c hc => ?_, fun r hr => ?_, fun r hr c hc => ?_⟩, fun _ => rfl⟩ _ (s1.trans sc)
      · have h0' : (rowsL x)[0]? = some (hdL x) := by rw [rows_cons x]; rfl
        have hb := (pr 0 (hdL x) (by rw [rows_cons x]; exact Nat.succ_pos _) h0').2 c hc
        unfold badS at hb
        simpa using hb
      · obtain ⟨j, hj, e⟩ := idx r hr
        exact (pr j r hj e).1
      · obtain ⟨j, hj, e⟩ := idx r hr
        have hb := (pr j r hj e).2 c hc
        unfold badS at hb
        by_cases h46 : c = 46
        · exact .inl h46
        · right
          by_cases h35 : c = 35
          · exact h35
          · simp [h46, h35] at hb
end
end Sw
set_option maxHeartbeats 4000000
namespace Sw
open PySem L2
section
variable {P : Program} {w : World} {K : PySem.W.Frag} {mg : Str → Option Value} {base : Heap} {C C0 CH CL CP CN CT : Addr}
theorem scRt : FnScope ["_law_text"] ["_law_text"] (defScope sRight) := ⟨rfl, rfl, rfl, by decide +kernel, rfl, by decide +kernel, by decide +kernel⟩
theorem ok_right {f : Addr} {fd : FuncData} (F : Fun K "_law_right" "_law_right" sRight f fd) (FWt : FnAt P w K mg base "_law_writes" 1 ["_law_text"] spWrites) (FRf : FnAt P w K mg base "_law_refused" 6 ["_law_text"] (spRefused K))
    (FW : FnAt P w K mg base "written" 2 ["house"] (spWritten C)) (FR : FnAt P w K mg base "read" 5 ["text"] (spRead C)) : FnOk P w K mg base CX0 7 f fd ["_law_text"] spRight := by
  refine F.ok scRt (fun vs H Q E h => ?_) (fun cdv A outer s H vs Q E hr h => ?_)
  · obtain ⟨x, rfl, _⟩ := h
    rfl
  · obtain ⟨x, rfl, hx, k⟩ := h
    refine ⟨_, pss_cons (ps_if (pt_not (pt_val (pe_fn FWt hr (pa_cons (pv 0) pa_nil)))) (pss_one (ps_ret (pe_fn FRf hr (pa_cons (pv 0) pa_nil)))) pss_nil)
      (pss_one (ps_ret (pe_cmpR op_eq (pe_fn FW hr (pa_cons (pe_fn FR hr (pa_cons (pv 0) pa_nil)) pa_nil)) (pv 0) (nomark _)))), ?_⟩
    refine ⟨_, rfl, x, rfl, hx, fun b hb H1 s1 => ⟨_, rfl, ?_⟩⟩
    cases b with
    | false =>
      refine iteT ?_
      exact ⟨_, rfl, .str x, rfl, .inr ⟨x, rfl, hx, fun z => Bool.false_ne_true (hb.mpr z)⟩, fun H2 s2 => k _ (s1.trans s2)⟩
    | true =>
      refine iteF ?_
      obtain ⟨n, sw, g, rfl⟩ := writes_text (hb.mp rfl)
      refine ⟨_, rfl, n, sw, rfl, g, fun p H2 s2 hp hh => ⟨p, n, sw, rfl, hh, g, fun H3 s3 => ⟨_, rfl, rfl, ?_⟩⟩⟩
      rw [decide_eq_true rfl]
      exact k _ (s1.trans (s2.trans s3))
abbrev NOt : List Str := ["_law_text", "_law_cell", "_law_k", "_law_at", "_law_sign", "_law_way"]
theorem scOt : FnScope NOt ["_law_text", "_law_cell", "_law_k"] (defScope sOther) := ⟨rfl, rfl, rfl, by decide +kernel, rfl, by decide +kernel, by decide +kernel⟩
def sgS : Str := (".#.# *1x" : Str) ++ "\t\n" ++ "\n0"
theorem sg_at (a : Nat) (h : a < 12) : ∃ c, atI sgS.cps.toList (a : Int) = some c := by
  have hl : sgS.cps.toList.length = 12 := by decide +kernel
  exact ⟨_, atI_nat (j := a) (List.getElem?_eq_getElem (by rw [hl]; exact h))⟩
theorem cat_len (a b : Str) : (a ++ b).length = a.length + b.length := by
  rw [str_len, Str.cps_append, Array.toList_append, List.length_append, ← str_len, ← str_len]
theorem big {n : Nat} (h : n ≤ 1000) : n ≤ sizeLine := Nat.le_of_lt (small1000 h)
theorem ok_other {f : Addr} {fd : FuncData} (F : Fun K "_law_other" "_law_other" sOther f fd) (T : Txt K mg C) (FD : FDraw P w K mg base) : FnOk P w K mg base CX0 2 f fd ["_law_text", "_law_cell", "_law_k"] spOther := by
  refine F.ok scOt (fun vs H Q E h => ?_) (fun cdv A outer s H vs Q E hr h => ?_)
  · obtain ⟨x, c, k, rfl, _⟩ := h
    rfl
  · obtain ⟨x, c, k, rfl, hx, q⟩ := h
    refine ⟨_, pss_cons (ps_set (i := 3) scOt.nd rfl (Or.inl rfl) (pe_fn FD hr (pa_cons (pv 1) (pa_cons (pv 2) (pa_cons (pe_op op_add (pe_callB call_len_str rfl T.len PySem.boot_len (pa_cons (pv 0) pa_nil)) pe_int) pa_nil)))))
      (pss_cons (ps_set (i := 4) scOt.nd rfl (Or.inl rfl) (pe_op op_add_str (pe_op op_add_str pe_str pe_str) pe_str))
      (pss_cons (ps_set (i := 4) scOt.nd rfl (Or.inl rfl) (pe_ix ix_str (pv 4) (pe_fn FD hr (pa_cons (pv 1) (pa_cons (pe_op op_add (pv 2) pe_int) (pa_cons (pe_callB call_len_str rfl T.len PySem.boot_len (pa_cons (pv 4) pa_nil)) pa_nil)))) (fun _ _ => rfl)))
      (pss_cons (ps_set (i := 5) scOt.nd rfl (Or.inl rfl) (pe_fn FD hr (pa_cons (pv 1) (pa_cons (pe_op op_add (pv 2) pe_int) (pa_cons pe_int pa_nil)))))
      (pss_cons (ps_if (pt_cmpR op_eq (pv 5) pe_int (nomark _)) (pss_one (ps_ret (pe_op op_add_str (pe_op op_add_str (pe_slice sl_str (pv 0) po_none (po_some (pv 3))) (pv 4)) (pe_slice sl_str (pv 0) (po_some (pv 3)) po_none)))) pss_nil)
      (pss_one (ps_ret (pe_op op_add_str (pe_op op_add_str (pe_slice sl_str (pv 0) po_none (po_some (pv 3))) (pe_ix ix_list (pe_lst (pa_cons pe_str (pa_cons (pv 4) pa_nil))) (pe_op op_sub (pv 5) pe_int) (fun _ _ => rfl))) (pe_slice sl_str (pv 0) (po_some (pe_op op_add (pv 3) pe_int)) po_none)))))))), ?_⟩
    have e1 : ∀ a b : Nat, V.int ((a : Int) + (b : Int)) = nv (a + b) := fun a b => congrArg V.int (by omega)
    refine ⟨_, rfl, _, rfl, _, rfl, x, rfl, big (by omega), _, _, rfl, rfl, c, k, x.length + 1, by rw [← e1]; rfl, by omega, fun at1 H1 s1 hat => ?_⟩
    refine ⟨_, _, rfl, rfl, by decide, _, _, rfl, rfl, by decide, ?_⟩
    have hsl : sgS.length = 12 := by decide +kernel
    refine ⟨_, rfl, _, rfl, _, rfl, _, _, rfl, rfl, _, rfl, sgS, rfl, by rw [hsl]; decide, c, k + 3, 12, by rw [hsl, ← e1]; rfl, by omega, fun z H2 s2 hz => ?_⟩
    obtain ⟨sgc, hsg⟩ := sg_at z hz
    refine ⟨sgS, _, sgc, rfl, rfl, by rw [hsl]; decide, hsg, ?_⟩
    refine ⟨_, rfl, _, rfl, _, _, rfl, rfl, c, k + 5, 3, by rw [← e1]; rfl, by omega, fun way H3 s3 hway => ?_⟩
    have sF := s1.trans (s2.trans s3)
    have l1 : (⟨#[sgc]⟩ : Str).length = 1 := rfl
    have sl : ∀ lo hi, (Txt.slice x lo hi).length ≤ 99 := fun lo hi => Nat.le_trans (Txt.slice_le x lo hi) hx
    refine ⟨_, rfl, rfl, _, rfl, ?_⟩
    refine ite2 (fun _ => ?_) (fun hw => ?_)
    · refine ⟨_, rfl, _, rfl, _, rfl, x, rfl, big (by omega), _, rfl, _, _, rfl, rfl, big (by have := sl none (some (at1 : Int)); omega), _, rfl, _, rfl, _, rfl, x, rfl, big (by omega), _, _, rfl, rfl, ?_, ?_⟩
      · rw [cat_len]
        have h1 := sl none (some (at1 : Int))
        have h2 := sl (some (at1 : Int)) none
        exact big (by omega)
      · refine q _ _ ?_ sF
        rw [cat_len, cat_len]
        have h1 := sl none (some (at1 : Int))
        have h2 := sl (some (at1 : Int)) none
        omega
    · have hw' : ¬ way = 0 := fun z => hw (decide_eq_true (by rw [z]; rfl))
      refine ⟨_, rfl, _, rfl, _, rfl, x, rfl, big (by omega), _, rfl, by show 2 ≤ sizeLine; decide, fun l hl => ?_⟩
      have s4 := same_upd (o := .lst [V.str Str.empty, V.str ⟨#[sgc]⟩]) hl
      obtain ⟨y, hy, ey⟩ : ∃ y : Str, y.length ≤ 1 ∧ atI [V.str Str.empty, V.str ⟨#[sgc]⟩] ((way : Int) - 1) = some (.str y) := by
        rcases (show way = 1 ∨ way = 2 by omega) with rfl | rfl
        · exact ⟨_, Nat.zero_le _, atI_nat (j := 0) rfl⟩
        · exact ⟨_, Nat.le_refl _, atI_nat (j := 1) rfl⟩
      refine ⟨_, rfl, _, _, rfl, rfl, l, _, _, .str y, rfl, rfl, SqL.of upd_same, ey, _, _, rfl, rfl, big (by have := sl none (some (at1 : Int)); omega), _, rfl, _, rfl, _, _, rfl, rfl, _, rfl, x, rfl, big (by omega), _, _, rfl, rfl, ?_, ?_⟩
      · rw [cat_len]
        have h1 := sl none (some (at1 : Int))
        have h2 := sl (some ((at1 : Int) + 1)) none
        exact big (by omega)
      · refine q _ _ ?_ (sF.trans s4)
        rw [cat_len, cat_len]
        have h1 := sl none (some (at1 : Int))
        have h2 := sl (some ((at1 : Int) + 1)) none
        omega
end
end Sw
set_option maxHeartbeats 4000000
namespace Sw
open PySem L2
def strOf : Expr → Option Str
  | .Constant (.str x) _ _ => some x
  | _ => none
def tVs (xs : List V) : TA := fun _ H Q => Q xs H
theorem pa_strs {X : Cx} : ∀ {es : List Expr} {xs : List Str}, es.map strOf = xs.map some → PA X es (tVs (xs.map V.str))
  | [], [], _ => pa_nil
  | [], _ :: _, h => by cases h
  | _ :: _, [], h => by cases h
  | .Constant (.str z) j pos :: es, x :: xs, h => by
    have h1 : some z = some x := (List.cons.inj h).1
    cases h1
    exact pa_cons pe_str (pa_strs (List.cons.inj h).2)
  | .Constant .none _ _ :: _, _ :: _, h => nomatch (List.cons.inj h).1
  | .Constant (.bool _) _ _ :: _, _ :: _, h => nomatch (List.cons.inj h).1
  | e :: es, x :: xs, h => by
    have h1 : strOf e = some x := (List.cons.inj h).1
    cases e with
    | Constant c j pos =>
      cases c with
      | str z =>
        cases h1
        exact pa_cons pe_str (pa_strs (List.cons.inj h).2)
      | _ => cases h1
    | _ => cases h1
theorem pe_strs {X : Cx} {es : List Expr} {xs : List Str} {pos : Pos} (h : es.map strOf = xs.map some) : PE X (.List es pos) (tLst (tVs (xs.map V.str))) := pe_lst (pa_strs h)
structure PSW (X : Cx) (st : Stmt) (t : TS) : Prop where
  h : PS X st t
structure PEW (X : Cx) (e : Expr) (t : TE) : Prop where
  h : PE X e t
structure PAW (X : Cx) (es : List Expr) (t : TA) : Prop where
  h : PA X es t
theorem pa_consW {X : Cx} {e : Expr} {es : List Expr} {te : TE} {t : TA} (ha : PEW X e te) (hr : PAW X es t) (hs : starEach (e :: es) X.env = (false, eval e X.env) :: starEach es X.env := by rfl) : PAW X (e :: es) (tCons te t) := ⟨pa_cons ha.h hr.h hs⟩
theorem ex_cons {X : Cx} {st : Stmt} {rest : List Stmt} {t : TS} {G : TS → Prop} (h1 : PSW X st t) (h2 : ∃ u, PSs X rest u ∧ G (tSeq t u)) : ∃ t, PSs X (st :: rest) t ∧ G t :=
  h2.elim fun _ k => ⟨_, pss_cons h1.h k.1, k.2⟩
theorem ex_one {X : Cx} {st : Stmt} {t : TS} {G : TS → Prop} (h1 : PSW X st t) (h2 : G t) : ∃ t, PSs X [st] t ∧ G t := ⟨_, pss_one h1.h, h2⟩
theorem ps_strs {X : Cx} {i : Nat} {x : Str} {es : List Expr} {xs : List Str} {p1 p2 p3 : Pos} (hN : X.N.Nodup) (hi : X.N[i]? = some x) (hx : Loc X.env.scope x) (h : es.map strOf = xs.map some) (hf : X.fn x = true ∨ X.env.scope.names.lookup x = some .local)
    (hs : swapsWith (.List es p2) (some (.Name x p1)) p3.line X.env = pure false := by rfl) : PSW X (.Assign [.Name x p1] (.List es p2) p3) (tAsg (tLst (tVs (xs.map V.str))) (gName i)) := ⟨ps_set hN hi hx (pe_strs h) hs hf⟩
theorem ps_cat {X : Cx} {i j : Nat} {x y : Str} {es : List Expr} {ta : TA} {p1 p2 p3 p4 p5 : Pos} (hN : X.N.Nodup) (hi : X.N[i]? = some x) (hx : Loc X.env.scope x) (hj : X.N[j]? = some y) (hy : Vis X.env.scope y) (h : PAW X es ta) (hf : X.fn x = true ∨ X.env.scope.names.lookup x = some .local)
    (hd : (y == ("__debug__" : Str)) = false) (hcd : (y == ("__classdict__" : Str)) = false) (hs : swapsWith (.BinOp (.Name y p2) .Add (.List es p3) p4) (some (.Name x p1)) p5.line X.env = pure false := by rfl) :
    PSW X (.Assign [.Name x p1] (.BinOp (.Name y p2) .Add (.List es p3) p4) p5) (tAsg (tOp rCat (tVar j) (tLst ta)) (gName i)) := ⟨ps_set hN hi hx (pe_op op_cat (pv j hj hy hd hcd) (pe_lst h.h)) hs hf⟩
def Short (xs : List Str) : Prop := ∀ x ∈ xs, x.length ≤ 200
theorem short_of {xs : List Str} (h : (xs.all fun x => decide (x.length ≤ 200)) = true) : Short xs := fun x hx => of_decide_eq_true (List.all_eq_true.mp h x hx)
theorem Short.app {xs ys : List Str} (h : Short xs) (k : Short ys) : Short (xs ++ ys) := fun x hx => (List.mem_append.mp hx).elim (h x) (k x)
abbrev few1 : List Str := ["", ".", "#", "..", "\n", ".\n", ".\n#", ".\n.", ".\n#\n", ".\n##", "..\n#", "..\n##\n..", "..\n# "]
abbrev few2 : List Str := [repS "." 10, repS "." 11, repS "." 10 ++ "\n" ++ repS "#" 10, Txt.join LF (List.replicate 9 "."), Txt.join LF (List.replicate 10 "."), "#\n#"]
abbrev few3 : List Str := [" .", ". ", "..\n.#\n#.", "..\n.#\n#", "..\n.#\n\n#.", "..\n.x", "..\n.*", "..\t\n.#"]
abbrev few4 : List Str := ["..\n#.\t", "...\n.#", "\n.."]
abbrev NL : List Str := ["_law_script", "_law_told_here", "_law_text", "_law_cell", "_law_few", "_law_other_here"]
theorem scL : FnScope NL ["_law_script"] (defScope sLaw) := ⟨rfl, rfl, rfl, by decide +kernel, rfl, by decide +kernel, by decide +kernel⟩
def compL1 : Scope := match (defBody sLaw).getD 7 (.Pass ⟨0, 0, 0, 0⟩) with
  | .For _ (.BinOp _ _ (.ListComp _ _ sc _) _) _ _ _ => sc
  | _ => defScope sLaw
theorem csL1 : CompScope (defScope sLaw) compL1 NL "_law_k" [3, 2] ["_law_cell", "_law_text"] := ⟨rfl, by decide +kernel, by decide +kernel, by decide +kernel, by decide +kernel, by decide +kernel, by decide +kernel, by decide +kernel⟩
def compL2 : Scope := match (defBody sLaw).getD 8 (.Pass ⟨0, 0, 0, 0⟩) with
  | .Return (some (.Call _ [.ListComp _ _ sc _] _ _)) _ => sc
  | _ => defScope sLaw
theorem csL2 : CompScope (defScope sLaw) compL2 NL "_law_thing" [] [] := ⟨rfl, by decide +kernel, by decide +kernel, by decide +kernel, by decide +kernel, by decide +kernel, by decide +kernel, by decide +kernel⟩
section
variable {P : Program} {w : World} {K : PySem.W.Frag} {mg : Str → Option Value} {base : Heap} {C : Addr}
theorem ok_law {f : Addr} {fd : FuncData} (F : Fun K "law" "law" sLaw f fd) (T : Txt K mg C)
    (MH : MkAt P w K mg base "House" C 3 ["self", "lamps", "switches"] (spInit K C)) (FC : FCell P w K mg base) (FT : FnAt P w K mg base "_law_told" 2 ["_law_script", "_law_first"] (spTold K)) (FW : FnAt P w K mg base "written" 2 ["house"] (spWritten C))
    (FRf : FnAt P w K mg base "_law_refused" 6 ["_law_text"] (spRefused K)) (FRi : FnAt P w K mg base "_law_right" 7 ["_law_text"] spRight) (FO : FnAt P w K mg base "_law_other" 2 ["_law_text", "_law_cell", "_law_k"] spOther) :
    FnOk P w K mg base CX0 8 f fd ["_law_script"] (spLaw K) := by
  refine F.ok scL (fun vs H Q E h => ?_) (fun cdv A outer s H vs Q E hr h => ?_)
  · obtain ⟨a, ns, rfl, _⟩ := h
    rfl
  · obtain ⟨a, ns, rfl, hS, _, q⟩ := h
    refine ex_cons ⟨ps_set (i := 1) scL.nd rfl (Or.inl rfl) (pe_fn FT hr (pa_cons (pv 0) (pa_cons pe_int pa_nil)))⟩ ?_
    refine ex_cons ⟨ps_set (i := 2) scL.nd rfl (Or.inr rfl) (pe_fn FW hr (pa_cons (pe_mk MH hr (pa_cons (pe_ix ix_tup (pv 1) pe_int (fun _ _ => rfl)) (pa_cons (pe_ix ix_tup (pv 1) pe_int (fun _ _ => rfl)) pa_nil))) pa_nil))⟩ ?_
    refine ex_cons ⟨ps_set (i := 3) scL.nd rfl (Or.inr rfl) (pe_fn FC hr (pa_cons (pv 0) (pa_cons pe_int pa_nil)))⟩ ?_
    refine ex_cons (ps_strs (i := 4) scL.nd rfl (.inl rfl) (xs := few1) (by decide +kernel) (.inr rfl)) ?_
    refine ex_cons (ps_cat (i := 4) (j := 4) scL.nd rfl (.inl rfl) rfl (.inl rfl) (pa_consW ⟨pe_op op_repS pe_str pe_int⟩ (pa_consW ⟨pe_op op_repS pe_str pe_int⟩ (pa_consW ⟨pe_op op_add_str (pe_op op_add_str (pe_op op_repS pe_str pe_int) pe_str) (pe_op op_repS pe_str pe_int)⟩
      (pa_consW ⟨pe_bm PySem.F.plainAttrs_str PySem.F.slot_str_join PySem.F.type_str_join mt_join pe_str (pa_cons (pe_op op_rep (pe_lst (pa_cons pe_str pa_nil)) pe_int) pa_nil)⟩ (pa_consW ⟨pe_bm PySem.F.plainAttrs_str PySem.F.slot_str_join PySem.F.type_str_join mt_join pe_str (pa_cons (pe_op op_rep (pe_lst (pa_cons pe_str pa_nil)) pe_int) pa_nil)⟩ (pa_consW ⟨pe_str⟩ ⟨pa_nil⟩)))))) (.inr rfl) rfl rfl) ?_
    refine ex_cons (ps_cat (i := 4) (j := 4) scL.nd rfl (.inl rfl) rfl (.inl rfl) ⟨pa_strs (xs := few3) (by decide +kernel)⟩ (.inr rfl) rfl rfl) ?_
    refine ex_cons (ps_cat (i := 4) (j := 4) scL.nd rfl (.inl rfl) rfl (.inl rfl) ⟨pa_strs (xs := few4) (by decide +kernel)⟩ (.inr rfl) rfl rfl) ?_
    refine ex_cons ⟨ps_for PassesOwn.never rfl (pi_list (pe_op op_cat (pe_op op_cat (pv 4) (pe_lst (pa_cons (pv 2) pa_nil))) (pe_comp rfl csL1 (pi_range1 rfl T.range (pa_cons pe_int pa_nil)) (fun _ _ _ _ => pts_nil)
          (fun _ _ _ _ => pe_fn FO hr (pa_cons (pv 2) (pa_cons (pe_op op_add (pv 1) (pe_op op_mul pe_int (pv 0))) (pa_cons (pv 0) pa_nil))))))) (pg_name (i := 5) scL.nd rfl (Or.inl rfl))
        (pss_one (ps_if (pt_not (pt_val (pe_fn FRi hr (pa_cons (pv 5) pa_nil)))) (pss_one (ps_ret pe_bl)) pss_nil))⟩ ?_
    refine ex_one ⟨ps_ret (pe_callB (call_all rfl) rfl T.all PyProof.Rows.boot_all (pa_cons (pe_comp rfl csL2 (pi_list (pe_lst (pa_cons pe_non (pa_cons pe_int (pa_cons (pe_lst (pa_cons pe_str pa_nil)) (pa_cons pe_bl pa_nil)))))) (fun _ _ _ _ => pts_nil) (fun _ _ _ _ => pe_fn FRf hr (pa_cons (pv 0) pa_nil))) pa_nil))⟩ ?_
    refine ⟨_, rfl, a, ns, 0, rfl, hS, fun t l n sw H1 s1 ht0 hl0 ht hl g => ?_⟩
    refine ⟨_, rfl, t, _, _, _, rfl, rfl, SqT.of ht, atI_nat (j := 0) rfl, _, rfl, t, _, _, _, rfl, rfl, SqT.of ht, atI_nat (j := 1) rfl, fun x dx nx ndx nex => make_house nx ndx nex hl g fun H2 hh s2 => ⟨rfl, x, n, sw, rfl, hh, g, fun H3 s3 => ?_⟩⟩
    have hS3 : SqL K H3 a (ns.map V.int) := (s1.trans (s2.trans s3)).seq hS
    refine ⟨_, rfl, a, ns, 2, rfl, hS3, fun c => ?_⟩
    have tl := text_len g
    generalize textS n sw = tx at tl
    refine ⟨by show 13 ≤ sizeLine; decide, fun l1 hl1 => ?_⟩
    have hf : (upd H3 l1 (.lst (few1.map V.str))) l1 = some (.lst (few1.map V.str)) := upd_same
    generalize upd H3 l1 (.lst (few1.map V.str)) = H4 at hf
    refine ⟨_, rfl, ".", 10, rfl, rfl, by decide, by decide, ".", 11, rfl, rfl, by decide, by decide, ".", 10, rfl, rfl, by decide, by decide, _, _, rfl, rfl, by decide +kernel, "#", 10, rfl, rfl, by decide, by decide, _, _, rfl, rfl, by decide +kernel, ?_⟩
    refine ⟨rfl, by show 1 ≤ sizeLine; decide, fun j1 hj1 => ⟨j1, 9, _, rfl, rfl, upd_same, by decide, by decide, by decide +kernel, fun j2 hj2 => ?_⟩⟩
    have hf2 := (same_upd (o := .lst [V.str "."]) hj1) _ _ hf
    generalize upd H4 j1 (.lst [V.str "."]) = H5 at hf2 hj2
    refine ⟨LF, j2, List.replicate 9 ".", rfl, rfl, SqL.of upd_same, by decide +kernel, ?_⟩
    have hf3 := (same_upd (o := .lst (List.replicate (Int.toNat 9) [V.str "."]).flatten) hj2) _ _ hf2
    generalize upd H5 j2 (.lst (List.replicate (Int.toNat 9) [V.str "."]).flatten) = H6 at hf3
    refine ⟨rfl, by show 1 ≤ sizeLine; decide, fun j3 hj3 => ⟨j3, 10, _, rfl, rfl, upd_same, by decide, by decide, by decide +kernel, fun j4 hj4 => ?_⟩⟩
    have hf4 := (same_upd (o := .lst [V.str "."]) hj3) _ _ hf3
    generalize upd H6 j3 (.lst [V.str "."]) = H7 at hf4 hj4
    refine ⟨LF, j4, List.replicate 10 ".", rfl, rfl, SqL.of upd_same, by decide +kernel, ?_⟩
    have hf5 := (same_upd (o := .lst (List.replicate (Int.toNat 10) [V.str "."]).flatten) hj4) _ _ hf4
    generalize upd H7 j4 (.lst (List.replicate (Int.toNat 10) [V.str "."]).flatten) = H8 at hf5
    refine ⟨by show 6 ≤ sizeLine; decide, fun l2 hl2 => ?_⟩
    have e2 : few2.map V.str = [V.str (repS "." 10), V.str (repS "." 11), V.str (repS "." 10 ++ "\n" ++ repS "#" 10), V.str (Txt.join LF (List.replicate 9 ".")), V.str (Txt.join LF (List.replicate 10 ".")), V.str "#\n#"] := rfl
    rw [← e2]
    have hf6 := (same_upd (o := .lst (few2.map V.str)) hl2) _ _ hf5
    refine ⟨l1, l2, few1.map V.str, few2.map V.str, rfl, rfl, hf6, upd_same, by show 19 ≤ sizeLine; decide, fun l3 hl3 => ?_⟩
    have hg3 : (upd (upd H8 l2 (.lst (few2.map V.str))) l3 (.lst (few1.map V.str ++ few2.map V.str))) l3 = some (.lst ((few1 ++ few2).map V.str)) := by rw [upd_same, List.map_append]
    have hsh : Short (few1 ++ few2) := short_of (by decide +kernel)
    have hle : (few1 ++ few2).length ≤ 19 := by decide +kernel
    generalize upd (upd H8 l2 (.lst (few2.map V.str))) l3 (.lst (few1.map V.str ++ few2.map V.str)) = H9 at hg3
    generalize few1 ++ few2 = fs at hg3 hsh hle
    refine ⟨_, rfl, by show 8 ≤ sizeLine; decide, fun l4 hl4 => ⟨l3, l4, fs.map V.str, few3.map V.str, rfl, rfl, (same_upd hl4) _ _ hg3, upd_same, ?_, fun l5 hl5 => ?_⟩⟩
    · rw [List.length_map]
      exact big (by show fs.length + 8 ≤ 1000; omega)
    have hg5 : (upd (upd H9 l4 (.lst (few3.map V.str))) l5 (.lst (fs.map V.str ++ few3.map V.str))) l5 = some (.lst ((fs ++ few3).map V.str)) := by rw [upd_same, List.map_append]
    have hsh5 : Short (fs ++ few3) := hsh.app (short_of (by decide +kernel))
    have hle5 : (fs ++ few3).length ≤ 27 := by rw [List.length_append]; show fs.length + 8 ≤ 27; omega
    generalize upd (upd H9 l4 (.lst (few3.map V.str))) l5 (.lst (fs.map V.str ++ few3.map V.str)) = H10 at hg5
    generalize fs ++ few3 = gs at hg5 hsh5 hle5
    refine ⟨_, rfl, by show 3 ≤ sizeLine; decide, fun l6 hl6 => ⟨l5, l6, gs.map V.str, few4.map V.str, rfl, rfl, (same_upd hl6) _ _ hg5, upd_same, ?_, fun l7 hl7 => ?_⟩⟩
    · rw [List.length_map]
      exact big (by show gs.length + 3 ≤ 1000; omega)
    have hg7 : (upd (upd H10 l6 (.lst (few4.map V.str))) l7 (.lst (gs.map V.str ++ few4.map V.str))) l7 = some (.lst ((gs ++ few4).map V.str)) := by rw [upd_same, List.map_append]
    have hsh7 : Short (gs ++ few4) := hsh5.app (short_of (by decide +kernel))
    have hle7 : (gs ++ few4).length ≤ 30 := by rw [List.length_append]; show gs.length + 3 ≤ 30; omega
    generalize upd (upd H10 l6 (.lst (few4.map V.str))) l7 (.lst (gs.map V.str ++ few4.map V.str)) = H11 at hg7
    generalize gs ++ few4 = ws at hg7 hsh7 hle7
    refine ⟨_, rfl, _, rfl, by show 1 ≤ sizeLine; decide, fun l8 hl8 => ⟨l7, l8, ws.map V.str, [V.str tx], rfl, rfl, (same_upd hl8) _ _ hg7, upd_same, ?_, fun l9 hl9 => ?_⟩⟩
    · rw [List.length_map]
      exact big (by show ws.length + 1 ≤ 1000; omega)
    have hg9 : (upd (upd H11 l8 (.lst [V.str tx])) l9 (.lst (ws.map V.str ++ [V.str tx]))) l9 = some (.lst ((ws ++ [tx]).map V.str)) := by rw [upd_same, List.map_append]; rfl
    have hsh9 : Short (ws ++ [tx]) := hsh7.app (fun x hx => by rw [List.mem_singleton.mp hx]; omega)
    have hle9 : (ws ++ [tx]).length ≤ 31 := by rw [List.length_append]; show ws.length + 1 ≤ 31; omega
    generalize upd (upd H11 l8 (.lst [V.str tx])) l9 (.lst (ws.map V.str ++ [V.str tx])) = H12 at hg9
    generalize ws ++ [tx] = us at hg9 hsh9 hle9
    refine ⟨_, rfl, by omega, by omega, fun acc hacc => comp_range (fun i ys Hc => i ≤ 3 ∧ Same H12 Hc ∧ ∃ zs : List Str, ys = zs.map V.str ∧ zs.length = i ∧ Short zs ∧ Hc acc = some (.lst ys)) ⟨Nat.zero_le _, same_upd hacc, [], rfl, rfl, (fun x hx => nomatch hx), upd_same⟩ ?_ ?_ ?_⟩
    · rintro i ys Hc ⟨hi, _⟩
      exact hi
    · rintro i ys Hc hi ⟨_, sc, zs, rfl, hzl, hzs, hac⟩
      have e0 : (0 : Int) + (i : Int) = ((i : Nat) : Int) := by omega
      rw [e0]
      refine tTrue_mk ?_
      refine iteT ?_
      have hi3 : i < 3 := hi
      refine ⟨_, rfl, _, rfl, _, rfl, _, _, rfl, rfl, .inl ⟨by decide, by decide⟩, _, _, rfl, rfl, _, rfl, tx, _, i, rfl, tl, fun y H' hy s' => ⟨s' _ _ hac, ?_, hi3, fun b o eb => ?_, zs ++ [y], ?_, ?_, ?_, ?_⟩⟩
      · rw [List.length_map]
        exact small1000 (by omega)
      · rw [upd_ne (ne_of_none eb hacc)]
        exact s' _ _ (sc _ _ eb)
      · rw [List.map_append]
        rfl
      · rw [List.length_append]
        show zs.length + 1 = i + 1
        omega
      · exact hzs.app fun x hx => by rw [List.mem_singleton.mp hx]; exact hy
      · exact upd_same
    · rintro ys Hc ⟨_, sc, zs, rfl, hzl, hzs, hac⟩
      have hz3 : zs.length = 3 := hzl
      refine ⟨l9, acc, us.map V.str, zs.map V.str, rfl, rfl, sc _ _ hg9, hac, ?_, fun la hla => ?_⟩
      · rw [List.length_map, List.length_map]
        exact big (by omega)
      have hga : (upd Hc la (.lst (us.map V.str ++ zs.map V.str))) la = some (.lst ((us ++ zs).map V.str)) := by rw [upd_same, List.map_append]
      have hsha := hsh9.app hzs
      generalize upd Hc la (.lst (us.map V.str ++ zs.map V.str)) = Hd at hga
      generalize us ++ zs = ps at hga hsha
      refine ⟨la, rfl, ⟨_, SqL.of hga⟩, for_list (K := K) (a := la) (xs := ps.map V.str) (fun i σ H' => ∃ v, σ = [some (.ref a), some (.ref t), some (.str tx), some (.int c), some (.ref l7), v] ∧ H' la = some (.lst (ps.map V.str))) ⟨none, rfl, hga⟩ ?_ ?_ ?_⟩
      · rintro i σ H' _ ⟨v, _, h⟩
        exact SqL.of h
      · rintro i x σ H' hx ⟨v, rfl, h⟩
        obtain ⟨z, hz, rfl⟩ := str_get hx
        refine ⟨_, rfl, z, rfl, hsha z (List.mem_of_getElem? hz), fun H'' s'' => ⟨_, rfl, ?_⟩⟩
        refine iteF ?_
        exact ⟨_, rfl, s'' _ _ h⟩
      · rintro σ H' ⟨v, rfl, h⟩
        refine ⟨by show 1 ≤ sizeLine; decide, fun e hee => ⟨by show 4 ≤ sizeLine; decide, fun d hd => ⟨d, rfl, ⟨_, SqL.of upd_same⟩, fun acc2 hacc2 => ?_⟩⟩⟩
        have h3 : (upd (upd H' e (.lst [V.str "."])) d (.lst [V.non, V.int 3, V.ref e, V.bl true])) e = some (.lst [V.str "."]) := by rw [upd_ne (ne_of_none (upd_same (H := H') (o := .lst [V.str "."])) hd)]; exact upd_same
        have h4 : (upd (upd H' e (.lst [V.str "."])) d (.lst [V.non, V.int 3, V.ref e, V.bl true])) d = some (.lst [V.non, V.int 3, V.ref e, V.bl true]) := upd_same
        generalize upd (upd H' e (.lst [V.str "."])) d (.lst [V.non, V.int 3, V.ref e, V.bl true]) = He at h3 h4 hacc2
        refine comp_list (K := K) (a := d) (xs := [V.non, V.int 3, V.ref e, V.bl true]) (fun i ys Hc => i ≤ 4 ∧ Same He Hc ∧ ys = (List.replicate i true).map V.bl ∧ Hc acc2 = some (.lst ys)) ⟨Nat.zero_le _, same_upd hacc2, rfl, upd_same⟩ ?_ ?_ ?_
        · rintro i ys Hc ⟨hi, sc, _⟩
          exact ⟨hi, SqL.of (sc _ _ h4)⟩
        · rintro i x ys Hc hx ⟨hi, sc, rfl, hac⟩
          have hi4 : i < 4 := (List.getElem?_eq_some_iff.mp hx).1
          have no : NoText K Hc x := by
            have h3' := sc _ _ h3
            match i, hi4, hx with
            | 0, _, hx => cases hx; exact .inl ⟨_, .non, rfl⟩
            | 1, _, hx => cases hx; exact .inl ⟨_, .int _, rfl⟩
            | 2, _, hx => cases hx; exact .inl ⟨_, .lst h3', rfl⟩
            | 3, _, hx => cases hx; exact .inl ⟨_, .bl _, rfl⟩
          refine tTrue_mk ?_
          refine iteT ?_
          refine ⟨_, rfl, x, rfl, no, fun H5 s5 => ⟨s5 _ _ hac, ?_, hi4, fun b o eb => ?_, ?_, upd_same⟩⟩
          · rw [List.length_map, List.length_replicate]
            exact small1000 (by omega)
          · rw [upd_ne (ne_of_none eb hacc2)]
            exact s5 _ _ (sc _ _ eb)
          · rw [List.replicate_succ', List.map_append]
            rfl
        · rintro ys Hc ⟨_, sc, rfl, hac⟩
          exact ⟨acc2, List.replicate 4 true, rfl, SqL.of hac, q _⟩
end
end Sw
namespace Sw
open PySem L2
theorem cls_some {K : PySem.W.Frag} {B : Addr} (hm : PySem.W.mroIn K B (.type "object") = some true) : (PySem.W.clsIn K B).isSome = true := by
  unfold PySem.W.mroIn at hm
  cases e : PySem.W.clsIn K B with
  | none => rw [e] at hm; cases hm
  | some cd => rfl
theorem kit_sub {K : PySem.W.Frag} {A B : Addr} {b : Bool} (hm : PySem.W.mroIn K B (.type "object") = some true) (ht : PySem.W.typeIn K (.ref B) = some (.type "type")) (hs : PySem.W.subIn K (.ref A) (.ref B) = some b) : PySem.W.kitCls K (.ref A) (.ref B) = some b := by
  show (if ((PySem.W.clsIn K B).isSome && PySem.W.typeIn K (.ref B) == some (.type "type")) = true then PySem.W.subIn K (.ref A) (.ref B) else none) = some b
  rw [cls_some hm, ht, if_pos (by decide)]
  exact hs
theorem kit_t {K : PySem.W.Frag} {A B : Addr} (hm : PySem.W.mroIn K B (.type "object") = some true) (ht : PySem.W.typeIn K (.ref B) = some (.type "type")) (hs : PySem.W.subIn K (.ref A) (.ref B) = some true) : PySem.W.kitOne K (.ref A) (.ref B) = some true := by
  unfold PySem.W.kitOne
  split
  · rfl
  · exact kit_sub hm ht hs
theorem kit_f {K : PySem.W.Frag} {A B : Addr} (hm : PySem.W.mroIn K B (.type "object") = some true) (ht : PySem.W.typeIn K (.ref B) = some (.type "type")) (hs : PySem.W.subIn K (.ref A) (.ref B) = some false) (hss : PySem.W.subIn K (.ref A) (.ref A) = some true) : PySem.W.kitOne K (.ref A) (.ref B) = some false := by
  unfold PySem.W.kitOne
  split
  · rename_i h
    have e : Value.ref A = Value.ref B := eq_of_beq h
    rw [← e, hss] at hs
    cases hs
  · exact kit_sub hm ht hs
theorem exm_t {K : PySem.W.Frag} {A B : Addr} {b : Bool} (hb : PySem.W.subIn K (.ref B) (.type "BaseException") = some true) (h : PySem.W.kitCls K (.ref A) (.ref B) = some b) : PySem.W.exmOne K (.ref A) (.ref B) = some b := by
  unfold PySem.W.exmOne
  rw [hb, if_pos (by decide)]
  exact h
theorem kit_ty {K : PySem.W.Frag} {A : Addr} {T : String} {b : Bool} (hT : PySem.W.kitMeta T = true) (h : PySem.W.subIn K (.ref A) (.type T) = some b) : PySem.W.kitOne K (.ref A) (.type T) = some b := by
  unfold PySem.W.kitOne
  split
  · rename_i e
    exact nomatch (eq_of_beq e : Value.ref A = Value.type T)
  · show (if PySem.W.kitMeta T = true then PySem.W.subIn K (.ref A) (.type T) else none) = some b
    rw [if_pos hT]
    exact h
end Sw
namespace Sw
open PySem L2
theorem all_mk {l : PySem.W.OpenLaw} {w : World} {K : PySem.W.Frag} {h : Heap} {mg : Str → Option Value} {fa : Addr} {C C0 CH CL CP CN CT f1 f2 f3 f4 f5 f6 f7 f8 f9 f10 f11 f12 f13 f14 f15 f16 f17 : Addr} {tk0 tk1 : Tok}
    {od1 an1 od2 an2 od3 an3 od4 an4 od5 an5 od6 an6 od7 an7 od8 an8 od9 an9 od10 an10 od11 an11 od12 an12 od13 an13 od14 an14 od15 an15 od16 an16 od17 an17 : Option Addr} {sl1 sl2 sl3 sl4 sl5 sl6 sl7 sl8 sl9 sl10 sl11 sl12 sl13 sl14 sl15 sl16 sl17 : Array (Option Value)} {oc1 kV1 dc1 pm1 cd1 ct1 oc2 kV2 dc2 pm2 cd2 ct2 oc3 kV3 dc3 pm3 cd3 ct3 oc4 kV4 dc4 pm4 cd4 ct4 oc5 kV5 dc5 pm5 cd5 ct5 oc6 kV6 dc6 pm6 cd6 ct6 oc7 kV7 dc7 pm7 cd7 ct7 oc8 kV8 dc8 pm8 cd8 ct8 oc9 kV9 dc9 pm9 cd9 ct9 oc10 kV10 dc10 pm10 cd10 ct10 oc11 kV11 dc11 pm11 cd11 ct11 oc12 kV12 dc12 pm12 cd12 ct12 oc13 kV13 dc13 pm13 cd13 ct13 oc14 kV14 dc14 pm14 cd14 ct14 oc15 kV15 dc15 pm15 cd15 ct15 oc16 kV16 dc16 pm16 cd16 ct16 oc17 kV17 dc17 pm17 cd17 ct17 : Value}
  (X : K.In h) (G : h.Ns mainGlobals mg) (hfa : mg "law" = some (.ref fa))
    (aC : PySem.W.nsIn K mainGlobals "House" = some (some (.ref C)))
    (aC0 : PySem.W.nsIn K mainGlobals "LampError" = some (some (.ref C0)))
    (aCH : PySem.W.nsIn K mainGlobals "BadHouse" = some (some (.ref CH)))
    (aCL : PySem.W.nsIn K mainGlobals "BadLamps" = some (some (.ref CL)))
    (aCP : PySem.W.nsIn K mainGlobals "BadPress" = some (some (.ref CP)))
    (aCN : PySem.W.nsIn K mainGlobals "NoSwitch" = some (some (.ref CN)))
    (aCT : PySem.W.nsIn K mainGlobals "BadText" = some (some (.ref CT)))
    (a1 : PySem.W.findIn K (.ref C) "__init__" = some (some (.ref f1))) (i1 : PySem.W.isFn K (.ref f1) = true)
    (l1 : K.lookup f1 = some ⟨oc1, od1, .func (PySem.W.fnOf "__init__" "House.__init__" (defArgs sInit) (defBody sInit) (defScope sInit) .none kV1 dc1 pm1 an1 cd1 ct1), sl1⟩) (c1 : PySem.W.codeIn K cd1 "House.__init__" = true) (k1 : PySem.W.keepIn K (.ref f1) = true)
    (a2 : PySem.W.findIn K (.ref C) "switches" = some (some (.ref f2))) (i2 : PySem.W.isFn K (.ref f2) = true)
    (l2 : K.lookup f2 = some ⟨oc2, od2, .func (PySem.W.fnOf "switches" "House.switches" (defArgs sSwitches) (defBody sSwitches) (defScope sSwitches) .none kV2 dc2 pm2 an2 cd2 ct2), sl2⟩) (c2 : PySem.W.codeIn K cd2 "House.switches" = true) (k2 : PySem.W.keepIn K (.ref f2) = true)
    (a3 : PySem.W.nsIn K mainGlobals "is_number" = some (some (.ref f3)))
    (l3 : K.lookup f3 = some ⟨oc3, od3, .func (PySem.W.fnOf "is_number" "is_number" (defArgs sIsNumber) (defBody sIsNumber) (defScope sIsNumber) .none kV3 dc3 pm3 an3 cd3 ct3), sl3⟩) (c3 : PySem.W.codeIn K cd3 "is_number" = true) (k3 : PySem.W.keepIn K (.ref f3) = true)
    (a4 : PySem.W.nsIn K mainGlobals "are_lamps" = some (some (.ref f4)))
    (l4 : K.lookup f4 = some ⟨oc4, od4, .func (PySem.W.fnOf "are_lamps" "are_lamps" (defArgs sAreLamps) (defBody sAreLamps) (defScope sAreLamps) .none kV4 dc4 pm4 an4 cd4 ct4), sl4⟩) (c4 : PySem.W.codeIn K cd4 "are_lamps" = true) (k4 : PySem.W.keepIn K (.ref f4) = true)
    (a5 : PySem.W.nsIn K mainGlobals "row_of" = some (some (.ref f5)))
    (l5 : K.lookup f5 = some ⟨oc5, od5, .func (PySem.W.fnOf "row_of" "row_of" (defArgs sRowOf) (defBody sRowOf) (defScope sRowOf) .none kV5 dc5 pm5 an5 cd5 ct5), sl5⟩) (c5 : PySem.W.codeIn K cd5 "row_of" = true) (k5 : PySem.W.keepIn K (.ref f5) = true)
    (a6 : PySem.W.nsIn K mainGlobals "is_row" = some (some (.ref f6)))
    (l6 : K.lookup f6 = some ⟨oc6, od6, .func (PySem.W.fnOf "is_row" "is_row" (defArgs sIsRow) (defBody sIsRow) (defScope sIsRow) .none kV6 dc6 pm6 an6 cd6 ct6), sl6⟩) (c6 : PySem.W.codeIn K cd6 "is_row" = true) (k6 : PySem.W.keepIn K (.ref f6) = true)
    (a7 : PySem.W.nsIn K mainGlobals "lamps_of" = some (some (.ref f7)))
    (l7 : K.lookup f7 = some ⟨oc7, od7, .func (PySem.W.fnOf "lamps_of" "lamps_of" (defArgs sLampsOf) (defBody sLampsOf) (defScope sLampsOf) .none kV7 dc7 pm7 an7 cd7 ct7), sl7⟩) (c7 : PySem.W.codeIn K cd7 "lamps_of" = true) (k7 : PySem.W.keepIn K (.ref f7) = true)
    (a8 : PySem.W.nsIn K mainGlobals "written" = some (some (.ref f8)))
    (l8 : K.lookup f8 = some ⟨oc8, od8, .func (PySem.W.fnOf "written" "written" (defArgs sWritten) (defBody sWritten) (defScope sWritten) .none kV8 dc8 pm8 an8 cd8 ct8), sl8⟩) (c8 : PySem.W.codeIn K cd8 "written" = true) (k8 : PySem.W.keepIn K (.ref f8) = true)
    (a9 : PySem.W.nsIn K mainGlobals "read" = some (some (.ref f9)))
    (l9 : K.lookup f9 = some ⟨oc9, od9, .func (PySem.W.fnOf "read" "read" (defArgs sRead) (defBody sRead) (defScope sRead) .none kV9 dc9 pm9 an9 cd9 ct9), sl9⟩) (c9 : PySem.W.codeIn K cd9 "read" = true) (k9 : PySem.W.keepIn K (.ref f9) = true)
    (a10 : PySem.W.nsIn K mainGlobals "_law_cell_at" = some (some (.ref f10)))
    (l10 : K.lookup f10 = some ⟨oc10, od10, .func (PySem.W.fnOf "_law_cell_at" "_law_cell_at" (defArgs sCellAt) (defBody sCellAt) (defScope sCellAt) .none kV10 dc10 pm10 an10 cd10 ct10), sl10⟩) (c10 : PySem.W.codeIn K cd10 "_law_cell_at" = true) (k10 : PySem.W.keepIn K (.ref f10) = true)
    (a11 : PySem.W.nsIn K mainGlobals "_law_draw" = some (some (.ref f11)))
    (l11 : K.lookup f11 = some ⟨oc11, od11, .func (PySem.W.fnOf "_law_draw" "_law_draw" (defArgs sDraw) (defBody sDraw) (defScope sDraw) .none kV11 dc11 pm11 an11 cd11 ct11), sl11⟩) (c11 : PySem.W.codeIn K cd11 "_law_draw" = true) (k11 : PySem.W.keepIn K (.ref f11) = true)
    (a12 : PySem.W.nsIn K mainGlobals "_law_told" = some (some (.ref f12)))
    (l12 : K.lookup f12 = some ⟨oc12, od12, .func (PySem.W.fnOf "_law_told" "_law_told" (defArgs sTold) (defBody sTold) (defScope sTold) .none kV12 dc12 pm12 an12 cd12 ct12), sl12⟩) (c12 : PySem.W.codeIn K cd12 "_law_told" = true) (k12 : PySem.W.keepIn K (.ref f12) = true)
    (a13 : PySem.W.nsIn K mainGlobals "_law_refused" = some (some (.ref f13)))
    (l13 : K.lookup f13 = some ⟨oc13, od13, .func (PySem.W.fnOf "_law_refused" "_law_refused" (defArgs sRefused) (defBody sRefused) (defScope sRefused) .none kV13 dc13 pm13 an13 cd13 ct13), sl13⟩) (c13 : PySem.W.codeIn K cd13 "_law_refused" = true) (k13 : PySem.W.keepIn K (.ref f13) = true)
    (a14 : PySem.W.nsIn K mainGlobals "_law_writes" = some (some (.ref f14)))
    (l14 : K.lookup f14 = some ⟨oc14, od14, .func (PySem.W.fnOf "_law_writes" "_law_writes" (defArgs sWrites) (defBody sWrites) (defScope sWrites) .none kV14 dc14 pm14 an14 cd14 ct14), sl14⟩) (c14 : PySem.W.codeIn K cd14 "_law_writes" = true) (k14 : PySem.W.keepIn K (.ref f14) = true)
    (a15 : PySem.W.nsIn K mainGlobals "_law_right" = some (some (.ref f15)))
    (l15 : K.lookup f15 = some ⟨oc15, od15, .func (PySem.W.fnOf "_law_right" "_law_right" (defArgs sRight) (defBody sRight) (defScope sRight) .none kV15 dc15 pm15 an15 cd15 ct15), sl15⟩) (c15 : PySem.W.codeIn K cd15 "_law_right" = true) (k15 : PySem.W.keepIn K (.ref f15) = true)
    (a16 : PySem.W.nsIn K mainGlobals "_law_other" = some (some (.ref f16)))
    (l16 : K.lookup f16 = some ⟨oc16, od16, .func (PySem.W.fnOf "_law_other" "_law_other" (defArgs sOther) (defBody sOther) (defScope sOther) .none kV16 dc16 pm16 an16 cd16 ct16), sl16⟩) (c16 : PySem.W.codeIn K cd16 "_law_other" = true) (k16 : PySem.W.keepIn K (.ref f16) = true)
    (a17 : PySem.W.nsIn K mainGlobals "law" = some (some (.ref f17)))
    (l17 : K.lookup f17 = some ⟨oc17, od17, .func (PySem.W.fnOf "law" "law" (defArgs sLaw) (defBody sLaw) (defScope sLaw) .none kV17 dc17 pm17 an17 cd17 ct17), sl17⟩) (c17 : PySem.W.codeIn K cd17 "law" = true) (k17 : PySem.W.keepIn K (.ref f17) = true)
    (pgC : PySem.W.plainGet K C Str.empty = true) (hdC : PySem.W.hasDictIn K C = true) (poC : PySem.W.plainOver K C = true) (saC : PySem.W.findIn K (.ref C) "__setattr__" = some (some (.builtin "object.__setattr__"))) (mkC : PySem.W.makesIn K C = true) (kcC : PySem.W.keepIn K (.ref C) = true)
    (na0 : PySem.W.findIn K (.ref C) "lamps" = some none)
    (na1 : PySem.W.findIn K (.ref C) "wiring" = some none)
    (co0 : PySem.W.nsIn K mainGlobals "MOST_LAMPS" = some (some (.int 10 tk0)))
    (co1 : PySem.W.nsIn K mainGlobals "MOST_SWITCHES" = some (some (.int 8 tk1)))
    (z_len : PySem.W.nsIn K mainGlobals "len" = some none)
    (z_range : PySem.W.nsIn K mainGlobals "range" = some none)
    (z_isinstance : PySem.W.nsIn K mainGlobals "isinstance" = some none)
    (z_int : PySem.W.nsIn K mainGlobals "int" = some none)
    (z_bool : PySem.W.nsIn K mainGlobals "bool" = some none)
    (z_list : PySem.W.nsIn K mainGlobals "list" = some none)
    (z_tuple : PySem.W.nsIn K mainGlobals "tuple" = some none)
    (z_all : PySem.W.nsIn K mainGlobals "all" = some none)
    (z_enumerate : PySem.W.nsIn K mainGlobals "enumerate" = some none)
    (z_sum : PySem.W.nsIn K mainGlobals "sum" = some none)
    (z_str : PySem.W.nsIn K mainGlobals "str" = some none)
    (z_any : PySem.W.nsIn K mainGlobals "any" = some none)
    (z_ValueError : PySem.W.nsIn K mainGlobals "ValueError" = some none)
    (exCT : PySem.W.excIn K CT [.type "ValueError", .type "Exception", .type "BaseException", .type "object"] "ValueError.__new__" = true)
    (gaCT : PySem.W.findIn K (.ref CT) "__getattribute__" = some (some (.builtin "BaseException.__getattribute__")))
    (grCT : PySem.W.findIn K (.ref CT) "__getattr__" = some none)
    (clCT : PySem.W.findIn K (.ref CT) "__class__" = some (some (.builtin "object.__class__")))
    (cg : PySem.W.specialIn K (.builtin "object.__class__") "__get__" = some (some (.builtin "getset_descriptor.__get__")))
    (ct : PySem.W.takesIn K (.builtin "object.__class__") = some true)
    (mrCT : PySem.W.mroIn K CT (.type "object") = some true)
    (mbCT : PySem.W.mroIn K CT (.type "BaseException") = some true)
    (mrC0 : PySem.W.mroIn K C0 (.type "object") = some true)
    (mrCH : PySem.W.mroIn K CH (.type "object") = some true)
    (mrCL : PySem.W.mroIn K CL (.type "object") = some true)
    (mrCP : PySem.W.mroIn K CP (.type "object") = some true)
    (mrCN : PySem.W.mroIn K CN (.type "object") = some true)
    (tyC0 : PySem.W.typeIn K (.ref C0) = some (.type "type"))
    (tyCH : PySem.W.typeIn K (.ref CH) = some (.type "type"))
    (tyCL : PySem.W.typeIn K (.ref CL) = some (.type "type"))
    (tyCP : PySem.W.typeIn K (.ref CP) = some (.type "type"))
    (tyCN : PySem.W.typeIn K (.ref CN) = some (.type "type"))
    (tyCT : PySem.W.typeIn K (.ref CT) = some (.type "type"))
    (suCTC0 : PySem.W.subIn K (.ref CT) (.ref C0) = some true)
    (suCTCH : PySem.W.subIn K (.ref CT) (.ref CH) = some false)
    (suCTCL : PySem.W.subIn K (.ref CT) (.ref CL) = some false)
    (suCTCP : PySem.W.subIn K (.ref CT) (.ref CP) = some false)
    (suCTCN : PySem.W.subIn K (.ref CT) (.ref CN) = some false)
    (suCTCT : PySem.W.subIn K (.ref CT) (.ref CT) = some true)
    (sb0 : PySem.W.subIn K (.ref C0) (.type "BaseException") = some true)
    (sv : PySem.W.subIn K (.ref CT) (.type "ValueError") = some true) :
    ∃ fd : FuncData, (∀ (s : Shared) (v : Value), BindsTo s fd ⟨[v], []⟩ [("_law_script", v)]) ∧ ∀ base : Heap, K.In base → base.Ns mainGlobals mg → FnOk l.prog w K mg base CX0 8 fa fd ["_law_script"] (spLaw K) := by
  have e := hfa.symm.trans (PySem.W.mg_of X G a17)
  cases e
  have F1 := fun_mk (st := sInit) l1 c1 k1
  have b1 := F1.binds (ps := ["self", "lamps", "switches"]) fun _ _ _ _ _ _ us hl => match us, hl with | [_, _, _], _ => rfl
  have F2 := fun_mk (st := sSwitches) l2 c2 k2
  have b2 := F2.binds (ps := ["self"]) fun _ _ _ _ _ _ us hl => match us, hl with | [_], _ => rfl
  have F3 := fun_mk (st := sIsNumber) l3 c3 k3
  have b3 := F3.binds (ps := ["value"]) fun _ _ _ _ _ _ us hl => match us, hl with | [_], _ => rfl
  have F4 := fun_mk (st := sAreLamps) l4 c4 k4
  have b4 := F4.binds (ps := ["count", "value"]) fun _ _ _ _ _ _ us hl => match us, hl with | [_, _], _ => rfl
  have F5 := fun_mk (st := sRowOf) l5 c5 k5
  have b5 := F5.binds (ps := ["count", "lamps"]) fun _ _ _ _ _ _ us hl => match us, hl with | [_, _], _ => rfl
  have F6 := fun_mk (st := sIsRow) l6 c6 k6
  have b6 := F6.binds (ps := ["count", "row"]) fun _ _ _ _ _ _ us hl => match us, hl with | [_, _], _ => rfl
  have F7 := fun_mk (st := sLampsOf) l7 c7 k7
  have b7 := F7.binds (ps := ["row"]) fun _ _ _ _ _ _ us hl => match us, hl with | [_], _ => rfl
  have F8 := fun_mk (st := sWritten) l8 c8 k8
  have b8 := F8.binds (ps := ["house"]) fun _ _ _ _ _ _ us hl => match us, hl with | [_], _ => rfl
  have F9 := fun_mk (st := sRead) l9 c9 k9
  have b9 := F9.binds (ps := ["text"]) fun _ _ _ _ _ _ us hl => match us, hl with | [_], _ => rfl
  have F10 := fun_mk (st := sCellAt) l10 c10 k10
  have b10 := F10.binds (ps := ["_law_script", "_law_k"]) fun _ _ _ _ _ _ us hl => match us, hl with | [_, _], _ => rfl
  have F11 := fun_mk (st := sDraw) l11 c11 k11
  have b11 := F11.binds (ps := ["_law_cell", "_law_k", "_law_many"]) fun _ _ _ _ _ _ us hl => match us, hl with | [_, _, _], _ => rfl
  have F12 := fun_mk (st := sTold) l12 c12 k12
  have b12 := F12.binds (ps := ["_law_script", "_law_first"]) fun _ _ _ _ _ _ us hl => match us, hl with | [_, _], _ => rfl
  have F13 := fun_mk (st := sRefused) l13 c13 k13
  have b13 := F13.binds (ps := ["_law_text"]) fun _ _ _ _ _ _ us hl => match us, hl with | [_], _ => rfl
  have F14 := fun_mk (st := sWrites) l14 c14 k14
  have b14 := F14.binds (ps := ["_law_text"]) fun _ _ _ _ _ _ us hl => match us, hl with | [_], _ => rfl
  have F15 := fun_mk (st := sRight) l15 c15 k15
  have b15 := F15.binds (ps := ["_law_text"]) fun _ _ _ _ _ _ us hl => match us, hl with | [_], _ => rfl
  have F16 := fun_mk (st := sOther) l16 c16 k16
  have b16 := F16.binds (ps := ["_law_text", "_law_cell", "_law_k"]) fun _ _ _ _ _ _ us hl => match us, hl with | [_, _, _], _ => rfl
  have F17 := fun_mk (st := sLaw) l17 c17 k17
  have b17 := F17.binds (ps := ["_law_script"]) fun _ _ _ _ _ _ us hl => match us, hl with | [_], _ => rfl
  refine ⟨PySem.W.fnOf "law" "law" (defArgs sLaw) (defBody sLaw) (defScope sLaw) .none kV17 dc17 pm17 an17 cd17 ct17, fun s v => .of_eq rfl, fun base _ _ => ?_⟩
  have T : Txt K mg C := ⟨⟨pgC, hdC, poC, saC⟩, na0, na1, PySem.W.mg_of X G aC, ⟨_, PySem.W.mg_of X G co0⟩, ⟨_, PySem.W.mg_of X G co1⟩, PySem.W.mg_none_of X G z_len, PySem.W.mg_none_of X G z_range, PySem.W.mg_none_of X G z_isinstance, PySem.W.mg_none_of X G z_int, PySem.W.mg_none_of X G z_bool, PySem.W.mg_none_of X G z_list, PySem.W.mg_none_of X G z_tuple, PySem.W.mg_none_of X G z_all⟩
  have FN : FnAt l.prog w K mg base "is_number" 1 ["value"] (spIsNumber K) := ⟨_, _, PySem.W.mg_of X G a3, k3, b3, ok_isNumber F3 T⟩
  have FAL : FnAt l.prog w K mg base "are_lamps" 2 ["count", "value"] (spAreLamps K) := ⟨_, _, PySem.W.mg_of X G a4, k4, b4, ok_areLamps F4 FN⟩
  have MH : MkAt l.prog w K mg base "House" C 3 ["self", "lamps", "switches"] (spInit K C) := ⟨_, _, PySem.W.mg_of X G aC, ⟨mkC, a1, i1, kcC⟩, b1, ok_init F1 T FN FAL⟩
  have FS : FSw l.prog w K mg base C := ⟨_, _, ⟨a2, i2, k2⟩, b2, ok_switches F2 T⟩
  have FRow : FnAt l.prog w K mg base "row_of" 1 ["count", "lamps"] spRowOf := ⟨_, _, PySem.W.mg_of X G a5, k5, b5, ok_rowOf F5 T.range⟩
  have FIr : FnAt l.prog w K mg base "is_row" 1 ["count", "row"] spIsRow := ⟨_, _, PySem.W.mg_of X G a6, k6, b6, ok_isRow F6 T.len T.all⟩
  have FLo : FnAt l.prog w K mg base "lamps_of" 1 ["row"] spLampsOf := ⟨_, _, PySem.W.mg_of X G a7, k7, b7, ok_lampsOf F7 (PySem.W.mg_none_of X G z_sum) (PySem.W.mg_none_of X G z_enumerate)⟩
  have FWr : FnAt l.prog w K mg base "written" 2 ["house"] (spWritten C) := ⟨_, _, PySem.W.mg_of X G a8, k8, b8, ok_written F8 T FS FRow⟩
  have FRd : FnAt l.prog w K mg base "read" 5 ["text"] (spRead C) := ⟨_, _, PySem.W.mg_of X G a9, k9, b9, ok_read F9 T (PySem.W.mg_none_of X G z_str) FRow FIr FLo MH⟩
  have Z8 : TxX K mg C0 CH CL CP CN CT := ⟨PySem.W.mg_of X G aC0, PySem.W.mg_of X G aCH, PySem.W.mg_of X G aCL, PySem.W.mg_of X G aCP, PySem.W.mg_of X G aCN, PySem.W.mg_of X G aCT, ⟨exCT, gaCT, grCT, clCT, cg, ct, mrCT, mbCT⟩, exm_t sb0 (kit_sub mrC0 tyC0 suCTC0), (kit_f mrCH tyCH suCTCH suCTCT), (kit_f mrCL tyCL suCTCL suCTCT), (kit_f mrCP tyCP suCTCP suCTCT), (kit_f mrCN tyCN suCTCN suCTCT), (kit_t mrCT tyCT suCTCT), kit_ty rfl sv, PySem.W.mg_none_of X G z_ValueError, PySem.W.mg_none_of X G z_any⟩
  have FRX : FnAtE l.prog w K mg base "read" 5 ["text"] (spReadX K CT) := ⟨_, _, PySem.W.mg_of X G a9, k9, b9, ok_readX F9 T Z8 (PySem.W.mg_none_of X G z_str) FRow FIr⟩
  have FC : FCell l.prog w K mg base := ⟨_, _, PySem.W.mg_of X G a10, k10, b10, ok_cellAt F10 T.len⟩
  have FD : FDraw l.prog w K mg base := ⟨_, _, PySem.W.mg_of X G a11, k11, b11, ok_draw F11⟩
  have FT : FnAt l.prog w K mg base "_law_told" 2 ["_law_script", "_law_first"] (spTold K) := ⟨_, _, PySem.W.mg_of X G a12, k12, b12, ok_told F12 T.range FC FD⟩
  have FRf : FnAt l.prog w K mg base "_law_refused" 6 ["_law_text"] (spRefused K) := ⟨_, _, PySem.W.mg_of X G a13, k13, b13, ok_refused F13 T Z8 FRX⟩
  have FWt : FnAt l.prog w K mg base "_law_writes" 1 ["_law_text"] spWrites := ⟨_, _, PySem.W.mg_of X G a14, k14, b14, ok_writes F14 T (PySem.W.mg_none_of X G z_any)⟩
  have FRi : FnAt l.prog w K mg base "_law_right" 7 ["_law_text"] spRight := ⟨_, _, PySem.W.mg_of X G a15, k15, b15, ok_right F15 FWt FRf FWr FRd⟩
  have FO : FnAt l.prog w K mg base "_law_other" 2 ["_law_text", "_law_cell", "_law_k"] spOther := ⟨_, _, PySem.W.mg_of X G a16, k16, b16, ok_other F16 T FD⟩
  exact ok_law F17 T MH FC FT FWr FRf FRi FO
theorem walk {l : PySem.W.OpenLaw} {q : Program} {loose : List Str} {XP : (Str → Option Value) → Heap → Prop} {YP : World → Heap → Prop} {d : DefRec} {K : Params → PySem.W.Frag} (hn : l.most = some 63) (hdf : d.params.defaults = [])
    (hY : ∀ (w : World) (h : Heap), YP w h → (K w.params).In h)
    (F : ∀ (w : World) (mg : Str → Option Value) (fa : Addr) (h : Heap), (K w.params).In h → h.Ns mainGlobals mg → mg d.name = some (.ref fa) →
      ∃ fd : FuncData, (∀ (s : Shared) (u : Value), BindsTo s fd ⟨[u], []⟩ [("_law_script", u)]) ∧ ∀ base : Heap, (K w.params).In base → base.Ns mainGlobals mg → FnOk l.prog w (K w.params) mg base CX0 8 fa fd ["_law_script"] (spLaw (K w.params))) :
    PySem.W.WalkO q loose XP YP l.row.toRowW d [] (fun f vs => PySem.call f vs) :=
  L2.walk_of (n := 63) (k := 8) (x := "_law_script") (CX := fun _ => CX0) (sp := fun w => spLaw (K w.params)) hn (by decide) hdf ⟨rfl, by decide, by decide⟩ hY F (fun _ _ a ns hl _ hS => ⟨a, ns, rfl, hS, hl, fun _ => rfl⟩) fun _ _ _ _ _ z => z
end Sw
open PySem PySem.W PyProof.Rows
set_option maxRecDepth 100000 in
set_option maxHeartbeats 0 in
theorem PySem.Challenge.cw_switchlamps_k08_texts_misread_holds : PySem.Challenge.rw_switchlamps_k08_texts_misread.Holds := by
  w_on; o_law; k_head; (case hw => w_witness2)
  k_fill
  refine Sw.walk (l := PySem.Challenge.rw_switchlamps_k08_texts_misread) rfl rfl (fun w h Y => PySem.W.kIn_of Y) ?F
  case F =>
    intro w mg fa h KX G hmg
    refine' Sw.all_mk KX G hmg ?aC ?aC0 ?aCH ?aCL ?aCP ?aCN ?aCT ?a1 ?i1 ?l1 ?c1 ?k1 ?a2 ?i2 ?l2 ?c2 ?k2 ?a3 ?l3 ?c3 ?k3 ?a4 ?l4 ?c4 ?k4 ?a5 ?l5 ?c5 ?k5 ?a6 ?l6 ?c6 ?k6 ?a7 ?l7 ?c7 ?k7 ?a8 ?l8 ?c8 ?k8 ?a9 ?l9 ?c9 ?k9 ?a10 ?l10 ?c10 ?k10 ?a11 ?l11 ?c11 ?k11 ?a12 ?l12 ?c12 ?k12 ?a13 ?l13 ?c13 ?k13 ?a14 ?l14 ?c14 ?k14 ?a15 ?l15 ?c15 ?k15 ?a16 ?l16 ?c16 ?k16 ?a17 ?l17 ?c17 ?k17 ?pgC ?hdC ?poC ?saC ?mkC ?kcC ?na0 ?na1 ?co0 ?co1 ?z_len ?z_range ?z_isinstance ?z_int ?z_bool ?z_list ?z_tuple ?z_all ?z_enumerate ?z_sum ?z_str ?z_any ?z_ValueError ?exCT ?gaCT ?grCT ?clCT ?cg ?ct ?mrCT ?mbCT ?mrC0 ?mrCH ?mrCL ?mrCP ?mrCN ?tyC0 ?tyCH ?tyCL ?tyCP ?tyCN ?tyCT ?suCTC0 ?suCTCH ?suCTCL ?suCTCP ?suCTCN ?suCTCT ?sb0 ?sv
    (case aC => k_is)
    (case aC0 => k_is)
    (case aCH => k_is)
    (case aCL => k_is)
    (case aCP => k_is)
    (case aCN => k_is)
    (case aCT => k_is)
    (case a1 => k_is)
    (case i1 => k_is)
    (case l1 => k_is)
    (case c1 => k_is)
    (case k1 => k_is)
    (case a2 => k_is)
    (case i2 => k_is)
    (case l2 => k_is)
    (case c2 => k_is)
    (case k2 => k_is)
    (case a3 => k_is)
    (case l3 => k_is)
    (case c3 => k_is)
    (case k3 => k_is)
    (case a4 => k_is)
    (case l4 => k_is)
    (case c4 => k_is)
    (case k4 => k_is)
    (case a5 => k_is)
    (case l5 => k_is)
    (case c5 => k_is)
    (case k5 => k_is)
    (case a6 => k_is)
    (case l6 => k_is)
    (case c6 => k_is)
    (case k6 => k_is)
    (case a7 => k_is)
    (case l7 => k_is)
    (case c7 => k_is)
    (case k7 => k_is)
    (case a8 => k_is)
    (case l8 => k_is)
    (case c8 => k_is)
    (case k8 => k_is)
    (case a9 => k_is)
    (case l9 => k_is)
    (case c9 => k_is)
    (case k9 => k_is)
    (case a10 => k_is)
    (case l10 => k_is)
    (case c10 => k_is)
    (case k10 => k_is)
    (case a11 => k_is)
    (case l11 => k_is)
    (case c11 => k_is)
    (case k11 => k_is)
    (case a12 => k_is)
    (case l12 => k_is)
    (case c12 => k_is)
    (case k12 => k_is)
    (case a13 => k_is)
    (case l13 => k_is)
    (case c13 => k_is)
    (case k13 => k_is)
    (case a14 => k_is)
    (case l14 => k_is)
    (case c14 => k_is)
    (case k14 => k_is)
    (case a15 => k_is)
    (case l15 => k_is)
    (case c15 => k_is)
    (case k15 => k_is)
    (case a16 => k_is)
    (case l16 => k_is)
    (case c16 => k_is)
    (case k16 => k_is)
    (case a17 => k_is)
    (case l17 => k_is)
    (case c17 => k_is)
    (case k17 => k_is)
    (case pgC => k_is)
    (case hdC => k_is)
    (case poC => k_is)
    (case saC => k_is)
    (case mkC => k_is)
    (case kcC => k_is)
    (case na0 => k_is)
    (case na1 => k_is)
    (case co0 => k_is)
    (case co1 => k_is)
    (case z_len => k_is)
    (case z_range => k_is)
    (case z_isinstance => k_is)
    (case z_int => k_is)
    (case z_bool => k_is)
    (case z_list => k_is)
    (case z_tuple => k_is)
    (case z_all => k_is)
    (case z_enumerate => k_is)
    (case z_sum => k_is)
    (case z_str => k_is)
    (case z_any => k_is)
    (case z_ValueError => k_is)
    (case exCT => k_exc)
    (case gaCT => k_is)
    (case grCT => k_is)
    (case clCT => k_is)
    (case cg => k_is)
    (case ct => k_is)
    (case mrCT => k_is)
    (case mbCT => k_is)
    (case mrC0 => k_is)
    (case mrCH => k_is)
    (case mrCL => k_is)
    (case mrCP => k_is)
    (case mrCN => k_is)
    (case tyC0 => k_is)
    (case tyCH => k_is)
    (case tyCL => k_is)
    (case tyCP => k_is)
    (case tyCN => k_is)
    (case tyCT => k_is)
    (case suCTC0 => k_is)
    (case suCTCH => k_is)
    (case suCTCL => k_is)
    (case suCTCP => k_is)
    (case suCTCN => k_is)
    (case suCTCT => k_is)
    (case sb0 => k_is)
    (case sv => k_is)
